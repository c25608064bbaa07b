/- Layer 6: appendLevel (59). -/
import Derived.Test.YtknbglcmjggkjaaU2
import Derived.Test.YtknbglcmjggkjaaLQ
namespace Go.Proofs.Ytknbglcmjggkjaa
open Go.RowKit Go.Shelf Go.Lib Co

attribute [local go_sem] Oper.semAt_some
theorem GrowR.step0 {w a b : World} {R : Option Nat} {v : Value} (h : GrowR w a R) (hv : OldNew w R v) (hg : a.grownBy b v.ownBlock) : GrowR w b R := by
  refine ⟨hg.os.trans h.os, hg.tape.trans h.tape, hg.output.trans h.output, Nat.le_trans h.size hg.size, fun k hk hne => ?_⟩
  have hka : k < a.heap.size := Nat.lt_of_lt_of_le hk h.size
  rw [hg.block k hka ?_, h.block k hk hne]
  rcases hv with hv | ⟨g, hv, hgg⟩
  · rw [hv]; exact hne
  · rw [hv]; intro e; injection e with e; omega
theorem GrowR.set {w a : World} {R : Option Nat} (h : GrowR w a R) {b : Nat} (hb : w.heap.size ≤ b) (i : Nat) (u : Value) : GrowR w (a.setCell ⟨b, i, none⟩ u) R :=
  ⟨h.os, h.tape, h.output, by rw [World.size_setCell]; exact h.size, fun k hk hne => by rw [Below.heap_setCell _ _ _ _ (by show k ≠ b; omega)]; exact h.block k hk hne⟩
theorem GrowR.alloc {w a : World} {R : Option Nat} (h : GrowR w a R) (o : Obj) : GrowR w (a.alloc o) R :=
  ⟨h.os, h.tape, h.output, Nat.le_trans h.size (by rw [World.size_alloc]; exact Nat.le_succ _), fun k hk hne => by rw [Below.heap_alloc _ _ _ (Nat.lt_of_lt_of_le hk h.size)]; exact h.block k hk hne⟩
theorem GrowR.putObj {w a : World} {R : Option Nat} (h : GrowR w a R) {b : Nat} (hb : w.heap.size ≤ b) (o : Obj) : GrowR w (a.putObj b o) R :=
  ⟨h.os, h.tape, h.output, by simpa [World.putObj] using h.size, fun k hk hne => by rw [World.putObj_heap_other (by omega)]; exact h.block k hk hne⟩
theorem OldNew.trans {w a : World} {R : Option Nat} {u v : Value} (h : OldNew w R u) (hs : w.heap.size ≤ a.heap.size) (k : OldNew a u.ownBlock v) : OldNew w R v := by
  rcases k with k | ⟨g, k, hg⟩
  · rcases h with h | ⟨g, h, hg⟩
    · exact .inl (k.trans h)
    · exact .inr ⟨g, k.trans h, hg⟩
  · exact .inr ⟨g, k, by omega⟩
theorem OwnT.growR {B : Nat} {β : Type} {w : World} {R : Option Nat} (hB : w.heap.size ≤ B) : OwnT T0 B (fun (_ : β) W => GrowR w W R) := by
  intro s A C row hs hg hr
  refine ⟨hg.os.trans hs.os, hg.tape.trans hs.tape, hg.output.trans hs.output, Nat.le_trans hs.size hg.size, fun k hk hne => ?_⟩
  rw [hg.block k (Nat.lt_of_lt_of_le hk hs.size) (fun e => by have := (hr k e.symm).1; omega)]
  exact hs.block k hk hne
/-- The bytes of weights. -/
def encs (n : Nat) (ws : List Nat) : List UInt8 := (ws.map (encW n)).flatten
theorem encs_snoc (n : Nat) (ws : List Nat) (x : Nat) : encs n (ws ++ [x]) = encs n ws ++ encW n x := by simp [encs]
theorem encs_len (n : Nat) (ws : List Nat) : (encs n ws).length = n * ws.length := by
  unfold encs
  induction ws with
  | nil => simp
  | cons a r ih => rw [List.map_cons, List.flatten_cons, List.length_append, ih, encW_len, List.length_cons, Nat.mul_succ]; omega
theorem encL_eq (n : Nat) (ws : List Nat) : encL n ws = encs n ws ++ encW n 0 := rfl
theorem own_slice {w : World} {B : Nat} {e : TypeId} {size : Nat} {v : Value} {n : Nat} {xs : List Value} (h : w.ownsRow B e size v n xs) : ∃ A m d, v = .slice A m d := by
  rcases h.2 with ⟨hv, _⟩ | ⟨g, cap, cur, hv, _⟩
  · exact ⟨_, _, _, hv⟩
  · exact ⟨_, _, _, hv⟩
set_option maxRecDepth 100000 in
set_option maxHeartbeats 8000000 in
theorem level_in {n B : Nat} {v : Value} {l : List UInt8} {lb : Array Value} {ws : List Nat} (w : World) (hB : B ≤ w.heap.size) (hv : Byt B w v l) (hl : l.length + n * ws.length ≤ 90000) (hn : n ≤ 3) (hws : ∀ x ∈ ws, x < 256 ^ n)
    (hseq : ∀ (Bs : Nat) (w' : World), SeqG T0 Bs Fence.wide 5 Try.prog 79 lb wEnc (fun xs => xs = ws) (fun pre => pre <+: ws) ws.length (fun W => GrowR w W v.ownBlock) w') :
    CallsIn Fence.wide 6 Try.prog 59 #[v, .func (.func 79) #[] lb, .int .i64 (n : Nat)] w (BytRet B v.ownBlock (l ++ encL n ws) w) := by
  have HS := Go.Lib.hid hseq
  clear hseq
  obtain ⟨A, m, d, hvf⟩ := own_slice hv
  refine callsIn_of_wp_marks Try.func59 rfl trivial ?_ rfl
  simp only [Try.ntmps59, List.size_toArray, List.length_cons, List.length_nil, Nat.reduceAdd, Nat.reduceSub, Array.replicate_succ, Array.replicate_zero, List.push_toArray, List.append_toArray, List.nil_append, List.cons_append]
  subst hvf
  gi_wp2
  rw [show (Value.slice A m d) = (Value.slice A m d) from rfl]
  obtain ⟨v, hvf⟩ : ∃ v, v = Value.slice A m d := ⟨_, rfl⟩
  rw [← hvf] at hv HS ⊢
  have b1 := (Boxed.new w 65 v).alloc (.cells #[.int .i64 (n : Nat)] 3)
  have b2 := Boxed.new (w.alloc (.cells #[v] 65)) 3 (.int .i64 (n : Nat))
  rw [World.size_alloc] at b2
  have hr0 : ((w.alloc (.cells #[v] 65)).alloc (.cells #[.int .i64 (n : Nat)] 3)).ownsRow B 5 1 v l.length (bv l) := World.ownsRow.alloc (World.ownsRow.alloc hv _) _
  have hG0 : GrowR w ((w.alloc (.cells #[v] 65)).alloc (.cells #[.int .i64 (n : Nat)] 3)) v.ownBlock := ((GrowR.refl w _).alloc _).alloc _
  have hsz : ((w.alloc (.cells #[v] 65)).alloc (.cells #[.int .i64 (n : Nat)] 3)).heap.size = w.heap.size + 2 := by simp
  generalize ((w.alloc (.cells #[v] 65)).alloc (.cells #[.int .i64 (n : Nat)] 3)) = W0 at b1 b2 hr0 hG0 hsz ⊢
  refine rangeG1 (T := T0) (Bs := w.heap.size + 1) (G := fun W => GrowR w W v.ownBlock) rfl (by decide) (gf := 79) (lb := lb) rfl trivial (enters_of Try.func79 (by kernel_rfl) rfl)
    (by omega) (HS.out (w.heap.size + 1) W0)
    (fun (pre : List Nat) W => (∃ u, Boxed W w.heap.size 65 u ∧ W.ownsRow B 5 1 u (l ++ encs n pre).length (bv (l ++ encs n pre)) ∧ OldNew w v.ownBlock u) ∧ GrowR w W v.ownBlock ∧ Boxed W (w.heap.size + 1) 3 (.int .i64 (n : Nat))) (fun _ _ _ => False)
    (fun _ W h => h.2.1)
    (OwnT.and (OwnT.row rfl rfl 1 (fun (pre : List Nat) => (l ++ encs n pre).length) (fun (pre : List Nat) => bv (l ++ encs n pre)) (fun _ u => OldNew w v.ownBlock u)) (OwnT.and (OwnT.growR (by omega)) (OwnT.boxed rfl (fun _ => _)))) (fun _ _ _ _ _ hs _ _ => hs)
    ⟨⟨v, b1, by rw [show encs n [] = [] from rfl, List.append_nil]; exact hr0, .inl rfl⟩, hG0, b2⟩ ?round ?done ?stop
  case round =>
    clear b1 b2 hr0 hG0
    rintro l' pre x W ⟨⟨u, h1, h2, h3⟩, hG, h4⟩ hlt hpre hl' hlW
    gi_wp2
    refine ⟨KeepsFrom.refl _ _, Kpt.refl _, ⟨⟨u, h1, h2, h3⟩, hG, h4⟩, ?_⟩
    rintro V hg ⟨⟨u, j1, j2, j3⟩, hGV, j4⟩
    have hx : x < 256 ^ n := hws x (hpre.subset (by simp))
    have hVs := hGV.size
    have hlen : (l ++ encs n pre).length ≤ 100000 := by
      have := hpre.length_le
      rw [List.length_append, encs_len, ]
      have : n * pre.length ≤ n * ws.length := Nat.mul_le_mul_left n (by simp at this; omega)
      omega
    have cW := weight_any V (Nat.le_trans hB hVs) j2 hlen hn hx
    have d1 := j1.cell
    have d4 := j4.cell
    clear h1 h2 h3 hG h4 hg
    gi_wp2_with (refine ⟨trivial, ?_⟩; gi_at_call 78; refine (callsIn_wide.2 cW).mono ?_; rintro e w9 ⟨v9, rfl, hv9, hg9, ho9⟩; obtain ⟨A9, m9, d9, rfl⟩ := own_slice hv9; have i1 : Boxed w9 w.heap.size 65 u := j1.kept hg9 (j1.not_row (by decide) j2); have i1c := i1.cell; have i1f := i1.frozen)
    have i4 : Boxed w9 (w.heap.size + 1) 3 (.int .i64 (n : Nat)) := j4.kept hg9 (j4.not_row (by decide) j2)
    refine ⟨⟨by rw [World.size_setCell]; exact hg9.size, fun k o _ hk ho => ?_⟩, ?_, ⟨⟨_, i1.set _, ?_, j3.trans hVs ho9⟩, (hGV.step0 j3 hg9).set (Nat.le_refl _) _ _, i4.other (by omega) _⟩⟩
    · have hk1 : k ≠ w.heap.size := fun e => by subst e; rw [show V.heap[w.heap.size]? = _ from j1] at hk; cases hk; cases ho
      rw [Below.heap_setCell _ _ _ _ hk1]
      refine (hg9.block k (Array.getElem?_eq_some_iff.1 hk).1 (fun e => ?_)).trans hk
      obtain ⟨_, cur, hc⟩ := row_type j2 k e.symm
      rw [hk] at hc; cases hc; cases ho
    · refine (Kpt.of_grownBy j4.lt hg9 (fun r e => ?_)).trans (Kpt.boxed i4.lt i1 (by omega) rfl _)
      obtain ⟨_, cur, hc⟩ := row_type j2 r e
      refine ⟨fun e2 => ?_, _, hc, rfl⟩
      subst e2
      exact j4.not_row (by decide) j2 e.symm
    · rw [encs_snoc, ← List.append_assoc]
      exact (show World.ownsRow _ _ _ _ _ _ _ from hv9).kept (grownBy_setCell' _ _ _) (by
        by_cases hvb : (Value.slice A9 m9 d9).ownBlock = none
        · exact .inl hvb
        · exact .inr (fun e => i1.not_row (by decide) hv9 e.symm))
  case done =>
    clear b1 b2 hr0 hG0
    rintro D xs W hD rfl ⟨⟨u, j1, j2, j3⟩, hGV, j4⟩ hK
    have hVs := hGV.size
    have hlen : (l ++ encs n xs).length ≤ 100000 := by rw [List.length_append, encs_len]; omega
    have cW := weight_any (x := 0) (n := n) W (Nat.le_trans hB hVs) j2 hlen hn (Nat.pow_pos (by decide))
    have d1 := j1.cell
    have d4 := j4.cell
    clear HS
    gi_wp2_with (refine ⟨trivial, ?_⟩; gi_at_call 78; refine (callsIn_wide.2 cW).mono ?_; rintro e w9 ⟨v9, rfl, hv9, hg9, ho9⟩; obtain ⟨A9, m9, d9, rfl⟩ := own_slice hv9)
    have hK9 : w9.heap[D]? = some (.deferred (some [])) := (hg9.block D (Array.getElem?_eq_some_iff.1 hK).1 (fun e => by
      obtain ⟨_, cur, hc⟩ := row_type j2 D e.symm
      rw [hK] at hc; cases hc)).trans hK
    refine ⟨by simp, .inl ⟨_, _, rfl, run_takeDeferred hK9, ?_⟩⟩
    refine ⟨.slice A9 m9 d9, by simp [results, Try.results59, go_sem], ?_⟩
    rw [hvf] at hGV j3
    refine ⟨_, rfl, ?_, GrowR.putObj (GrowR.step0 hGV j3 hg9) (by omega) _, j3.trans hVs ho9⟩
    rw [encL_eq, ← List.append_assoc]
    exact ownsRow_putObj hv9 _ hK9 rfl
  case stop =>
    rintro D c pre W _ _ h _
    exact h.elim
end Go.Proofs.Ytknbglcmjggkjaa

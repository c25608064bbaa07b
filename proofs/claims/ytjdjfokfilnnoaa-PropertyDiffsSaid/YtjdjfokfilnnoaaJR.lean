/- Layer 7: slices.Backward over changes; Inverse. -/
import Derived.Test.YtjdjfokfilnnoaaJQ
namespace Go.Proofs.Ytjdjfokfilnnoaa
open Go.RowKit Go.Shelf Go.Lib

attribute [local go_sem] Oper.semAt_some

theorem fold_two (p q : Tmp) (v u : Value) (ts : Array Value) : ((#[p, q] : Array Tmp).zip #[v, u]).foldl (fun t (p, v) => t.setIfInBounds p v) ts = (ts.setIfInBounds p v).setIfInBounds q u := by
  simp
section
variable {T : TypeId → Bool} {Bs : Nat} {F : Fence} {n : Nat} {P : Program}
theorem rangeG2 {α : Type} {g : Operand} {p q : Tmp} {assign body : Code} {Q : Exit → Act → World → Prop} {a : Act} {w : World}
    (hro : F.round = none) (h1 : 1 ≤ n) {gf : Nat} {lb : Array Value} (hg : a.eval g = .func (.func gf) #[] lb) (hFg : F.fn gf) (eg : ∀ args w, (callFunc gf args).run P w = .ok (.enter gf args) w)
    {enc1 enc2 : α → Value} {S Sp : List α → Prop} {N : Nat} {G : World → Prop} (hBs : Bs < w.heap.size) (hseq : SeqG T Bs F (n - 1) P gf lb (fun x => #[enc1 x, enc2 x]) S Sp N G w)
    (I : List α → World → Prop) (Ix : Code → List α → World → Prop) (hIG : ∀ pre W, I pre W → G W) (hI : OwnT T w.heap.size I) (hIx : ∀ c, OwnT T w.heap.size (Ix c)) (h0 : I [] w)
    (hround : ∀ (l : Nat) (pre : List α) (x : α) (W : World), I pre W → pre.length < N → Sp (pre ++ [x]) → w.heap.size ≤ l → l < W.heap.size →
      assign.wpIn (F.inRound l) (n - 1 - 1) P (Exit.then (fun a₁ V => KeepsFrom w.heap.size W V ∧ Kpt T Bs W V ∧ I pre V ∧
        ∀ V', V.grownBy V' (some l) → I pre V' → body.wpIn (F.inRound l) (n - 1 - 1) P (postT T Bs w.heap.size I Ix (pre ++ [x]) V') a₁ V') (fun _ _ _ => False))
        { tmps := (a.tmps.setIfInBounds p (enc1 x)).setIfInBounds q (enc2 x), defers := [] } W)
    (hdone : ∀ (D : Nat) (xs : List α) (W : World), w.heap.size ≤ D → S xs → I xs W → W.heap[D]? = some (.deferred (some [])) → Q .normal { a with defers := { target := .collected D, args := #[] } :: a.defers } W)
    (hstop : ∀ (D : Nat) (c : Code) (pre : List α) (W : World), w.heap.size ≤ D → Sp pre → Ix c pre W → W.heap[D]? = some (.deferred (some [])) → c.wpIn F n P Q { a with defers := { target := .collected D, args := #[] } :: a.defers } W) :
    (Code.rangeFunc g #[p, q] assign body).wpIn F n P Q a w :=
  rangeG hro h1 hg hFg eg hBs hseq (fun _ => rfl) I Ix hIG hI hIx h0 (fun l pre x W hi hlen hsp hl hlW => by
    have e : ((#[p, q] : Array Tmp).zip #[enc1 x, enc2 x]).foldl (fun t (p, v) => t.setIfInBounds p v) a.tmps = (a.tmps.setIfInBounds p (enc1 x)).setIfInBounds q (enc2 x) := fold_two p q (enc1 x) (enc2 x) a.tmps
    rw [e]
    exact hround l pre x W hi hlen hsp hl hlW) hdone hstop
end
/-- How the iterator ends. -/
def BackPost (cs : List Ch) (J Jx : List (Nat × Ch) → World → Prop) (e : Ending) (W' : World) : Prop :=
  (∃ v, e = .returned v) ∧ ((∃ xs, xs.map (·.2) = cs.reverse ∧ J xs W') ∨ (∃ pre, True ∧ Jx pre W'))
abbrev bEnc (x : Nat × Ch) : Array Value := #[.int .i64 x.1, chV x.2]
set_option maxRecDepth 100000 in
set_option maxHeartbeats 4000000 in
theorem backF_any (A : Option Addr) (n c : Nat) (w : World) :
    Calls Try.prog 57 #[.slice A n c] w fun e w' => e = .returned (.func (.func 67) #[] #[.pointer (some ⟨w.heap.size, 0, none⟩)]) ∧ w' = w.alloc (.cells #[.slice A n c] 61) := by
  go_enter Try.func57, Try.ntmps57
  go_wp2
  go_ret
  exact ⟨rfl, rfl⟩
set_option maxRecDepth 100000 in
set_option maxHeartbeats 8000000 in
theorem back_gen (n : Nat) (hn : 1 ≤ n) (L Ba : Nat) (A : Option Addr) (m d : Nat) (cs : List Ch) (hcs : cs.length = m) (hm : m ≤ 1000) (J Jx : List (Nat × Ch) → World → Prop) (n0 : Nat) (w0 W : World)
    (hn0 : w0.heap.size ≤ n0) (hA : ChAt w0 A cs) (hG : ∀ pre W', J pre W' → Below n0 w0 W') (ha : Boxed W Ba 61 (.slice A m d))
    (hY : ∀ pre x W1, J pre W1 → pre.length < m → YieldAt Fence.wide (n - 1) Try.prog L (bEnc x) W1 fun e W' =>
      (e = .returned (.bool true) ∧ J (pre ++ [x]) W' ∧ Kpt TZ Ba W1 W') ∨ (e = .returned (.bool false) ∧ Jx (pre ++ [x]) W')) (h0 : J [] W) :
    CallsIn Fence.wide n Try.prog 67 #[.func (.yield L) #[] #[], .pointer (some ⟨Ba, 0, none⟩)] W (BackPost cs J Jx) := by
  have YY := Go.Lib.hid hY
  have GG := Go.Lib.hid hG
  have J0 := Go.Lib.hid h0
  have PA := Go.Lib.hid hA
  have HC := Go.Lib.hid hcs
  have HB0 := Go.Lib.hid ha
  have hac := ha.cell
  clear hY hG h0 hA ha hcs
  refine callsIn_of_wp Try.func67 rfl trivial ?_ rfl
  simp only [Try.ntmps67, List.size_toArray, List.length_cons, List.length_nil, Nat.reduceAdd, Nat.reduceSub, Array.replicate_succ, Array.replicate_zero, List.push_toArray, List.append_toArray, List.nil_append, List.cons_append]
  gi_wp2
  gi_loopw [3] (fun s3 wr => ∃ (k : Nat) (j : Int) (pre : List (Nat × Ch)), s3 = .int .i64 j ∧ j = (k : Int) - 1 ∧ pre.length + k = m ∧ Hid (pre.map (·.2) = (cs.drop k).reverse) ∧ Hid (J pre wr) ∧ Hid (Boxed wr Ba 61 (.slice A m d))) (fun s3 _ => (RowKit.intOf s3 + 1).toNat)
  case atStart => exact ⟨m, _, [], rfl, by go_num, by simp, Go.Lib.hid (by rw [List.drop_of_length_le (by rw [HC.out]; exact Nat.le_refl _)]; rfl), J0, HB0⟩
  case round =>
    obtain ⟨k, j, pre, rfl, hj, hpk, HX, HJ, HB⟩ := hrel
    clear hac J0 HB0
    have hbx := HB.out.cell
    cases k with
    | zero =>
      have hj0 : j < 0 := by omega
      clear hj
      gi_wp2
      go_end0
      exact ⟨⟨_, rfl⟩, .inl ⟨pre, by have := HX.out; simpa using this, HJ.out⟩⟩
    | succ k =>
      obtain rfl : j = (k : Int) := by omega
      clear hj
      have hkc : k < cs.length := by rw [HC.out]; omega
      have f0 : (0 : Int) ≤ (k : Int) := by omega
      have f1 : (k : Int) < (m : Int) := by omega
      rcases PA.out with hA0 | ⟨g, o, rfl, hg, hcl⟩
      · rw [hA0] at hkc; exact absurd hkc (Nat.not_lt_zero _)
      obtain ⟨h0, h1, h2, h3, h4⟩ := hcl k hkc
      have hbw := GG.out pre wr HJ.out
      have hg' := Nat.lt_of_lt_of_le hg hn0
      have c0 := (hbw.cell (p := ⟨g, o + k * 5, none⟩) hg').trans h0
      have c1 := (hbw.cell (p := ⟨g, o + k * 5 + 1, none⟩) hg').trans h1
      have c2 := (hbw.cell (p := ⟨g, o + k * 5 + 2, none⟩) hg').trans h2
      have c3 := (hbw.cell (p := ⟨g, o + k * 5 + 3, none⟩) hg').trans h3
      have c4 := (hbw.cell (p := ⟨g, o + k * 5 + 4, none⟩) hg').trans h4
      have HN := Go.Lib.hid (show (pre ++ [(k, cs[k])]).map (·.2) = (cs.drop k).reverse from by rw [List.map_append, HX.out, List.drop_eq_getElem_cons hkc, List.reverse_cons]; rfl)
      have HLt := Go.Lib.hid (show pre.length < m from by omega)
      clear h0 h1 h2 h3 h4 hcl hbw
      generalize cs[k] = y at c0 c1 c2 c3 c4 HN
      clear hkc
      obtain ⟨yk, yo, yn, yh, ys⟩ := y
      dsimp only at c0 c1 c2 c3 c4
      obtain ⟨fn, tmps, assign, body, hy, hRd⟩ := YY.out pre (k, yk, yo, yn, yh, ys) wr HJ.out HLt.out
      unfold bEnc chV at hy
      dsimp only at hy
      gi_wp2
      refine hRd.mono ?_
      rintro e w8 (⟨rfl, hJ8, hk8⟩ | ⟨rfl, hJx8⟩)
      · have HJ8 := Go.Lib.hid hJ8
        have HB8 := Go.Lib.hid (show Boxed w8 Ba 61 _ from hk8.str.trans HB.out)
        clear hy hJ8 hk8 hRd
        gi_wp2
        go_roundw
        case rel => exact ⟨k, _, pre ++ [(k, yk, yo, yn, yh, ys)], rfl, by go_num, by rw [List.length_append]; simp; omega, HN, HJ8, HB8⟩
        case measure => simp [RowKit.intOf]
      · gi_wp2
        refine bodyPost_ret (results_none rfl _ _ _) rfl ?_
        exact ⟨⟨_, rfl⟩, .inr ⟨_, trivial, hJx8⟩⟩
theorem back_any (n : Nat) (hn : 1 ≤ n) (Ba : Nat) (A : Option Addr) (m d : Nat) (cs : List Ch) (hcs : cs.length = m) (hm : m ≤ 1000) (n0 : Nat) (w0 w : World)
    (hn0 : w0.heap.size ≤ n0) (hA : ChAt w0 A cs) (ha : Boxed w Ba 61 (.slice A m d)) :
    SeqG TZ Ba Fence.wide n Try.prog 67 #[.pointer (some ⟨Ba, 0, none⟩)] bEnc (fun xs => xs.map (·.2) = cs.reverse) (fun _ => True) m (fun W => Below n0 w0 W) w := by
  intro L J Jx W hw _ _ hG hY h0
  exact back_gen n hn L Ba A m d cs hcs hm J Jx n0 w0 W hn0 hA hG (boxed_below ha hw) (fun pre x W1 h1 h2 => hY pre x W1 h1 h2 trivial) h0
/-- What Inverse hands back. -/
def InvRet (cs : List Ch) (w : World) (e : Ending) (w' : World) : Prop :=
  ∃ v, e = .returned v ∧ w'.ownsRow w.heap.size 64 5 v (inverseP cs).length (rowC (inverseP cs)) ∧ Below w.heap.size w w'
set_option maxRecDepth 100000 in
set_option maxHeartbeats 4000000 in
theorem inverse_in (A : Option Addr) (m d : Nat) (cs : List Ch) (hcs : cs.length = m) (hm : m ≤ 1000) (w : World) (hA : ChAt w A cs) :
    CallsIn Fence.wide 6 Try.prog 44 #[.slice A m d] w (InvRet cs w) := by
  obtain ⟨i0, hi, hz0, hz1, hz2⟩ := info_parts info64
  have cB := fun A n c w' => backF_any A n c w'
  refine callsIn_of_wp_marks Try.func44 rfl trivial ?_ rfl
  simp only [Try.ntmps44, List.size_toArray, List.length_cons, List.length_nil, Nat.reduceAdd, Nat.reduceSub, Array.replicate_succ, Array.replicate_zero, List.push_toArray, List.append_toArray, List.nil_append, List.cons_append]
  gi_wp2_with (refine ⟨trivial, ?_⟩; gi_at_call 57; refine (callsIn_wide.2 (cB _ _ _ _)).mono ?_; rintro e w2 ⟨rfl, rfl⟩)
  have hB0 : Below w.heap.size w ((w.alloc (.cells #[.slice none 0 0] 61)).alloc (.cells #[.slice A m d] 61)) := ((Below.refl _ w).alloc (Nat.le_refl _) _).alloc (by simp) _
  have bN := (Boxed.new w 61 (.slice none 0 0)).alloc (.cells #[.slice A m d] 61)
  have bA := Boxed.new (w.alloc (.cells #[.slice none 0 0] 61)) 61 (.slice A m d)
  rw [World.size_alloc] at bA
  refine rangeG2 (T := TZ) (Bs := w.heap.size + 1) (G := fun W => Below w.heap.size w W) rfl (by decide) (enc1 := fun x => .int .i64 x.1) (enc2 := fun x => chV x.2) (gf := 67) (lb := #[.pointer (some ⟨w.heap.size + 1, 0, none⟩)]) rfl trivial (enters_of Try.func67 (by kernel_rfl) rfl)
    (by simp) (back_any 5 (by decide) (w.heap.size + 1) A m d cs hcs hm w.heap.size w _ (Nat.le_refl _) hA bA)
    (fun (pre : List (Nat × Ch)) W => (∃ v, Boxed W w.heap.size 61 v ∧ W.ownsRow (w.heap.size + 2) 64 5 v pre.length (rowC (pre.map (fun x => swapC x.2))) ∧ True) ∧ Below w.heap.size w W) (fun _ _ _ => False) (fun _ _ h => h.2)
    (OwnT.and (OwnT.row rfl rfl 5 (fun (pre : List (Nat × Ch)) => pre.length) (fun (pre : List (Nat × Ch)) => rowC (pre.map (fun x => swapC x.2))) (fun _ _ => True)) (OwnT.below (Nat.le_refl _) (by simp; omega))) (fun _ _ _ _ _ hs _ _ => hs)
    ⟨⟨_, bN, World.ownsRow_nil _ _ _ _, trivial⟩, hB0⟩ ?round ?done ?stop
  case round =>
    clear bN bA hB0 cB
    rintro l pre x W ⟨⟨v, hv, hrow, _⟩, hB⟩ hlt _ hl hlW
    have hW1 := hB.size
    simp only [World.size_alloc] at hl
    have hBs : w.heap.size + 1 < W.heap.size := by omega
    unfold chV
    obtain ⟨i, k, o, nw, had, has⟩ := x
    dsimp only
    gi_wp2
    refine ⟨(KeepsOthers.alloc _ _).from _, Kpt.alloc (by omega) _, ⟨⟨v, hv.alloc _, hrow.alloc _, trivial⟩, hB.alloc (by omega) _⟩, ?_⟩
    rintro V hg ⟨⟨u, hu, hro, _⟩, hBV⟩
    have hVs := hg.size
    simp only [World.size_alloc] at hVs
    have hc0 : V.cell? ⟨W.heap.size, 0, none⟩ = some (.int .i64 k) := hg.cell (by simp) (fun e => by simp at e; omega)
    have hc1 : V.cell? ⟨W.heap.size, 1, none⟩ = some (.int .i64 o) := hg.cell (by simp) (fun e => by simp at e; omega)
    have hc2 : V.cell? ⟨W.heap.size, 2, none⟩ = some (.int .i64 nw) := hg.cell (by simp) (fun e => by simp at e; omega)
    have hc3 : V.cell? ⟨W.heap.size, 3, none⟩ = some (.bool had) := hg.cell (by simp) (fun e => by simp at e; omega)
    have hc4 : V.cell? ⟨W.heap.size, 4, none⟩ = some (.bool has) := hg.cell (by simp) (fun e => by simp at e; omega)
    have hc := hu.cell
    have hpl2 : pre.length ≤ 2000 := by omega
    clear hv hrow hB hg
    gi_wp2_with (gi_at_builtin; refine wpListIn_append_own _ rfl _ _ 61 rfl (w.heap.size + 2) 64 i0 (.agg #[.int .i64 0, .int .i64 0, .int .i64 0, .bool false, .bool false]) 5 32 Try.underlying61 hi hz0 hz1 hz2 rfl (by decide) _ _ _ rfl (hro.alloc _) ⟨V.heap.size, 0, none⟩ 1 1 [.int .i64 k, .int .i64 nw, .int .i64 o, .bool has, .bool had] rfl rfl (cell_new5 _ _ _ _ _ _ _) (by intro u hu; simp at hu; rcases hu with rfl | rfl | rfl | rfl | rfl <;> rfl) (by unfold maxLen; omega) (by omega) (by simp; omega) ?_; intro v' w2 hown' hgrow _; obtain ⟨g', cap', rfl⟩ := ownsRow_succ hown'; obtain ⟨hv1, hv2, _, hk2, hb2⟩ := hu.appended (by decide) (own_lower hro (b' := w.heap.size) (by omega)) (by omega) (Nat.le_refl _) (own_lower hown' (b' := w.heap.size) (by omega)) hgrow; have hr2 := hown'.kept (grownBy_setCell' w2 w.heap.size (.slice (some ⟨g', 0, none⟩) (pre.length + 1) cap')) (.inr (hv1.not_row (by decide) hown').symm); have kk := kpt_append (T := TZ) (Bs := w.heap.size + 1) (by omega) hu (by omega) rfl rfl (by decide) hro (fun g hg => by have := (row_type hro g hg).1; omega) hgrow (v' := .slice (some ⟨g', 0, none⟩) (pre.length + 1) cap'); have hcv := hv1.cell; have hfv := hv1.frozen)
    refine ⟨hk2.from _, kk, ⟨⟨_, hv2, ?_, trivial⟩, hBV.trans hb2⟩⟩
    rw [List.map_append, List.map_singleton, rowC_snoc, List.length_append]; exact hr2
  case done =>
    rintro D xs W hD hxs ⟨⟨v, hv, hrow, _⟩, hB⟩ hK
    have hxs2 : xs.map (fun x => swapC x.2) = inverseP cs := by unfold inverseP; rw [← hxs, List.map_map]; rfl
    have hxl : xs.length = (inverseP cs).length := by rw [← hxs2, List.length_map]
    rw [hxs2, hxl] at hrow
    clear hxs hxs2 hxl
    simp only [World.size_alloc] at hD
    have hc := hv.cell
    gi_wp2
    refine ⟨by simp, .inl ⟨_, _, rfl, run_takeDeferred hK, ?_⟩⟩
    refine ⟨v, by simp [results, Try.results44, go_sem], v, rfl, ownsRow_putObj (own_lower hrow (by omega)) _ hK rfl, hB.trans (belowK_b (w := w) (Nat.le_refl _) W D _ _ (by omega) hK rfl rfl)⟩
  case stop =>
    rintro D c pre W _ _ h _
    exact h.elim
theorem inverse_any (A : Option Addr) (m d : Nat) (cs : List Ch) (hcs : cs.length = m) (hm : m ≤ 1000) (w : World) (hA : ChAt w A cs) :
    Calls Try.prog 44 #[.slice A m d] w (InvRet cs w) := callsIn_wide.1 (inverse_in A m d cs hcs hm w hA)
end Go.Proofs.Ytjdjfokfilnnoaa

/- Layer 8: slices.Backward over styles (68, 87); indices (47), Find (19). -/
import Derived.Test.YtbkpokipibgdfaaS4
namespace Go.Proofs.Ytbkpokipibgdfaa
open Go.RowKit Go.Shelf Go.Lib Go.Maps
set_option linter.unusedVariables false
attribute [local go_sem] Oper.semAt_some

theorem fold_two (p q : Tmp) (v u : Value) (ts : Array Value) : ((#[p, q] : Array Tmp).zip #[v, u]).foldl (fun t (p, v) => t.setIfInBounds p v) ts = (ts.setIfInBounds p v).setIfInBounds q u := by
  simp
section
variable {T : TypeId → Bool} {Bs : Nat} {F : Fence} {n : Nat} {P : Program}
theorem rangeG2 {α : Type} {g : Operand} {p q : Tmp} {assign body : Code} {Q : Exit → Act → World → Prop} {a : Act} {w : World}
    (hro : F.round = none) (h1 : 1 ≤ n) {gf : Nat} {lb : Array Value} (hg : a.eval g = .func (.func gf) #[] lb) (hFg : F.fn gf) (eg : ∀ args w, (callFunc gf args).run P w = .ok (.enter gf args) w)
    {enc1 enc2 : α → Value} {S Sp : List α → Prop} {N : Nat} {G : World → Prop} (hBs : Bs < w.heap.size) (hseq : SeqG T Bs F (n - 1) P gf lb (fun x => #[enc1 x, enc2 x]) S Sp N G w)
    (I : List α → World → Prop) (Ix : Code → List α → World → Prop) (hIG : ∀ pre W, I pre W → G W) (hI : OwnT T w.heap.size I) (hIx : ∀ c, OwnT T w.heap.size (Ix c)) (h0 : I [] w)
    (hround : ∀ (l : Nat) (pre : List α) (x : α) (W : World), I pre W → pre.length < N → Sp (pre ++ [x]) → w.heap.size ≤ l → l < W.heap.size →
      assign.wpIn (F.inRound l) (n - 1 - 1) P (Exit.then (fun a₁ V => KeepsFrom w.heap.size W V ∧ Kpt T Bs W V ∧ I pre V ∧
        ∀ V', V.grownBy V' (some l) → I pre V' → body.wpIn (F.inRound l) (n - 1 - 1) P (postT T Bs w.heap.size I Ix (pre ++ [x]) V') a₁ V') (fun _ _ _ => False))
        { tmps := (a.tmps.setIfInBounds p (enc1 x)).setIfInBounds q (enc2 x), defers := [] } W)
    (hdone : ∀ (D : Nat) (xs : List α) (W : World), w.heap.size ≤ D → S xs → I xs W → W.heap[D]? = some (.deferred (some [])) → Q .normal { a with defers := { target := .collected D, args := #[] } :: a.defers } W)
    (hstop : ∀ (D : Nat) (c : Code) (pre : List α) (W : World), w.heap.size ≤ D → Sp pre → Ix c pre W → W.heap[D]? = some (.deferred (some [])) → c.wpIn F n P Q { a with defers := { target := .collected D, args := #[] } :: a.defers } W) :
    (Code.rangeFunc g #[p, q] assign body).wpIn F n P Q a w :=
  rangeG hro h1 hg hFg eg hBs hseq (fun _ => rfl) I Ix hIG hI hIx h0 (fun l pre x W hi hlen hsp hl hlW => by
    have e : ((#[p, q] : Array Tmp).zip #[enc1 x, enc2 x]).foldl (fun t (p, v) => t.setIfInBounds p v) a.tmps = (a.tmps.setIfInBounds p (enc1 x)).setIfInBounds q (enc2 x) := fold_two p q (enc1 x) (enc2 x) a.tmps
    rw [e]
    exact hround l pre x W hi hlen hsp hl hlW) hdone hstop
end
/-- A style by its place, with where its properties lie. -/
abbrev Sx : Type := Nat × Option Addr × Nat
def stx (l : List St) (x : Sx) : Value := stV (l.getD x.1 default) x.2.1 x.2.2
abbrev bEnc (l : List St) (x : Sx) : Array Value := #[.int .i64 (x.1 : Nat), stx l x]
/-- The last one that came is the one at its place, from the end on. -/
def LastOk (m : Nat) (pre : List Sx) : Prop := ∀ q x, pre = q ++ [x] → x.1 + pre.length = m
def BackPost (m : Nat) (J Jx : List Sx → World → Prop) (e : Ending) (W' : World) : Prop :=
  (∃ v, e = .returned v) ∧ ((∃ xs, xs.length = m ∧ J xs W') ∨ (∃ pre, LastOk m pre ∧ Jx pre W'))
set_option maxRecDepth 100000 in
set_option maxHeartbeats 4000000 in
theorem backF_any (A : Option Addr) (n c : Nat) (w : World) :
    Calls Try.prog 68 #[.slice A n c] w fun e w' => e = .returned (.func (.func 87) #[] #[.pointer (some ⟨w.heap.size, 0, none⟩)]) ∧ w' = w.alloc (.cells #[.slice A n c] 22) := by
  go_enter Try.func68, Try.ntmps68
  go_wp2
  go_ret
  exact ⟨rfl, rfl⟩
set_option maxRecDepth 100000 in
set_option maxHeartbeats 8000000 in
theorem back_gen (n : Nat) (hn : 1 ≤ n) (L Ba : Nat) (A : Option Addr) (m d : Nat) (l : List St) (hcs : l.length = m) (hm : m ≤ 1000) (J Jx : List Sx → World → Prop) (n0 : Nat) (w0 W : World)
    (hn0 : w0.heap.size ≤ n0) (hA : LsAt w0 A l) (hG : ∀ pre W', J pre W' → Below n0 w0 W') (ha : Boxed W Ba 22 (.slice A m d))
    (hY : ∀ pre x W1, J pre W1 → pre.length < m → LastOk m (pre ++ [x]) → YieldAt Fence.wide (n - 1) Try.prog L (bEnc l x) W1 fun e W' =>
      (e = .returned (.bool true) ∧ J (pre ++ [x]) W' ∧ Kpt TZ Ba W1 W') ∨ (e = .returned (.bool false) ∧ Jx (pre ++ [x]) W')) (h0 : J [] W) :
    CallsIn Fence.wide n Try.prog 87 #[.func (.yield L) #[] #[], .pointer (some ⟨Ba, 0, none⟩)] W (BackPost m J Jx) := by
  have YY := Go.Lib.hid hY
  have GG := Go.Lib.hid hG
  have J0 := Go.Lib.hid h0
  have PA := Go.Lib.hid hA
  have HC := Go.Lib.hid hcs
  have HB0 := Go.Lib.hid ha
  have hac := ha.cell
  clear hY hG h0 hA ha hcs
  refine callsIn_of_wp Try.func87 rfl trivial ?_ rfl
  simp only [Try.ntmps87, List.size_toArray, List.length_cons, List.length_nil, Nat.reduceAdd, Nat.reduceSub, Array.replicate_succ, Array.replicate_zero, List.push_toArray, List.append_toArray, List.nil_append, List.cons_append]
  gi_wp2
  gi_loopw [3] (fun s3 wr => ∃ (k : Nat) (j : Int) (pre : List Sx), s3 = .int .i64 j ∧ j = (k : Int) - 1 ∧ pre.length + k = m ∧ Hid (J pre wr) ∧ Hid (Boxed wr Ba 22 (.slice A m d))) (fun s3 _ => (RowKit.intOf s3 + 1).toNat)
  case atStart => exact ⟨m, _, [], rfl, by go_num, by simp, J0, HB0⟩
  case round =>
    obtain ⟨k, j, pre, rfl, hj, hpk, HJ, HB⟩ := hrel
    clear hac J0 HB0
    have hbx := HB.out.cell
    cases k with
    | zero =>
      have hj0 : j < 0 := by omega
      clear hj
      gi_wp2
      go_end0
      exact ⟨⟨_, rfl⟩, .inl ⟨pre, by omega, HJ.out⟩⟩
    | succ k =>
      obtain rfl : j = (k : Int) := by omega
      clear hj
      have hkc : k < l.length := by rw [HC.out]; omega
      have f0 : (0 : Int) ≤ (k : Int) := by omega
      have f1 : (k : Int) < (m : Int) := by omega
      rcases PA.out with hA0 | ⟨g, o, rfl, hg, hcl⟩
      · rw [hA0] at hkc; exact absurd hkc (Nat.not_lt_zero _)
      obtain ⟨B, c, h0, h1, h2, h3, h4, h5, h6⟩ := hcl k hkc
      have hbw := GG.out pre wr HJ.out
      have hg' := Nat.lt_of_lt_of_le hg hn0
      have c0 := (hbw.cell (p := ⟨g, o + k * 6, none⟩) hg').trans h0
      have c1 := (hbw.cell (p := ⟨g, o + k * 6 + 1, none⟩) hg').trans h1
      have c2 := (hbw.cell (p := ⟨g, o + k * 6 + 2, none⟩) hg').trans h2
      have c3 := (hbw.cell (p := ⟨g, o + k * 6 + 3, none⟩) hg').trans h3
      have c4 := (hbw.cell (p := ⟨g, o + k * 6 + 4, none⟩) hg').trans h4
      have c5 := (hbw.cell (p := ⟨g, o + k * 6 + 5, none⟩) hg').trans h5
      have HS := Go.Lib.hid (show LastOk m (pre ++ [(k, B, c)]) from fun q x e => by
        obtain ⟨_, e2⟩ := List.append_inj' e rfl
        simp only [List.cons.injEq, and_true] at e2
        subst e2
        rw [List.length_append]; simp; omega)
      have HLt := Go.Lib.hid (show pre.length < m from by omega)
      have HE := Go.Lib.hid (show l.getD k default = l[k] from by rw [List.getD_eq_getElem?_getD, List.getElem?_eq_getElem hkc]; rfl)
      clear h0 h1 h2 h3 h4 h5 h6 hcl hbw
      obtain ⟨fn, tmps, assign, body, hy, hRd⟩ := YY.out pre (k, B, c) wr HJ.out HLt.out HS.out
      unfold bEnc stx stV at hy
      dsimp only at hy
      rw [HE.out] at hy
      generalize l[k] = y at c0 c1 c2 c3 c4 c5 hy
      clear hkc HE
      obtain ⟨a1, a2, a3, a4, a5, ps⟩ := y
      dsimp only at c0 c1 c2 c3 c4 c5 hy
      gi_wp2
      refine hRd.mono ?_
      rintro e w8 (⟨rfl, hJ8, hk8⟩ | ⟨rfl, hJx8⟩)
      · have HJ8 := Go.Lib.hid hJ8
        have HB8 := Go.Lib.hid (show Boxed w8 Ba 22 _ from hk8.str.trans HB.out)
        clear hy hJ8 hk8 hRd
        gi_wp2
        go_roundw
        case rel => exact ⟨k, _, pre ++ [(k, B, c)], rfl, by go_num, by rw [List.length_append]; simp; omega, HJ8, HB8⟩
        case measure => simp [RowKit.intOf]
      · gi_wp2
        refine bodyPost_ret (results_none rfl _ _ _) rfl ?_
        exact ⟨⟨_, rfl⟩, .inr ⟨_, HS.out, hJx8⟩⟩
theorem back_any (n : Nat) (hn : 1 ≤ n) (Ba : Nat) (A : Option Addr) (m d : Nat) (l : List St) (hcs : l.length = m) (hm : m ≤ 1000) (n0 : Nat) (w0 w : World)
    (hn0 : w0.heap.size ≤ n0) (hA : LsAt w0 A l) (ha : Boxed w Ba 22 (.slice A m d)) :
    SeqG TZ Ba Fence.wide n Try.prog 87 #[.pointer (some ⟨Ba, 0, none⟩)] (bEnc l) (fun xs => xs.length = m) (LastOk m) m (fun W => Below n0 w0 W) w := by
  intro L J Jx W hw _ _ hG hY h0
  exact back_gen n hn L Ba A m d l hcs hm J Jx n0 w0 W hn0 hA hG (boxed_below ha hw) (fun pre x W1 h1 h2 h3 => hY pre x W1 h1 h2 h3) h0

theorem make71 (m : Nat) (w : World) : (Instr.makeMap 71 (some (.int .i64 (m : Nat)))).run Try.prog w = .ok (.map (some w.heap.size)) (w.alloc (.map #[] 0)) := by
  simp [Instr.makeMap, run_underlying Try.underlying71, Result.andThen]
  rfl
/-- What indices hands back. -/
def IdxRet (l : List St) (w : World) (e : Ending) (w' : World) : Prop := ∃ b n, e = .returned (.map (some b)) ∧ w.heap.size ≤ b ∧ IxAt w' b n (idxD l 0) ∧ Below w.heap.size w w'
set_option maxRecDepth 100000 in
set_option maxHeartbeats 4000000 in
theorem indices_in (A : Option Addr) (m d : Nat) (l : List St) (hcs : l.length = m) (hm : m ≤ 1000) (hok : LsOk l) (w : World) (hA : LsAt w A l) :
    CallsIn Fence.wide 6 Try.prog 47 #[.slice A m d] w (IdxRet l w) := by
  have cB := fun A n c w' => backF_any A n c w'
  have hmk := fun w' => make71 m w'
  refine callsIn_of_wp_marks Try.func47 rfl trivial ?_ rfl
  simp only [Try.ntmps47, List.size_toArray, List.length_cons, List.length_nil, Nat.reduceAdd, Nat.reduceSub, Array.replicate_succ, Array.replicate_zero, List.push_toArray, List.append_toArray, List.nil_append, List.cons_append]
  gi_wp2_with (refine ⟨trivial, ?_⟩; gi_at_call 68; refine (callsIn_wide.2 (cB _ _ _ _)).mono ?_; rintro e w2 ⟨rfl, rfl⟩)
  have hB0 : Below w.heap.size w (((w.alloc (.map #[] 0)).alloc (.cells #[.map (some w.heap.size)] 71)).alloc (.cells #[.slice A m d] 22)) := (((Below.refl _ w).alloc (Nat.le_refl _) _).alloc (by simp) _).alloc (by simp; omega) _
  have hI0 : IxAt (((w.alloc (.map #[] 0)).alloc (.cells #[.map (some w.heap.size)] 71)).alloc (.cells #[.slice A m d] 22)) w.heap.size 0 (idxD l m) := (((ix_new w).kept (World.grownBy_alloc _ _ none) (by simp)).kept (World.grownBy_alloc _ _ none) (by simp)).congr (fun a => by rw [← hcs, idxD_end])
  have bN := (Boxed.new (w.alloc (.map #[] 0)) 71 (.map (some w.heap.size))).alloc (.cells #[.slice A m d] 22)
  rw [World.size_alloc] at bN
  have bA := Boxed.new ((w.alloc (.map #[] 0)).alloc (.cells #[.map (some w.heap.size)] 71)) 22 (.slice A m d)
  rw [World.size_alloc, World.size_alloc] at bA
  refine rangeG2 (T := TZ) (Bs := w.heap.size + 1 + 1) (G := fun W => Below w.heap.size w W) rfl (by decide) (enc1 := fun (x : Sx) => .int .i64 (x.1 : Nat)) (enc2 := fun x => stx l x) (gf := 87) (lb := #[.pointer (some ⟨w.heap.size + 1 + 1, 0, none⟩)]) rfl trivial (enters_of Try.func87 (by kernel_rfl) rfl)
    (by simp) (back_any 5 (by decide) (w.heap.size + 1 + 1) A m d l hcs hm w.heap.size w _ (Nat.le_refl _) hA bA)
    (fun (pre : List Sx) W => (Boxed W (w.heap.size + 1) 71 (.map (some w.heap.size)) ∧ IxAt W w.heap.size pre.length (idxD l (m - pre.length))) ∧ Below w.heap.size w W) (fun _ _ _ => False) (fun _ _ h => h.2)
    (OwnT.and (OwnT.and (OwnT.boxed rfl (fun _ => _)) (IxAt.own (by simp; omega) (fun (pre : List Sx) => pre.length) (fun (pre : List Sx) => idxD l (m - pre.length)))) (OwnT.below (Nat.le_refl _) (by simp; omega))) (fun _ _ _ _ _ hs _ _ => hs)
    ⟨⟨bN, hI0⟩, hB0⟩ ?round ?done ?stop
  case round =>
    clear bN bA hB0 hI0 cB hmk
    rintro L pre x W ⟨⟨hv, hix⟩, hB⟩ hlt hlast hl hlW
    have hxm := hlast pre x rfl
    rw [List.length_append] at hxm
    simp only [List.length_cons, List.length_nil] at hxm
    have hW1 := hB.size
    simp only [World.size_alloc] at hl
    have hBs : w.heap.size + 1 + 1 < W.heap.size := by omega
    obtain ⟨k, B, c⟩ := x
    dsimp only at hxm
    have hkl : k < l.length := by omega
    have hgd : l.getD k default = l[k] := by rw [List.getD_eq_getElem?_getD, List.getElem?_eq_getElem hkl]; rfl
    have hid := (hok l[k] (List.getElem_mem hkl)).1
    have hst := idxD_step l k hkl
    have e1 : m - pre.length = k + 1 := by omega
    have HE := Go.Lib.hid (show m - (pre ++ [((k, B, c) : Sx)]).length = k from by rw [List.length_append]; simp; omega)
    have hpm : pre.length < maxLen := by unfold maxLen; omega
    have hkI : I64 (k : Int) := by unfold I64; omega
    unfold stx stV
    dsimp only
    rw [hgd]
    generalize l[k] = y at hid hst
    obtain ⟨a1, a2, a3, a4, a5, ps⟩ := y
    dsimp only at hid hst ⊢
    gi_wp2
    refine ⟨(KeepsOthers.alloc _ _).from _, Kpt.alloc (by omega) _, ⟨⟨hv.alloc _, hix.kept (World.grownBy_alloc _ _ none) (by simp)⟩, hB.alloc (by omega) _⟩, ?_⟩
    rintro V hg ⟨⟨hu, hix2⟩, hBV⟩
    have hVs := hg.size
    simp only [World.size_alloc] at hVs
    have hc0 : V.cell? ⟨W.heap.size, 0, none⟩ = some (.int .i64 a1) := hg.cell (by simp) (fun e => by simp at e; omega)
    have hc := hu.cell
    rw [e1] at hix2
    obtain ⟨w9, hrun, hix9, hg9⟩ := ix_put hix2 hpm hid hkI
    have HK := Go.Lib.hid (show Kpt TZ (w.heap.size + 1 + 1) V w9 from Kpt.of_grownBy (by omega) hg9 (fun r e => by
      cases e
      obtain ⟨D, ⟨es, clock, h1, _⟩, _⟩ := hix2
      exact ⟨by omega, _, h1, rfl⟩))
    have HF := Go.Lib.hid (show KeepsFrom (((w.alloc (.map #[] 0)).alloc (.cells #[.map (some w.heap.size)] 71)).alloc (.cells #[.slice A m d] 22)).heap.size V w9 from KeepsFrom.of_grownBy hg9 (fun j e => by cases e; simp; omega))
    have HU := Go.Lib.hid (show Boxed w9 (w.heap.size + 1) 71 (.map (some w.heap.size)) from Boxed.kept hu hg9 (by simp))
    have HI := Go.Lib.hid (show IxAt w9 w.heap.size (pre ++ [((k, B, c) : Sx)]).length (idxD l (m - (pre ++ [((k, B, c) : Sx)]).length)) from by
      rw [HE.out, List.length_append]
      exact hix9.congr (fun a => by rw [hst a]))
    have HB9 := Go.Lib.hid (show Below w.heap.size w w9 from hBV.grown hg9 hBV.size (fun j e => by cases e; exact Nat.le_refl _))
    clear hv hix hix2 hix9 hg9 hB hg
    gi_wp2
    exact ⟨HF.out, HK.out, ⟨HU.out, HI.out⟩, HB9.out⟩
  case done =>
    rintro D xs W hD hxs ⟨⟨hv, hix⟩, hB⟩ hK
    simp only [World.size_alloc] at hD
    have hc := hv.cell
    rw [hxs, Nat.sub_self] at hix
    gi_wp2
    refine ⟨by simp, .inl ⟨_, _, rfl, run_takeDeferred hK, ?_⟩⟩
    refine ⟨_, by simp [results, Try.results47, go_sem], w.heap.size, m, rfl, Nat.le_refl _, hix.kept (grownBy_putObj' W D _) (by simp; omega), hB.trans (belowK_b (w := w) (Nat.le_refl _) W D _ _ (by omega) hK rfl rfl)⟩
  case stop =>
    rintro D c pre W _ _ h _
    exact h.elim
theorem indices_any (A : Option Addr) (m d : Nat) (l : List St) (hcs : l.length = m) (hm : m ≤ 1000) (hok : LsOk l) (w : World) (hA : LsAt w A l) :
    Calls Try.prog 47 #[.slice A m d] w (IdxRet l w) := callsIn_wide.1 (indices_in A m d l hcs hm hok w hA)
set_option maxRecDepth 100000 in
set_option maxHeartbeats 4000000 in
theorem find_any (A : Option Addr) (m d : Nat) (l : List St) (hcs : l.length = m) (hm : m ≤ 1000) (hok : LsOk l) (i : Int) (hi : I64 i) (w : World) (hA : LsAt w A l) :
    Calls Try.prog 19 #[.slice A m d, .int .i64 i] w fun e w' => e = .returned (.tuple #[.int .i64 (max (fnd (isId i) l) 0), .bool (decide (0 ≤ fnd (isId i) l))]) ∧ Below w.heap.size w w' := by
  have cI := indices_any A m d l hcs hm hok w hA
  have HZ := Go.Lib.hid (idxD_zero l i)
  clear hA hcs hok
  go_enter Try.func19, Try.ntmps19
  go_wp2_with fail
  (with_reducible refine cI.mono ?_)
  rintro e w1 ⟨b, n, rfl, hb, hix, hb1⟩
  have hl := ix_look hix hi
  clear cI
  go_wp2
  go_ret2
  exact ⟨by rw [HZ.out.1, HZ.out.2]; rfl, hb1⟩
end Go.Proofs.Ytbkpokipibgdfaa

/- Layer 3: the program's texts, Texts and Words. -/
import Derived.Test.YthjooopppidcfaaDoorNg
import Derived.Test.YthjooopppidcfaaDoorNa
import Derived.Test.YthjooopppidcfaaDoorRp
import Derived.Test.YthjooopppidcfaaDoorMG
namespace Go.Proofs.YthjooopppidcfaaDoor
open Go.RowKit Go.Shelf Go.Lib
open Gc

attribute [local go_sem] Oper.semAt_some

theorem keeps_below {B : Nat} {W W' : World} (h : Below W.heap.size W W') : KeepsFrom B W W' :=
  ⟨h.size, fun k _ _ hk _ => (h.block k (Array.getElem?_eq_some_iff.1 hk).1).trans hk⟩
theorem kpt_below {T : TypeId → Bool} {Bs : Nat} {W W' : World} (hBs : Bs < W.heap.size) (h : Below W.heap.size W W') : Kpt T Bs W W' :=
  ⟨h.size, h.block Bs hBs, fun k _ hk _ => (h.block k (Array.getElem?_eq_some_iff.1 hk).1).trans hk⟩

theorem info9 : (Tryd.prog.info? 9).map (fun i => (i.zero, i.size, i.bytes)) = some (some (.string ByteArray.empty), 1, 16) := by kernel_rfl
/-- The string of a token. -/
def txtOf (P : List Nat) (x : Int × Nat × Nat) : ByteArray := ⟨(U.bytes (Cp.cutP P x.2.1 x.2.2)).toArray⟩
/-- The strings of the tokens that are wanted, as cells. -/
def rowS (P : List Nat) (p : Int × Nat × Nat → Bool) (l : List (Int × Nat × Nat)) : List Value := (l.filter p).map fun x => .string (txtOf P x)
def numS (p : Int × Nat × Nat → Bool) (l : List (Int × Nat × Nat)) : Nat := (l.filter p).length
theorem rowS_no {P : List Nat} {p : Int × Nat × Nat → Bool} (l : List (Int × Nat × Nat)) (x : Int × Nat × Nat) (h : p x = false) : rowS P p (l ++ [x]) = rowS P p l ∧ numS p (l ++ [x]) = numS p l := by
  unfold rowS numS
  rw [List.filter_append]
  simp [h]
theorem rowS_yes {P : List Nat} {p : Int × Nat × Nat → Bool} (l : List (Int × Nat × Nat)) (x : Int × Nat × Nat) (h : p x = true) : rowS P p (l ++ [x]) = rowS P p l ++ [.string (txtOf P x)] ∧ numS p (l ++ [x]) = numS p l + 1 := by
  unfold rowS numS
  rw [List.filter_append]
  simp [h]
theorem numS_le (p : Int × Nat × Nat → Bool) (l : List (Int × Nat × Nat)) : numS p l ≤ l.length := List.length_filter_le _ _
/-- What texts hands back. -/
def TextsRet (P : List Nat) (p : Int × Nat × Nat → Bool) (w : World) (e : Ending) (w' : World) : Prop :=
  ∃ v, e = .returned (.tuple #[v, .int .i64 0]) ∧ w'.ownsRow w.heap.size 9 1 v (numS p (utok P)) (rowS P p (utok P)) ∧ Below w.heap.size w w'
/-- All tokens; the words and numbers. -/
def pAll (_ : Int × Nat × Nat) : Bool := true
def pWord (x : Int × Nat × Nat) : Bool := x.1 == 1 || x.1 == 2

set_option maxRecDepth 100000 in
theorem all_any (x : Int × Nat × Nat) (w : World) : Calls Tryd.prog 44 #[tokV x] w fun e w' => e = .returned (.bool (pAll x)) ∧ Below w.heap.size w w' := by
  unfold tokV
  go_enter Tryd.func44, Tryd.ntmps44
  go_wp2
  go_ret
  exact ⟨rfl, (Below.refl _ w).alloc (Nat.le_refl _) _⟩
set_option maxRecDepth 100000 in
theorem word_any (x : Int × Nat × Nat) (w : World) : Calls Tryd.prog 45 #[tokV x] w fun e w' => e = .returned (.bool (pWord x)) ∧ Below w.heap.size w w' := by
  unfold tokV pWord
  obtain ⟨kd, f, t⟩ := x
  dsimp only
  by_cases h1 : kd = 1
  · subst h1
    go_enter Tryd.func45, Tryd.ntmps45
    go_wp2
    go_ret
    exact ⟨rfl, (Below.refl _ w).alloc (Nat.le_refl _) _⟩
  · have h1b := neB h1
    by_cases h2 : kd = 2
    · subst h2
      go_enter Tryd.func45, Tryd.ntmps45
      go_wp2
      go_ret
      exact ⟨rfl, (Below.refl _ w).alloc (Nat.le_refl _) _⟩
    · have h2b := neB h2
      go_enter Tryd.func45, Tryd.ntmps45
      go_wp2
      go_ret
      exact ⟨by rw [h1b, h2b]; rfl, (Below.refl _ w).alloc (Nat.le_refl _) _⟩

/-- A token of the whole list: its range, and the points' own row. -/
theorem tok_in {P : List Nat} {pre : List (Int × Nat × Nat)} {x : Int × Nat × Nat} (h : pre ++ [x] <+: utok P) : x.2.1 < x.2.2 ∧ x.2.2 ≤ P.length := by
  have hm : x ∈ utok P := h.subset (by simp)
  have := (chain_le (utok_chain P)).2 x hm
  exact ⟨this.2.1, this.2.2⟩
theorem pat_slice {w : World} {A : Option Addr} {P : List Nat} (h : PAt w A P) (hP : 0 < P.length) : ∃ g, A = some ⟨g, 0, none⟩ ∧ ∀ (w' : World) (n f t c : Nat), w.heap.size ≤ n → Below n w w' → f ≤ t → t ≤ P.length → Cp.SliceAt w' (.slice (some ⟨g, f, none⟩) (t - f) c) (Cp.asInts (Cp.cutP P f t)) := by
  rcases h with h | ⟨g, h1, h2, h3⟩
  · rw [h] at hP; exact absurd hP (Nat.not_lt_zero _)
  · exact ⟨g, h1, fun w' n f t c hn hb hf ht => Cp.cut_at (Nat.lt_of_lt_of_le h2 hb.size) (fun j hj => (hb.cell (p := ⟨g, j, none⟩) (Nat.lt_of_lt_of_le h2 hn)).trans (h3 j hj)) f t hf ht⟩

theorem boxed_below' {W W' : World} {B n : Nat} {t : TypeId} {v : Value} (h : Boxed W B t v) (hb : Below n W W') (hn : W.heap.size ≤ n) : Boxed W' B t v := (hb.block B (Nat.lt_of_lt_of_le h.lt hn)).trans h

set_option maxRecDepth 100000 in
set_option maxHeartbeats 2000000 in
theorem texts44_bad {s P bad} (h : Str s P bad) (hb : bad ≠ []) (w : World) : Calls Tryd.prog 43 #[.string s, .func (.func 44) #[] #[]] w (NoneRet w) := by
  go_enter Tryd.func43, Tryd.ntmps43
  go_wp2_with (go_at_call 35; refine (read_bad h hb _).mono ?_; rintro e w1 ⟨rfl, hb1⟩)
  go_ret2
  exact ⟨rfl, (((Below.refl _ w).alloc (Nat.le_refl _) _).trans (hb1.mono (by simp))).alloc (by have := hb1.size; simp at this; omega) _⟩

set_option maxRecDepth 100000 in
set_option maxHeartbeats 8000000 in
theorem texts44_in {s : ByteArray} {P : List Nat} (h : Str s P []) (hP : P.length ≤ 1000) (w : World) (hT : Tabs w) :
    CallsIn Fence.wide 6 Tryd.prog 43 #[.string s, .func (.func 44) #[] #[]] w (TextsRet P pAll w) := by
  obtain ⟨i0, hi, hz0, hz1, hz2⟩ := info_parts info9
  have hB0 : Below w.heap.size w (w.alloc (.cells #[.func (.func 44) #[] #[]] 82)) := (Below.refl _ w).alloc (Nat.le_refl _) _
  have cD := read_cap h hP _ (hT.below hB0)
  unfold ReadCap at cD
  have b3 := Boxed.new w 82 (.func (.func 44) #[] #[])
  have hul := utok_len P
  have PTS := Go.Lib.hid h.pts
  have cF := fun x w' => all_any x w'
  clear h hT
  refine callsIn_of_wp_marks Tryd.func43 rfl trivial ?_ rfl
  simp only [Tryd.ntmps43, List.size_toArray, List.length_cons, List.length_nil, Nat.reduceAdd, Nat.reduceSub, Array.replicate_succ, Array.replicate_zero, List.push_toArray, List.append_toArray, List.nil_append, List.cons_append]
  gi_wp2_with (first
    | (refine ⟨trivial, ?_⟩; gi_at_call 35; (with_reducible refine (callsIn_wide.2 cD).mono ?_); rintro e w1 ⟨A, pc, cv, rfl, ⟨hcap, hmax⟩, hPA, ⟨g, cap, cur, rfl, ho, hrw⟩, hb1⟩; have PA := Go.Lib.hid hPA; have HO := Go.Lib.hid ho; have HR := Go.Lib.hid hrw; have CAP := Go.Lib.hid hcap; have MAX := Go.Lib.hid hmax; clear hPA ho hrw hcap hmax)
    | (refine ⟨trivial, ?_⟩; gi_at_call 37; refine (callsIn_wide.2 (seq_any _ _ _ _ _ _ _)).mono ?_; rintro e w2 ⟨rfl, rfl⟩))
  have hz := hb1.size
  simp only [World.size_alloc] at hz
  obtain ⟨ob, hob⟩ : ∃ ob : Obj, ob = .cells #[.slice A P.length pc, .slice (some ⟨g, 0, none⟩) (clu P).length cap] 71 := ⟨_, rfl⟩
  obtain ⟨oz, hoz⟩ : ∃ oz : Obj, oz = .cells #[.slice none 0 0] 41 := ⟨_, rfl⟩
  have R3 := Go.Lib.hid ((boxed_below b3 hb1).alloc ob)
  have O6 := ObjAt.new w1 #[.slice A P.length pc, .slice (some ⟨g, 0, none⟩) (clu P).length cap] 71
  rw [← hob] at O6
  have O6 := Go.Lib.hid O6
  have r8 := (Boxed.new (w1.alloc ob) 41 (.slice none 0 0)).alloc ob
  rw [World.size_alloc, ← hoz] at r8
  have hb2 : Below w1.heap.size w1 (w1.alloc ob) := (Below.refl _ w1).alloc (Nat.le_refl _) _
  have BW := Go.Lib.hid ((hB0.trans (hb1.mono (by simp))).alloc (by omega) ob)
  have hTx := txt_new2 (pc := pc) (cap := cap) oz (PA.out.below hb2 (Nat.le_refl _)) ((hb2.block g HR.out.1).trans HO.out) (HR.out.below hb2 HR.out.1)
  rw [World.size_alloc, ← hob] at hTx
  have PA1 := Go.Lib.hid (PA.out.below hb2 (Nat.le_refl _))
  have hB2 : Below (w1.heap.size + 1) (w1.alloc ob) (((w1.alloc ob).alloc oz).alloc ob) := ((Below.refl _ _).alloc (by simp) _).alloc (by simp) _
  have hr0 : (((w1.alloc ob).alloc oz).alloc ob).ownsRow (w1.heap.size + 3) 9 1 (.slice none 0 0) 0 [] := World.ownsRow_nil _ _ _ _
  have hwB : (w1.alloc ob).heap.size = w1.heap.size + 1 := World.size_alloc _ _
  have hwC : (((w1.alloc ob).alloc oz).alloc ob).heap.size = w1.heap.size + 3 := by simp
  rw [← hob, ← hoz]
  clear b3 hB0 hb1 cD hb2
  refine rangeP1 (T := TC) (Bs := w1.heap.size + 1 + 1) rfl (by decide) (gf := 59) (lb := #[.pointer (some ⟨w1.heap.size + 1 + 1, 0, none⟩)]) rfl trivial (enters_of Tryd.func59 (by kernel_rfl) rfl)
    (by rw [hwC]; omega) (toks_anyP 5 (by decide) (w1.heap.size + 1 + 1) P hP _ hTx)
    (fun pre W => (∃ v, Boxed W (w1.heap.size + 1) 41 v ∧ W.ownsRow (w1.heap.size + 3) 9 1 v (numS pAll pre) (rowS P pAll pre) ∧ True) ∧ Below (w1.heap.size + 1) (w1.alloc ob) W) (fun _ _ _ => False)
    (OwnT.and (OwnT.row rfl rfl 1 (fun pre => numS pAll pre) (fun pre => rowS P pAll pre) (fun _ _ => True)) (OwnT.below (by rw [hwB]; omega) (by rw [hwC]; omega))) (fun _ _ _ _ _ hs _ _ => hs)
    ⟨⟨_, r8, hr0, trivial⟩, hB2⟩ ?round ?done ?stop
  case round =>
    clear r8 hr0 hB2 hTx
    rintro l pre x W ⟨⟨v, hv, hrow, _⟩, hB⟩ hlt hsp hl hlW
    rw [hwC] at hl
    obtain ⟨hx1, hx2⟩ := tok_in hsp
    have hW1 := hB.size
    rw [hwB] at hW1
    have hBs : w1.heap.size + 1 + 1 < W.heap.size := by omega
    have CX := Go.Lib.hid (fun w' => cF x w')
    have TX := Go.Lib.hid (show txtOf P x = ⟨(U.bytes (Cp.cutP P x.2.1 x.2.2)).toArray⟩ from rfl)
    have RN := Go.Lib.hid (rowS_no (P := P) (p := pAll) pre x)
    have RY := Go.Lib.hid (rowS_yes (P := P) (p := pAll) pre x)
    have hnl : numS pAll pre ≤ 1000 := by have := numS_le pAll pre; omega
    unfold tokV at CX ⊢
    obtain ⟨kd, f, t⟩ := x
    dsimp only at hx1 hx2 CX TX ⊢
    gi_wp2
    refine ⟨(KeepsOthers.alloc _ _).from _, Kpt.alloc (by omega) _, ⟨⟨v, hv.alloc _, hrow.alloc _, trivial⟩, hB.alloc (by omega) _⟩, ?_⟩
    rintro V hg ⟨⟨u, hu, hro, _⟩, hBV⟩
    have hVs := hg.size
    have hcA : V.cell? ⟨W.heap.size, 0, none⟩ = some (.int .i64 kd) := hg.cell (by simp) (fun e => by simp at e; omega)
    have hcB : V.cell? ⟨W.heap.size, 1, none⟩ = some (.int .i64 (f : Nat)) := hg.cell (by simp) (fun e => by simp at e; omega)
    have hcC : V.cell? ⟨W.heap.size, 2, none⟩ = some (.int .i64 (t : Nat)) := hg.cell (by simp) (fun e => by simp at e; omega)
    simp only [World.size_alloc] at hVs
    have hWV : W.heap.size < V.heap.size := by omega
    clear hv hrow hB hg
    have hc3 := (boxed_below' R3.out hBV (by rw [hwB]; exact Nat.le_refl _)).cell
    have O6V := O6.out.below (hBV.mono (by rw [hwB]; exact Nat.le_refl _))
    have hc60 := O6V.a0
    have h41 := hu.cell
    obtain ⟨gp, rfl, hSl⟩ := pat_slice PA1.out (by omega)
    have SL := Go.Lib.hid (fun w' c (hb : Below (w1.heap.size + 1) (w1.alloc ob) w') => hSl w' (w1.heap.size + 1) f t c (by rw [hwB]; exact Nat.le_refl _) hb (by omega) hx2)
    have PTC := Go.Lib.hid (Cp.cutP_pts PTS.out f t)
    have PLN : Hid ((Cp.cutP P f t).length ≤ 200000) := Go.Lib.hid (by rw [Cp.cutP_length P f t hx2]; omega)
    clear hSl O6V
    by_cases hpx : pAll (kd, f, t) = true
    · have cx := CX.out
      rw [hpx] at cx
      obtain ⟨e1, e2⟩ := RY.out hpx
      have E1 := Go.Lib.hid e1
      have E2 := Go.Lib.hid e2
      have hk1 : ((f : Nat) : Int) ≤ ((t : Nat) : Int) := by omega
      have hk2 : ((t : Nat) : Int) ≤ ((P.length : Nat) : Int) := by omega
      have hk3 : ((t : Nat) : Int) ≤ ((pc : Nat) : Int) := by have := CAP.out; omega
      have hk4 : (0 : Int) ≤ ((f : Nat) : Int) := by omega
      have hk5 : ((f : Nat) : Int) ≤ ((pc : Nat) : Int) := by omega
      have hk6 : (((t : Nat) : Int) - ((f : Nat) : Int)).toNat = t - f := by omega
      have hk7 : (((pc : Nat) : Int) - ((f : Nat) : Int)).toNat = pc - f := by omega
      clear e1 e2 hpx
      gi_wp2_with (first
        | (refine ⟨trivial, ?_⟩; gi_at_call 44; (with_reducible refine (CallsIn.inRound l (callsIn_wide.2 (cx _))).mono ?_); rintro e U1 ⟨rfl, b3⟩; have hs3 := b3.size; have g60 := (b3.cell (p := ⟨w1.heap.size, 0, none⟩) (show w1.heap.size < V.heap.size by omega)).trans hc60; have gB := (b3.cell (p := ⟨W.heap.size, 1, none⟩) hWV).trans hcB; have gC := (b3.cell (p := ⟨W.heap.size, 2, none⟩) hWV).trans hcC; have BU1 := Go.Lib.hid (hBV.trans (b3.mono (by omega))))
        | (refine ⟨trivial, ?_⟩; gi_at_call 67; (with_reducible refine (CallsIn.inRound l (callsIn_wide.2 (Cp.make_ok _ (Cp.cutP P f t) PTC.out PLN.out _ (SL.out _ _ BU1.out)))).mono ?_); rintro e U2 ⟨rfl, b4⟩; have hs4 := b4.size; have huU := boxed_below (boxed_below hu b3) b4; have hroU := row_below (row_below hro b3) b4; have hcU := huU.cell; rw [← TX.out])
        | (gi_at_builtin; refine wpListIn_append_own _ rfl _ _ 41 rfl (w1.heap.size + 3) 9 i0 (.string ByteArray.empty) 1 16 Tryd.underlying41 hi hz0 hz1 hz2 rfl (by decide) _ _ _ rfl (hroU.alloc _) ⟨U2.heap.size, 0, none⟩ 1 1 [.string (txtOf P (kd, f, t))] rfl rfl (cell_one_new _ _ _) (by intro u hu; simp at hu; subst hu; rfl) (by unfold maxLen; omega) (by omega) (by simp; omega) ?_; intro v' w2 hown' hgrow _; obtain ⟨g', cap', rfl⟩ := ownsRow_succ hown'; obtain ⟨hv1, hv2, _, hk2', hb2⟩ := huU.appended (by decide) (own_lower hroU (b' := w1.heap.size + 1) (by omega)) (by omega) (by omega) (own_lower hown' (b' := w1.heap.size + 1) (by omega)) hgrow; have hr2 := hown'.kept (grownBy_setCell' w2 (w1.heap.size + 1) (.slice (some ⟨g', 0, none⟩) (numS pAll pre + 1) cap')) (.inr (hv1.not_row (by decide) hown').symm); have kk := kpt_append (T := TC) (Bs := w1.heap.size + 1 + 1) (by omega) huU (by omega) rfl rfl (by decide) hroU (fun g hg => by have := (row_type hroU g hg).1; omega) hgrow (v' := .slice (some ⟨g', 0, none⟩) (numS pAll pre + 1) cap'); have hc1 := hv1.cell; have hf1 := hv1.frozen))
      refine ⟨((keeps_below b3).trans (keeps_below b4)).trans (hk2'.from _), ((kpt_below (by omega) b3).trans (kpt_below (by omega) b4)).trans kk, ⟨_, hv2, ?_, trivial⟩, (BU1.out.trans (b4.mono (by omega))).trans hb2⟩
      rw [E1.out, E2.out]; exact hr2
    · have hpf : pAll (kd, f, t) = false := by simpa using hpx
      have cx := CX.out
      rw [hpf] at cx
      obtain ⟨e1, e2⟩ := RN.out hpf
      have E1 := Go.Lib.hid e1
      have E2 := Go.Lib.hid e2
      clear e1 e2 hpx hpf
      gi_wp2_with (refine ⟨trivial, ?_⟩; gi_at_call 44; (with_reducible refine (CallsIn.inRound l (callsIn_wide.2 (cx _))).mono ?_); rintro e U1 ⟨rfl, b3⟩; have hs3 := b3.size)
      refine ⟨keeps_below b3, kpt_below (by omega) b3, ⟨u, boxed_below hu b3, ?_, trivial⟩, hBV.trans (b3.mono (by omega))⟩
      rw [E1.out, E2.out]; exact row_below hro b3
  case done =>
    rintro D xs W hD rfl ⟨⟨v, hv, hrow, _⟩, hB⟩ hK
    rw [hwC] at hD
    have hc := hv.cell
    have hbw := BW.out.trans (hB.mono (by omega))
    gi_wp2
    refine ⟨by simp, .inl ⟨_, _, rfl, run_takeDeferred hK, ?_⟩⟩
    refine ⟨.tuple #[v, .int .i64 0], by simp [results, Tryd.results43, go_sem], v, rfl, ownsRow_putObj (own_lower hrow (by omega)) _ hK rfl, hbw.trans (belowK_b (w := w) (Nat.le_refl _) W D _ _ (by omega) hK rfl rfl)⟩
  case stop =>
    rintro D c pre W _ _ h _
    exact h.elim
theorem texts44_ok {s : ByteArray} {P : List Nat} (h : Str s P []) (hP : P.length ≤ 1000) (w : World) (hT : Tabs w) :
    Calls Tryd.prog 43 #[.string s, .func (.func 44) #[] #[]] w (TextsRet P pAll w) := callsIn_wide.1 (texts44_in h hP w hT)

set_option maxRecDepth 100000 in
set_option maxHeartbeats 2000000 in
theorem texts45_bad {s P bad} (h : Str s P bad) (hb : bad ≠ []) (w : World) : Calls Tryd.prog 43 #[.string s, .func (.func 45) #[] #[]] w (NoneRet w) := by
  go_enter Tryd.func43, Tryd.ntmps43
  go_wp2_with (go_at_call 35; refine (read_bad h hb _).mono ?_; rintro e w1 ⟨rfl, hb1⟩)
  go_ret2
  exact ⟨rfl, (((Below.refl _ w).alloc (Nat.le_refl _) _).trans (hb1.mono (by simp))).alloc (by have := hb1.size; simp at this; omega) _⟩

set_option maxRecDepth 100000 in
set_option maxHeartbeats 8000000 in
theorem texts45_in {s : ByteArray} {P : List Nat} (h : Str s P []) (hP : P.length ≤ 1000) (w : World) (hT : Tabs w) :
    CallsIn Fence.wide 6 Tryd.prog 43 #[.string s, .func (.func 45) #[] #[]] w (TextsRet P pWord w) := by
  obtain ⟨i0, hi, hz0, hz1, hz2⟩ := info_parts info9
  have hB0 : Below w.heap.size w (w.alloc (.cells #[.func (.func 45) #[] #[]] 82)) := (Below.refl _ w).alloc (Nat.le_refl _) _
  have cD := read_cap h hP _ (hT.below hB0)
  unfold ReadCap at cD
  have b3 := Boxed.new w 82 (.func (.func 45) #[] #[])
  have hul := utok_len P
  have PTS := Go.Lib.hid h.pts
  have cF := fun x w' => word_any x w'
  clear h hT
  refine callsIn_of_wp_marks Tryd.func43 rfl trivial ?_ rfl
  simp only [Tryd.ntmps43, List.size_toArray, List.length_cons, List.length_nil, Nat.reduceAdd, Nat.reduceSub, Array.replicate_succ, Array.replicate_zero, List.push_toArray, List.append_toArray, List.nil_append, List.cons_append]
  gi_wp2_with (first
    | (refine ⟨trivial, ?_⟩; gi_at_call 35; (with_reducible refine (callsIn_wide.2 cD).mono ?_); rintro e w1 ⟨A, pc, cv, rfl, ⟨hcap, hmax⟩, hPA, ⟨g, cap, cur, rfl, ho, hrw⟩, hb1⟩; have PA := Go.Lib.hid hPA; have HO := Go.Lib.hid ho; have HR := Go.Lib.hid hrw; have CAP := Go.Lib.hid hcap; have MAX := Go.Lib.hid hmax; clear hPA ho hrw hcap hmax)
    | (refine ⟨trivial, ?_⟩; gi_at_call 37; refine (callsIn_wide.2 (seq_any _ _ _ _ _ _ _)).mono ?_; rintro e w2 ⟨rfl, rfl⟩))
  have hz := hb1.size
  simp only [World.size_alloc] at hz
  obtain ⟨ob, hob⟩ : ∃ ob : Obj, ob = .cells #[.slice A P.length pc, .slice (some ⟨g, 0, none⟩) (clu P).length cap] 71 := ⟨_, rfl⟩
  obtain ⟨oz, hoz⟩ : ∃ oz : Obj, oz = .cells #[.slice none 0 0] 41 := ⟨_, rfl⟩
  have R3 := Go.Lib.hid ((boxed_below b3 hb1).alloc ob)
  have O6 := ObjAt.new w1 #[.slice A P.length pc, .slice (some ⟨g, 0, none⟩) (clu P).length cap] 71
  rw [← hob] at O6
  have O6 := Go.Lib.hid O6
  have r8 := (Boxed.new (w1.alloc ob) 41 (.slice none 0 0)).alloc ob
  rw [World.size_alloc, ← hoz] at r8
  have hb2 : Below w1.heap.size w1 (w1.alloc ob) := (Below.refl _ w1).alloc (Nat.le_refl _) _
  have BW := Go.Lib.hid ((hB0.trans (hb1.mono (by simp))).alloc (by omega) ob)
  have hTx := txt_new2 (pc := pc) (cap := cap) oz (PA.out.below hb2 (Nat.le_refl _)) ((hb2.block g HR.out.1).trans HO.out) (HR.out.below hb2 HR.out.1)
  rw [World.size_alloc, ← hob] at hTx
  have PA1 := Go.Lib.hid (PA.out.below hb2 (Nat.le_refl _))
  have hB2 : Below (w1.heap.size + 1) (w1.alloc ob) (((w1.alloc ob).alloc oz).alloc ob) := ((Below.refl _ _).alloc (by simp) _).alloc (by simp) _
  have hr0 : (((w1.alloc ob).alloc oz).alloc ob).ownsRow (w1.heap.size + 3) 9 1 (.slice none 0 0) 0 [] := World.ownsRow_nil _ _ _ _
  have hwB : (w1.alloc ob).heap.size = w1.heap.size + 1 := World.size_alloc _ _
  have hwC : (((w1.alloc ob).alloc oz).alloc ob).heap.size = w1.heap.size + 3 := by simp
  rw [← hob, ← hoz]
  clear b3 hB0 hb1 cD hb2
  refine rangeP1 (T := TC) (Bs := w1.heap.size + 1 + 1) rfl (by decide) (gf := 59) (lb := #[.pointer (some ⟨w1.heap.size + 1 + 1, 0, none⟩)]) rfl trivial (enters_of Tryd.func59 (by kernel_rfl) rfl)
    (by rw [hwC]; omega) (toks_anyP 5 (by decide) (w1.heap.size + 1 + 1) P hP _ hTx)
    (fun pre W => (∃ v, Boxed W (w1.heap.size + 1) 41 v ∧ W.ownsRow (w1.heap.size + 3) 9 1 v (numS pWord pre) (rowS P pWord pre) ∧ True) ∧ Below (w1.heap.size + 1) (w1.alloc ob) W) (fun _ _ _ => False)
    (OwnT.and (OwnT.row rfl rfl 1 (fun pre => numS pWord pre) (fun pre => rowS P pWord pre) (fun _ _ => True)) (OwnT.below (by rw [hwB]; omega) (by rw [hwC]; omega))) (fun _ _ _ _ _ hs _ _ => hs)
    ⟨⟨_, r8, hr0, trivial⟩, hB2⟩ ?round ?done ?stop
  case round =>
    clear r8 hr0 hB2 hTx
    rintro l pre x W ⟨⟨v, hv, hrow, _⟩, hB⟩ hlt hsp hl hlW
    rw [hwC] at hl
    obtain ⟨hx1, hx2⟩ := tok_in hsp
    have hW1 := hB.size
    rw [hwB] at hW1
    have hBs : w1.heap.size + 1 + 1 < W.heap.size := by omega
    have CX := Go.Lib.hid (fun w' => cF x w')
    have TX := Go.Lib.hid (show txtOf P x = ⟨(U.bytes (Cp.cutP P x.2.1 x.2.2)).toArray⟩ from rfl)
    have RN := Go.Lib.hid (rowS_no (P := P) (p := pWord) pre x)
    have RY := Go.Lib.hid (rowS_yes (P := P) (p := pWord) pre x)
    have hnl : numS pWord pre ≤ 1000 := by have := numS_le pWord pre; omega
    unfold tokV at CX ⊢
    obtain ⟨kd, f, t⟩ := x
    dsimp only at hx1 hx2 CX TX ⊢
    gi_wp2
    refine ⟨(KeepsOthers.alloc _ _).from _, Kpt.alloc (by omega) _, ⟨⟨v, hv.alloc _, hrow.alloc _, trivial⟩, hB.alloc (by omega) _⟩, ?_⟩
    rintro V hg ⟨⟨u, hu, hro, _⟩, hBV⟩
    have hVs := hg.size
    have hcA : V.cell? ⟨W.heap.size, 0, none⟩ = some (.int .i64 kd) := hg.cell (by simp) (fun e => by simp at e; omega)
    have hcB : V.cell? ⟨W.heap.size, 1, none⟩ = some (.int .i64 (f : Nat)) := hg.cell (by simp) (fun e => by simp at e; omega)
    have hcC : V.cell? ⟨W.heap.size, 2, none⟩ = some (.int .i64 (t : Nat)) := hg.cell (by simp) (fun e => by simp at e; omega)
    simp only [World.size_alloc] at hVs
    have hWV : W.heap.size < V.heap.size := by omega
    clear hv hrow hB hg
    have hc3 := (boxed_below' R3.out hBV (by rw [hwB]; exact Nat.le_refl _)).cell
    have O6V := O6.out.below (hBV.mono (by rw [hwB]; exact Nat.le_refl _))
    have hc60 := O6V.a0
    have h41 := hu.cell
    obtain ⟨gp, rfl, hSl⟩ := pat_slice PA1.out (by omega)
    have SL := Go.Lib.hid (fun w' c (hb : Below (w1.heap.size + 1) (w1.alloc ob) w') => hSl w' (w1.heap.size + 1) f t c (by rw [hwB]; exact Nat.le_refl _) hb (by omega) hx2)
    have PTC := Go.Lib.hid (Cp.cutP_pts PTS.out f t)
    have PLN : Hid ((Cp.cutP P f t).length ≤ 200000) := Go.Lib.hid (by rw [Cp.cutP_length P f t hx2]; omega)
    clear hSl O6V
    by_cases hpx : pWord (kd, f, t) = true
    · have cx := CX.out
      rw [hpx] at cx
      obtain ⟨e1, e2⟩ := RY.out hpx
      have E1 := Go.Lib.hid e1
      have E2 := Go.Lib.hid e2
      have hk1 : ((f : Nat) : Int) ≤ ((t : Nat) : Int) := by omega
      have hk2 : ((t : Nat) : Int) ≤ ((P.length : Nat) : Int) := by omega
      have hk3 : ((t : Nat) : Int) ≤ ((pc : Nat) : Int) := by have := CAP.out; omega
      have hk4 : (0 : Int) ≤ ((f : Nat) : Int) := by omega
      have hk5 : ((f : Nat) : Int) ≤ ((pc : Nat) : Int) := by omega
      have hk6 : (((t : Nat) : Int) - ((f : Nat) : Int)).toNat = t - f := by omega
      have hk7 : (((pc : Nat) : Int) - ((f : Nat) : Int)).toNat = pc - f := by omega
      clear e1 e2 hpx
      gi_wp2_with (first
        | (refine ⟨trivial, ?_⟩; gi_at_call 45; (with_reducible refine (CallsIn.inRound l (callsIn_wide.2 (cx _))).mono ?_); rintro e U1 ⟨rfl, b3⟩; have hs3 := b3.size; have g60 := (b3.cell (p := ⟨w1.heap.size, 0, none⟩) (show w1.heap.size < V.heap.size by omega)).trans hc60; have gB := (b3.cell (p := ⟨W.heap.size, 1, none⟩) hWV).trans hcB; have gC := (b3.cell (p := ⟨W.heap.size, 2, none⟩) hWV).trans hcC; have BU1 := Go.Lib.hid (hBV.trans (b3.mono (by omega))))
        | (refine ⟨trivial, ?_⟩; gi_at_call 67; (with_reducible refine (CallsIn.inRound l (callsIn_wide.2 (Cp.make_ok _ (Cp.cutP P f t) PTC.out PLN.out _ (SL.out _ _ BU1.out)))).mono ?_); rintro e U2 ⟨rfl, b4⟩; have hs4 := b4.size; have huU := boxed_below (boxed_below hu b3) b4; have hroU := row_below (row_below hro b3) b4; have hcU := huU.cell; rw [← TX.out])
        | (gi_at_builtin; refine wpListIn_append_own _ rfl _ _ 41 rfl (w1.heap.size + 3) 9 i0 (.string ByteArray.empty) 1 16 Tryd.underlying41 hi hz0 hz1 hz2 rfl (by decide) _ _ _ rfl (hroU.alloc _) ⟨U2.heap.size, 0, none⟩ 1 1 [.string (txtOf P (kd, f, t))] rfl rfl (cell_one_new _ _ _) (by intro u hu; simp at hu; subst hu; rfl) (by unfold maxLen; omega) (by omega) (by simp; omega) ?_; intro v' w2 hown' hgrow _; obtain ⟨g', cap', rfl⟩ := ownsRow_succ hown'; obtain ⟨hv1, hv2, _, hk2', hb2⟩ := huU.appended (by decide) (own_lower hroU (b' := w1.heap.size + 1) (by omega)) (by omega) (by omega) (own_lower hown' (b' := w1.heap.size + 1) (by omega)) hgrow; have hr2 := hown'.kept (grownBy_setCell' w2 (w1.heap.size + 1) (.slice (some ⟨g', 0, none⟩) (numS pWord pre + 1) cap')) (.inr (hv1.not_row (by decide) hown').symm); have kk := kpt_append (T := TC) (Bs := w1.heap.size + 1 + 1) (by omega) huU (by omega) rfl rfl (by decide) hroU (fun g hg => by have := (row_type hroU g hg).1; omega) hgrow (v' := .slice (some ⟨g', 0, none⟩) (numS pWord pre + 1) cap'); have hc1 := hv1.cell; have hf1 := hv1.frozen))
      refine ⟨((keeps_below b3).trans (keeps_below b4)).trans (hk2'.from _), ((kpt_below (by omega) b3).trans (kpt_below (by omega) b4)).trans kk, ⟨_, hv2, ?_, trivial⟩, (BU1.out.trans (b4.mono (by omega))).trans hb2⟩
      rw [E1.out, E2.out]; exact hr2
    · have hpf : pWord (kd, f, t) = false := by simpa using hpx
      have cx := CX.out
      rw [hpf] at cx
      obtain ⟨e1, e2⟩ := RN.out hpf
      have E1 := Go.Lib.hid e1
      have E2 := Go.Lib.hid e2
      clear e1 e2 hpx hpf
      gi_wp2_with (refine ⟨trivial, ?_⟩; gi_at_call 45; (with_reducible refine (CallsIn.inRound l (callsIn_wide.2 (cx _))).mono ?_); rintro e U1 ⟨rfl, b3⟩; have hs3 := b3.size)
      refine ⟨keeps_below b3, kpt_below (by omega) b3, ⟨u, boxed_below hu b3, ?_, trivial⟩, hBV.trans (b3.mono (by omega))⟩
      rw [E1.out, E2.out]; exact row_below hro b3
  case done =>
    rintro D xs W hD rfl ⟨⟨v, hv, hrow, _⟩, hB⟩ hK
    rw [hwC] at hD
    have hc := hv.cell
    have hbw := BW.out.trans (hB.mono (by omega))
    gi_wp2
    refine ⟨by simp, .inl ⟨_, _, rfl, run_takeDeferred hK, ?_⟩⟩
    refine ⟨.tuple #[v, .int .i64 0], by simp [results, Tryd.results43, go_sem], v, rfl, ownsRow_putObj (own_lower hrow (by omega)) _ hK rfl, hbw.trans (belowK_b (w := w) (Nat.le_refl _) W D _ _ (by omega) hK rfl rfl)⟩
  case stop =>
    rintro D c pre W _ _ h _
    exact h.elim
theorem texts45_ok {s : ByteArray} {P : List Nat} (h : Str s P []) (hP : P.length ≤ 1000) (w : World) (hT : Tabs w) :
    Calls Tryd.prog 43 #[.string s, .func (.func 45) #[] #[]] w (TextsRet P pWord w) := callsIn_wide.1 (texts45_in h hP w hT)

set_option maxRecDepth 100000 in
theorem stexts_bad {s P bad} (h : Str s P bad) (hb : bad ≠ []) (w : World) : Calls Tryd.prog 20 #[.string s] w (NoneRet w) := by
  have c := fun w' => texts44_bad h hb w'
  unfold NoneRet at c
  go_enter Tryd.func20, Tryd.ntmps20
  go_wp2_with (go_at_call 43; (with_reducible refine (c _).mono ?_); rintro e w1 ⟨rfl, hb1⟩)
  go_ret2
  exact ⟨rfl, hb1⟩
set_option maxRecDepth 100000 in
theorem stexts_ok {s P} (h : Str s P []) (hP : P.length ≤ 1000) (w : World) (hT : Tabs w) : Calls Tryd.prog 20 #[.string s] w (TextsRet P pAll w) := by
  have c := texts44_ok h hP w hT
  unfold TextsRet at c
  go_enter Tryd.func20, Tryd.ntmps20
  go_wp2_with (go_at_call 43; (with_reducible refine c.mono ?_); rintro e w1 ⟨v, rfl, ho, hb1⟩; have HO := Go.Lib.hid ho; clear ho)
  go_ret2
  exact ⟨v, rfl, HO.out, hb1⟩
set_option maxRecDepth 100000 in
theorem swords_bad {s P bad} (h : Str s P bad) (hb : bad ≠ []) (w : World) : Calls Tryd.prog 21 #[.string s] w (NoneRet w) := by
  have c := fun w' => texts45_bad h hb w'
  unfold NoneRet at c
  go_enter Tryd.func21, Tryd.ntmps21
  go_wp2_with (go_at_call 43; (with_reducible refine (c _).mono ?_); rintro e w1 ⟨rfl, hb1⟩)
  go_ret2
  exact ⟨rfl, hb1⟩
set_option maxRecDepth 100000 in
theorem swords_ok {s P} (h : Str s P []) (hP : P.length ≤ 1000) (w : World) (hT : Tabs w) : Calls Tryd.prog 21 #[.string s] w (TextsRet P pWord w) := by
  have c := texts45_ok h hP w hT
  unfold TextsRet at c
  go_enter Tryd.func21, Tryd.ntmps21
  go_wp2_with (go_at_call 43; (with_reducible refine c.mono ?_); rintro e w1 ⟨v, rfl, ho, hb1⟩; have HO := Go.Lib.hid ho; clear ho)
  go_ret2
  exact ⟨v, rfl, HO.out, hb1⟩
end Go.Proofs.YthjooopppidcfaaDoor

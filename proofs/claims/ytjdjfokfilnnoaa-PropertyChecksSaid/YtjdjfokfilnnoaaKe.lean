/- Layer 7: the law of Equal and Clone. -/
import Derived.Test.YtjdjfokfilnnoaaJA
import Derived.IntWalk
namespace Go.Proofs.Ytjdjfokfilnnoaa
open Go.RowKit Go.Lib

theorem PrAt.take {w : World} {A : Option Addr} {l : List Pr} (h : PrAt w A l) (n : Nat) : PrAt w A (l.take n) := by
  rcases h with h | ⟨g, o, hA, hg, hc⟩
  · subst h; exact .inl (by simp)
  · refine .inr ⟨g, o, hA, hg, fun k hk => ?_⟩
    have hk' : k < l.length := by simp at hk; omega
    rw [List.getElem_take]
    exact hc k hk'
theorem xor_one (a : Int) : bits .xor .i64 a 1 ≠ a := by
  intro h
  have h' : IntKind.i64.wrap ((BitVec.ofInt 64 a ^^^ BitVec.ofInt 64 1).toNat : Int) = a := h
  have h1 : (BitVec.ofInt 64 1).toNat = 1 := by decide
  have h2 : (((BitVec.ofInt 64 a).toNat ^^^ 1) % 2 = 1) ↔ ¬ ((BitVec.ofInt 64 a).toNat % 2 = 1) := by
    generalize (BitVec.ofInt 64 a).toNat = X
    have h := Nat.testBit_xor (x := X) (y := 1) (i := 0)
    rw [Nat.testBit_zero, Nat.testBit_zero, Nat.testBit_zero] at h
    by_cases a1 : (X ^^^ 1) % 2 = 1 <;> by_cases a2 : X % 2 = 1 <;> simp [a1, a2] at h ⊢
  have h3 : (BitVec.ofInt 64 a).toNat = (a % 18446744073709551616).toNat := by rw [BitVec.toNat_ofInt]; rfl
  rw [BitVec.toNat_xor, h1, IntKind.wrap_i64] at h'
  omega
theorem prat_set {w : World} {g : Nat} {x : Pr} {l : List Pr} (h : PrAt w (some ⟨g, 0, none⟩) (x :: l)) (v : Int) : PrAt (w.setCell ⟨g, 1, none⟩ (.int .i64 v)) (some ⟨g, 0, none⟩) ((x.1, v) :: l) := by
  rcases h with h | ⟨g', o, hA, hg, hc⟩
  · cases h
  · injection hA with hA; injection hA with h1 h2 _
    subst h1 h2
    refine .inr ⟨g, 0, rfl, by simpa [World.setCell] using hg, fun k hk => ?_⟩
    obtain ⟨c0, c1⟩ := hc k (by simpa using hk)
    rcases k with _ | k
    · exact ⟨(World.cell?_setCell_other _ _ _ _ (by simp)).trans c0, World.cell?_setCell_same _ _ _ c1⟩
    · exact ⟨(World.cell?_setCell_other _ _ _ _ (by simp)).trans c0, (World.cell?_setCell_other _ _ _ _ (by simp)).trans c1⟩
theorem prat_other {w : World} {A : Option Addr} {l : List Pr} (h : PrAt w A l) {g i : Nat} (v : Value) (hne : ∀ b o, A = some ⟨b, o, none⟩ → b ≠ g) : PrAt (w.setCell ⟨g, i, none⟩ v) A l := by
  rcases h with h | ⟨g', o, hA, hg, hc⟩
  · exact .inl h
  · refine .inr ⟨g', o, hA, by simpa [World.setCell] using hg, fun k hk => ?_⟩
    obtain ⟨c0, c1⟩ := hc k hk
    have hn := hne g' o hA
    exact ⟨(World.cell?_setCell_other _ _ _ _ (fun e => hn (congrArg Addr.block e).symm)).trans c0, (World.cell?_setCell_other _ _ _ _ (fun e => hn (congrArg Addr.block e).symm)).trans c1⟩
set_option maxRecDepth 100000 in
set_option maxHeartbeats 8000000 in
theorem equals_in (A B : Option Addr) (n m n1 m1 c d : Nat) (la lb : List Pr) (hla : la.length = n1) (hlb : lb.length = m1) (hn : n ≤ c) (hm : m ≤ d) (hn1 : n1 ≤ n) (hm1 : m1 ≤ m) (hs1 : n1 ≤ 100) (hs2 : m1 ≤ 100) (hc : c ≤ maxLen) (hd : d ≤ maxLen)
    (e1 : (n1 = n ∧ n ≤ 100) ∨ (n1 = 100 ∧ 100 < n)) (e2 : (m1 = m ∧ m ≤ 100) ∨ (m1 = 100 ∧ 100 < m)) (w : World) (hA : PrAt w A la) (hB : PrAt w B lb) (hwf : ∀ x ∈ la, (Lit.int .i64 x.1).wf = true ∧ (Lit.int .i64 x.2).wf = true) :
    Calls Try.prog 13 #[.slice A n c, .slice B m d] w fun e w' => e = .returned (.bool true) ∧ Below w.heap.size w w' := by
  have cK := fun w' => known_any w'
  have cC := fun w' hA => clone_any A n1 c la hla ⟨by omega, hc⟩ (by omega) w' hA
  have cE := fun w' hA hB => equal_any A B n1 m1 c d la lb hla hlb ⟨by omega, hc⟩ ⟨by omega, hd⟩ w' hA hB
  have cR := fun w' hA hB => requal_any A B n1 m1 c d la lb hla hlb ⟨by omega, hc⟩ ⟨by omega, hd⟩ w' hA hB
  have cR2 := fun C cc (hcc : la.length ≤ cc ∧ cc ≤ maxLen) w' hC hA => requal_any C A n1 n1 cc c la la hla hla ⟨by omega, hcc.2⟩ ⟨by omega, hc⟩ w' hC hA
  have cE2 := fun C cc (hcc : la.length ≤ cc ∧ cc ≤ maxLen) lc (hlc : lc.length = la.length) w' hA hC => equal_any A C n1 n1 c cc la lc hla (hlc.trans hla) ⟨by omega, hc⟩ ⟨by omega, hcc.2⟩ w' hA hC
  have HLA := Go.Lib.hid hla
  have HAw := Go.Lib.hid hA
  have hc' := hc
  have hd' := hd
  unfold maxLen at hc' hd'
  clear hla hlb
  rcases e1 with ⟨rfl, h1⟩ | ⟨rfl, h1⟩ <;> rcases e2 with ⟨rfl, h2⟩ | ⟨rfl, h2⟩
  have g1 : min (n1 : Int) 100 = (n1 : Int) := by omega
  have g2 : min (m1 : Int) 100 = (m1 : Int) := by omega
  rotate_left
  have g1 : min (n1 : Int) 100 = (n1 : Int) := by omega
  have g2 : min (m : Int) 100 = 100 := by omega
  rotate_left
  have g1 : min (n : Int) 100 = 100 := by omega
  have g2 : min (m1 : Int) 100 = (m1 : Int) := by omega
  rotate_left
  have g1 : min (n : Int) 100 = 100 := by omega
  have g2 : min (m : Int) 100 = 100 := by omega
  all_goals
    go_enter Try.func13, Try.ntmps13
    go_wp2
    go_quiet (fail)
    have hA0 : PrAt (w.drewN nq) A la := hA.below (bdrew (Below.refl _ w) nq) (Nat.le_refl _)
    have hB0 : PrAt (w.drewN nq) B lb := hB.below (bdrew (Below.refl _ w) nq) (Nat.le_refl _)
    have b0 : Below w.heap.size w (w.drewN nq) := bdrew (Below.refl _ w) nq
    clear hA hB
    generalize w.drewN nq = w0 at hA0 hB0 b0 ⊢
    go_wp2_with fail
    refine (cC _ hA0).mono ?_
    rintro e w1 ⟨C, cc, rfl, hown, hb1⟩
    have hcc : la.length ≤ cc ∧ cc ≤ maxLen := by
      rw [HLA.out]
      rcases hown.2 with ⟨hv, h0⟩ | ⟨g, cap, cur, hv, _, _, h1, h2, _⟩
      · injection hv with _ h1 h2; subst h2; exact ⟨by omega, by decide⟩
      · injection hv with _ h3 h4; subst h4; exact ⟨h1, h2⟩
    have hA1 := hA0.below hb1 (Nat.le_refl _)
    have hB1 := hB0.below hb1 (Nat.le_refl _)
    go_wp2_with fail
    refine (cK _).mono ?_
    rintro e w2 ⟨rfl, hb2⟩
    have hA2 := hA1.below hb2 (Nat.le_refl _)
    have hB2 := hB1.below hb2 (Nat.le_refl _)
    have hown2 := row_below hown hb2
    clear hown hA1 hB1 hA0 hB0
    go_wp2_with fail
    refine (cE _ hA2 hB2).mono ?_
    rintro e w3 ⟨rfl, hb3⟩
    have hA3 := hA2.below hb3 (Nat.le_refl _)
    have hB3 := hB2.below hb3 (Nat.le_refl _)
    have hown3 := row_below hown2 hb3
    go_wp2_with fail
    refine (cR _ hA3 hB3).mono ?_
    rintro e w4 ⟨rfl, hb4⟩
    have hA4 := hA3.below hb4 (Nat.le_refl _)
    have hown4 := row_below hown3 hb4
    obtain ⟨C', cc', hC, _, _, hPC⟩ := PVal.own hown4 HLA.out
    obtain ⟨rfl, rfl⟩ : C' = C ∧ cc' = cc := by injection hC with h1 _ h2; exact ⟨h1.symm, h2.symm⟩
    have hb04 : Below w.heap.size w w4 := ((((b0.trans (hb1.mono b0.size)).trans (hb2.mono (Nat.le_trans b0.size hb1.size))).trans (hb3.mono (Nat.le_trans (Nat.le_trans b0.size hb1.size) hb2.size))).trans (hb4.mono (Nat.le_trans (Nat.le_trans (Nat.le_trans b0.size hb1.size) hb2.size) hb3.size)))
    have hlow := own_lower hown4 b0.size
    clear hb1 hb2 hb3 hb4 hA2 hB2 hA3 hB3 hown2 hown3 hC b0 hown4
    generalize decide (la = lb) = bq
    go_wp2_with fail
    have hne : (bq != bq) = false := by simp
    go_wp2_with fail
    refine (cR2 C' cc' hcc _ hPC hA4).mono ?_
    rintro e w5 ⟨rfl, hb5⟩
    cases la with
    | nil =>
      have hl0 := HLA.out
      first
        | (cases hl0; done)
        | (simp only [List.length_nil] at hl0; subst hl0; go_wp2; go_ret; exact ⟨rfl, hb04.trans (hb5.mono hb04.size)⟩)
    | cons x rest =>
      have hpos : ∀ n2, (x :: rest).length = n2 → 0 < n2 := fun n2 h => by rw [← h]; simp
      have hp := hpos _ HLA.out
      obtain ⟨g, cap, hv, hg, hcl⟩ := own_cells hlow hp
      injection hv with hv1 _ hv2
      subst hv1
      subst hv2
      have hgw := (hlow.lt g rfl).1
      obtain ⟨ga, oa, hAe, hga, _⟩ := HAw.out.head
      subst hAe
      obtain ⟨_, _, hAe, hga4, a0, a1, _⟩ := hA4.head
      injection hAe with hAe
      injection hAe with i1 i2 _
      subst i1 i2
      have s0 := (hb5.cell (p := ⟨ga, oa, none⟩) hga4).trans a0
      have s1 := (hb5.cell (p := ⟨ga, oa + 1, none⟩) hga4).trans a1
      obtain ⟨_, _, hCe, _, d0, d1, _⟩ := hPC.head
      injection hCe with hCe
      injection hCe with i1 i2 _
      subst i1 i2
      have t0 := (hb5.cell (p := ⟨g, 0, none⟩) hg).trans d0
      have t1 := (hb5.cell (p := ⟨g, 0 + 1, none⟩) hg).trans d1
      have ft := (hb5.frozen (p := ⟨g, 0 + 1, none⟩) hg).trans (hlow.frozenAt (0 + 1))
      have hPC5 := hPC.below hb5 (Nat.le_refl _)
      have hA5 := hA4.below hb5 (Nat.le_refl _)
      have hne1 : ¬ ga = g := by omega
      have hne2 : ¬ g = ga := by omega
      have hb05 := hb04.trans (hb5.mono hb04.size)
      clear hcl a0 a1 d0 d1 hA4 hPC hb5 hlow HAw
      obtain ⟨xa, xb⟩ := x
      dsimp only at s0 s1 t0 t1
      have hC6 := prat_set hPC5 (bits .xor .i64 xb 1)
      have hA6 := prat_other hA5 (g := g) (i := 1) (.int .i64 (bits .xor .i64 xb 1)) (fun b o e => by injection e with e; injection e with e; omega)
      have hb06 := hb05.setCell (p := ⟨g, 1, none⟩) hgw (.int .i64 (bits .xor .i64 xb 1))
      have hx := xor_one xb
      have hdec : decide ((xa, xb) :: rest = (xa, bits .xor .i64 xb 1) :: rest) = false := decide_eq_false fun h => hx (by injection h with h _; injection h with _ h; exact h.symm)
      have cE3 := fun w' hA hC => cE2 (some ⟨g, 0, none⟩) cc' hcc ((xa, bits .xor .i64 xb 1) :: rest) rfl w' hA hC
      rw [hdec] at cE3
      clear hdec hx cE2 cE cR cR2 cC hPC5 hA5 hb05
      go_wp2_with fail
      refine (cE3 _ hA6 hC6).mono ?_
      rintro e w7 ⟨rfl, hb7⟩
      go_wp2
      go_ret
      exact ⟨ret_bool' (by simp), hb06.trans (hb7.mono hb06.size)⟩
theorem PropsIn.cut {w : World} {A : Option Addr} {len c : Nat} {l : List Pr} (h : PropsIn w A len c l) (k : Nat) : ∃ n1, (l.take k).length = n1 ∧ ((n1 = len ∧ len ≤ k) ∨ (n1 = k ∧ k < len)) ∧ n1 ≤ len ∧ n1 ≤ k := by
  have h1 := h.1
  refine ⟨_, rfl, ?_, ?_, ?_⟩ <;> simp only [List.length_take] <;> omega
theorem law_equals (A : Option Addr) (len c : Nat) (l : List Pr) (B : Option Addr) (m d : Nat) (l' : List Pr) (w : World) (hA : PropsIn w A len c l) (hB : PropsIn w B m d l') :
    Calls Try.prog 13 #[.slice A len c, .slice B m d] w fun e w' => e = .returned (.bool true) ∧ Below w.heap.size w w' := by
  obtain ⟨n1, h1, h2, h3, h4⟩ := hA.cut 100
  obtain ⟨m1, k1, k2, k3, k4⟩ := hB.cut 100
  exact equals_in A B len m n1 m1 c d _ _ h1 k1 hA.2.1 hB.2.1 h3 k3 h4 k4 hA.2.2.1 hB.2.2.1 h2 k2 w (hA.2.2.2.1.take _) (hB.2.2.2.1.take _) (fun x hx => hA.2.2.2.2 x (List.mem_of_mem_take hx))
end Go.Proofs.Ytjdjfokfilnnoaa

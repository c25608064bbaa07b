/- Layer 8: over (62). -/
import Derived.Test.YtbkpokipibgdfaaTP
import Derived.Test.YtbkpokipibgdfaaNC
import Derived.Test.YtbkpokipibgdfaaNJ
import Derived.Test.YtbkpokipibgdfaaTV
namespace Go.Proofs.Ytbkpokipibgdfaa
open Go.RowKit Go.Lib
set_option linter.unusedVariables false

/-- What over keeps of a change. -/
def ovC (c : Ch) : Option Pr := if c.2.2.2.2 = true then some (c.1, c.2.2.1) else if (rowZ c.1).2.2.2.2.2 ≠ c.2.1 then some (c.1, (rowZ c.1).2.2.2.2.2) else none
def ovL (a b : List Pr) : List Pr := ((pairs a b).filter dif).filterMap ovC
theorem rowC_len (l : List Ch) : (rowC l).length = l.length * 5 := by
  unfold rowC
  induction l with
  | nil => rfl
  | cons x l ih => rw [List.flatMap_cons, List.length_append, ih, List.length_cons]; simp; omega
theorem rowC_get (l : List Ch) : ∀ k (h : k < l.length) j, j < 5 → (rowC l)[k * 5 + j]? = ([.int .i64 l[k].1, .int .i64 l[k].2.1, .int .i64 l[k].2.2.1, .bool l[k].2.2.2.1, .bool l[k].2.2.2.2] : List Value)[j]? := by
  induction l with
  | nil => intro k h; exact absurd h (Nat.not_lt_zero _)
  | cons x l ih =>
    intro k h j hj
    have e : rowC (x :: l) = [.int .i64 x.1, .int .i64 x.2.1, .int .i64 x.2.2.1, .bool x.2.2.2.1, .bool x.2.2.2.2] ++ rowC l := rfl
    rw [e]
    cases k with
    | zero => rw [Nat.zero_mul, Nat.zero_add, List.getElem?_append_left (by simp; omega)]; rfl
    | succ k =>
      rw [List.getElem?_append_right (by simp; omega)]
      have e2 : (k + 1) * 5 + j - ([.int .i64 x.1, .int .i64 x.2.1, .int .i64 x.2.2.1, .bool x.2.2.2.1, .bool x.2.2.2.2] : List Value).length = k * 5 + j := by simp; omega
      rw [e2]
      exact ih k (by simpa using h) j hj
theorem ov_snoc (C : List Ch) (k : Nat) (h : k < C.length) : (C.take (k + 1)).filterMap ovC = (C.take k).filterMap ovC ++ (ovC C[k]).toList := by
  rw [List.take_succ_eq_append_getElem h, List.filterMap_append]
  congr 1
set_option maxRecDepth 100000 in
set_option maxHeartbeats 8000000 in
theorem over_any (A B : Option Addr) (ca cb : Nat) (la lb : List Pr) (hla : la.length ≤ 1000) (hlb : lb.length ≤ 1000) (na nb : Nat) (hna : la.length = na) (hnb : lb.length = nb) (hca : na ≤ ca ∧ ca ≤ maxLen) (hcb : nb ≤ cb ∧ cb ≤ maxLen) (w : World) (hPa : PrAt w A la) (hPb : PrAt w B lb) :
    Calls Try.prog 62 #[.slice A na ca, .slice B nb cb] w (PrsR (ovL la lb) w) := by
  obtain ⟨i0, hi9, hz0, hz1, hz2⟩ := info_parts info57
  have cD := diff_any A B ca cb la lb hla hlb (by rw [hna]; exact hca) (by rw [hnb]; exact hcb) w hPa hPb
  rw [hna, hnb] at cD
  unfold DiffRet at cD
  have hlen : ((pairs la lb).filter dif).length ≤ 2000 := by
    have h1 := List.length_filter_le dif (pairs la lb)
    have h2 := pairs_len la lb
    omega
  have HOV := Go.Lib.hid (show ovL la lb = ((pairs la lb).filter dif).filterMap ovC from rfl)
  clear hPa hPb hca hcb hna hnb hla hlb
  generalize (pairs la lb).filter dif = C at cD hlen HOV
  go_enter Try.func62, Try.ntmps62
  go_wp2_with fail
  (with_reducible refine cD.mono ?_)
  rintro e w1 ⟨v, rfl, hr, k1⟩
  obtain ⟨D, cd, rfl⟩ := own_form hr
  have K1 := Go.Lib.hid k1
  have s1 := k1.size
  have HR0 := Go.Lib.hid hr
  obtain ⟨n, hn⟩ : ∃ n, C.length = n := ⟨_, rfl⟩
  have HN := Go.Lib.hid hn
  rw [hn] at hlen ⊢
  clear cD k1 hr hn
  go_wp2_with fail
  go_loopw [5, 7, 8, 13] (fun s5 _ _ s13 wr => ∃ (k : Nat) (B : Option Addr) (m cb : Nat), k ≤ n ∧ s13 = .int .i64 (k : Nat) ∧ s5 = .slice B m cb ∧ m ≤ k ∧ Hid (wr.ownsRow w1.heap.size 55 2 (.slice B m cb) m (rowP ((C.take k).filterMap ovC))) ∧ Hid (((C.take k).filterMap ovC).length = m) ∧ Hid (Below w1.heap.size w1 wr)) (fun _ _ _ s13 _ => n - (RowKit.intOf s13).toNat)
  case atStart => exact ⟨0, none, 0, 0, Nat.zero_le _, rfl, rfl, Nat.le_refl _, Go.Lib.hid (World.ownsRow_nil _ _ _ _), Go.Lib.hid rfl, Go.Lib.hid (Below.refl _ _)⟩
  case round =>
    obtain ⟨k, B, m, cb, hk, rfl, rfl, hm, HOW, HLE, HB1⟩ := hrel
    have hw1s := HB1.out.size
    by_cases hlt : k < n
    · have hkl : k < C.length := by rw [HN.out]; exact hlt
      obtain ⟨g, cap, he, hg, hc⟩ := own_cells HR0.out (by omega)
      injection he with e1 e2 e3
      subst e1
      have hcc := fun j (hj : j < 5) => (hc (k * 5 + j) (by omega)).trans (rowC_get C k hkl j hj)
      have z0 := (HB1.out.cell (p := ⟨g, k * 5 + 0, none⟩) hg).trans (hcc 0 (by omega))
      have z1 := (HB1.out.cell (p := ⟨g, k * 5 + 1, none⟩) hg).trans (hcc 1 (by omega))
      have z2 := (HB1.out.cell (p := ⟨g, k * 5 + 2, none⟩) hg).trans (hcc 2 (by omega))
      have z3 := (HB1.out.cell (p := ⟨g, k * 5 + 3, none⟩) hg).trans (hcc 3 (by omega))
      have z4 := (HB1.out.cell (p := ⟨g, k * 5 + 4, none⟩) hg).trans (hcc 4 (by omega))
      have HS := Go.Lib.hid (ov_snoc C k hkl)
      have f0 : (0 : Int) ≤ (k : Int) := by omega
      have f1 : (k : Int) < (n : Int) := by omega
      clear hcc hc e2 e3
      generalize C[k] = c at z0 z1 z2 z3 z4 HS
      obtain ⟨cp, co, cn, ch, cx⟩ := c
      replace z0 : wr.cell? ⟨g, k * 5, none⟩ = some (.int .i64 cp) := z0
      replace z1 : wr.cell? ⟨g, k * 5 + 1, none⟩ = some (.int .i64 co) := z1
      replace z2 : wr.cell? ⟨g, k * 5 + 2, none⟩ = some (.int .i64 cn) := z2
      replace z3 : wr.cell? ⟨g, k * 5 + 3, none⟩ = some (.bool ch) := z3
      replace z4 : wr.cell? ⟨g, k * 5 + 4, none⟩ = some (.bool cx) := z4
      clear hkl
      have HKA := Go.Lib.hid (HB1.out.alloc hw1s (.cells #[.int .i64 cp, .int .i64 co, .int .i64 cn, .bool ch, .bool cx] 113))
      cases cx with
      | true =>
        have HF := Go.Lib.hid (show (C.take (k + 1)).filterMap ovC = (C.take k).filterMap ovC ++ [(cp, cn)] by rw [HS.out]; rfl)
        have HRW := Go.Lib.hid (HOW.out.alloc (.cells #[.int .i64 cp, .int .i64 co, .int .i64 cn, .bool ch, .bool true] 113))
        have HKW := HKA
        have hkws := HKW.out.size
        have hA1 : (wr.alloc (.cells #[.int .i64 cp, .int .i64 co, .int .i64 cn, .bool ch, .bool true] 113)).heap.size = wr.heap.size + 1 := by simp
        clear HS HKA
        go_wp2_with (at_builtin; refine wpList_append_own _ rfl _ _ 26 rfl w1.heap.size 55 i0 (.agg #[.int .i64 0, .int .i64 0]) 2 16 Try.underlying26 hi9 hz0 hz1 hz2 rfl (by decide) _ _ _ rfl (HRW.out.alloc _) ⟨wr.heap.size + 1, 0, none⟩ 1 1 [.int .i64 cp, .int .i64 cn] rfl rfl (by intro j u hj; have := cell_new2 (wr.alloc (.cells #[.int .i64 cp, .int .i64 co, .int .i64 cn, .bool ch, .bool true] 113)) (.int .i64 cp) (.int .i64 cn) 55 j u hj; rw [World.size_alloc] at this; exact this) (by intro u hu; simp at hu; rcases hu with rfl | rfl <;> rfl) (by unfold maxLen; omega) (by omega) (by simp; omega) ?_; intro v1 w5 hown1 hgrow1 _; obtain ⟨g1, cap1, rfl⟩ := ownsRow_succ hown1)
        go_roundw
        case rel => exact ⟨k + 1, some ⟨g1, 0, none⟩, m + 1, cap1, by omega, by go_num, rfl, by omega, Go.Lib.hid (by rw [HF.out, rowP_snoc]; exact hown1), Go.Lib.hid (by rw [HF.out, List.length_append, HLE.out]; rfl), Go.Lib.hid ((HKW.out.alloc HKW.out.size _).grown hgrow1 (by have := HKW.out.size; simp; omega) (fun j e => (HRW.out.lt j e).1))⟩
        case measure => simp [RowKit.intOf]; omega
      | false =>
        have HO := Go.Lib.hid (ObjAt.new wr #[.int .i64 cp, .int .i64 co, .int .i64 cn, .bool ch, .bool false] 113)
        have cP := preset_anyB cp (wr.alloc (.cells #[.int .i64 cp, .int .i64 co, .int .i64 cn, .bool ch, .bool false] 113))
        have HR1 := Go.Lib.hid (HOW.out.alloc (.cells #[.int .i64 cp, .int .i64 co, .int .i64 cn, .bool ch, .bool false] 113))
        have HS := Go.Lib.hid (show (C.take (k + 1)).filterMap ovC = (C.take k).filterMap ovC ++ (if (rowZ cp).2.2.2.2.2 ≠ co then some (cp, (rowZ cp).2.2.2.2.2) else none).toList from HS.out)
        generalize (rowZ cp).2.2.2.2.2 = df at cP HS
        go_wp2_with fail
        (with_reducible refine cP.mono ?_)
        rintro e w4 ⟨⟨e0, rfl⟩, k4⟩
        have HRW := Go.Lib.hid (row_below HR1.out k4)
        have HKW := Go.Lib.hid (HKA.out.trans (k4.mono HKA.out.size))
        have hkws := HKW.out.size
        have HO4 := Go.Lib.hid (HO.out.below k4)
        have o0 := HO4.out.e0
        have o1 := HO4.out.e1
        have o2 := HO4.out.e2
        have o3 := HO4.out.e3
        have o4 := HO4.out.e4
        clear cP k4
        by_cases hd : df = co
        · have nd : (df != co) = false := by simpa using hd
          have HF := Go.Lib.hid (show (C.take (k + 1)).filterMap ovC = (C.take k).filterMap ovC by rw [HS.out, if_neg (by simp [hd])]; exact List.append_nil _)
          clear hd
          go_wp2_with fail
          go_roundw
          case rel => exact ⟨k + 1, B, m, cb, by omega, by go_num, rfl, by omega, Go.Lib.hid (by rw [HF.out]; exact HRW.out), Go.Lib.hid (by rw [HF.out]; exact HLE.out), HKW⟩
          case measure => simp [RowKit.intOf]; omega
        · have nd : (df != co) = true := by simpa using hd
          have HF := Go.Lib.hid (show (C.take (k + 1)).filterMap ovC = (C.take k).filterMap ovC ++ [(cp, df)] by rw [HS.out, if_pos hd]; rfl)
          clear hd
          go_wp2_with (at_builtin; refine wpList_append_own _ rfl _ _ 26 rfl w1.heap.size 55 i0 (.agg #[.int .i64 0, .int .i64 0]) 2 16 Try.underlying26 hi9 hz0 hz1 hz2 rfl (by decide) _ _ _ rfl (HRW.out.alloc _) ⟨w4.heap.size, 0, none⟩ 1 1 [.int .i64 cp, .int .i64 (df)] rfl rfl (cell_new2 _ _ _ _) (by intro u hu; simp at hu; rcases hu with rfl | rfl <;> rfl) (by unfold maxLen; omega) (by omega) (by simp; omega) ?_; intro v1 w5 hown1 hgrow1 _; obtain ⟨g1, cap1, rfl⟩ := ownsRow_succ hown1)
          go_roundw
          case rel => exact ⟨k + 1, some ⟨g1, 0, none⟩, m + 1, cap1, by omega, by go_num, rfl, by omega, Go.Lib.hid (by rw [HF.out, rowP_snoc]; exact hown1), Go.Lib.hid (by rw [HF.out, List.length_append, HLE.out]; rfl), Go.Lib.hid ((HKW.out.alloc HKW.out.size _).grown hgrow1 (by have := HKW.out.size; simp; omega) (fun j e => (HRW.out.lt j e).1))⟩
          case measure => simp [RowKit.intOf]; omega
    · obtain rfl : k = n := by omega
      have e : C.take k = C := List.take_of_length_le (by rw [HN.out]; exact Nat.le_refl _)
      have HO := HOW.out
      have HL := HLE.out
      rw [e, ← HOV.out] at HO HL
      clear hlt e
      go_wp2
      go_ret
      exact ⟨B, m, cb, HL, rfl, own_lower HO s1, K1.out.trans (HB1.out.mono s1)⟩
end Go.Proofs.Ytbkpokipibgdfaa

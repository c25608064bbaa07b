/- Layer 3: the law Joins, whole. -/
import Derived.Test.YthjooopppidcfaaDoorLk
namespace Go.Proofs.YthjooopppidcfaaDoor
open Go.RowKit Go.Shelf
open Gc

theorem last_byte {c : ByteArray} {P : List Nat} (h : Str c P []) (hcr : (cp P).reverse.headD 0 = 1) (z : Nat) (hz : c.size = z + 1) (hzz : z < c.size) : c[z].toNat = 13 := by
  obtain ⟨R, rfl⟩ := cr_last P hcr
  have h1 := h.whole
  rw [cr_bytes] at h1
  have hl : c.data.toList.length = c.size := by simp
  have e : c.data.toList[z]? = some 13 := by
    rw [h1, List.length_append, List.length_singleton] at hl
    have : z = (U.bytes R).length := by omega
    rw [h1, this, List.getElem?_append_right (Nat.le_refl _), Nat.sub_self]; rfl
  obtain ⟨hk, e2⟩ := List.getElem?_eq_some_iff.1 e
  have e3 : c[z] = 13 := e2
  rw [e3]; rfl

theorem law_joins (a b : ByteArray) (ha : a.size ≤ maxLen) (hb : b.size ≤ maxLen) (w : World) (hT : Tabs w) : Calls Tryd.prog 11 #[.string a, .string b] w (BoolPost true w) := by
  obtain ⟨P, bad, h⟩ := str_cut3 a
  obtain ⟨Q, bad2, h2⟩ := str_cut3 b
  have l1 := str_len3 h
  have l2 := str_len3 h2
  have cC := fun w => short_any a ha w
  have cD := fun w => short_any b hb w
  by_cases e1 : bad = []
  · subst e1
    by_cases e2 : bad2 = []
    · subst e2
      rcases Nat.eq_zero_or_pos (cut3 a).size with h0 | h0
      · have hn : P = [] := (str_nil h).1 h0
        exact joins_nil h l1 h2 l2 (cut3_size a) (cut3_size b) (by rw [hn]; decide) hn w hT cC cD
      · obtain ⟨z, hz⟩ : ∃ z, (cut3 a).size = z + 1 := ⟨(cut3 a).size - 1, by omega⟩
        have hzz : z < (cut3 a).size := by omega
        have hn : P ≠ [] := fun e => by have := (str_nil h).2 e; omega
        by_cases hbyte : (cut3 a)[z].toNat = 13
        · exact joins_cr h l1 h2 l2 z hz hzz hbyte (cut3_size a) w hT cC cD
        · exact joins_ne h l1 h2 l2 (cut3_size a) (cut3_size b) (fun e => hbyte (last_byte h e z hz hzz)) hn z hz hzz hbyte w hT cC cD
    · exact joins_bad2 h l1 h2 e2 w hT cC cD
  · exact joins_bad1 h e1 h2 l2 w hT cC cD
end Go.Proofs.YthjooopppidcfaaDoor

/- One cluster by itself is one cluster; a part of a string between two of its points. Plainly. -/
import Derived.Test.YtigbmhddkcgjfaaDoorGs
namespace Go.Proofs.YtigbmhddkcgjfaaDoor
open Gc

theorem clGo_first (cs : List Int) (r : List Int) (j k : Nat) (hk : 0 < k) (x : Nat × Nat) (rest : List (Nat × Nat)) (h : clGo r j k cs = x :: rest) :
    k ≤ x.2 ∧ clGo r j k (cs.take (x.2 - k)) = [x] := by
  induction cs generalizing r k with
  | nil =>
    have e : clGo r j k [] = [(j, k)] := by unfold clGo; rw [if_pos hk]
    rw [e] at h
    obtain ⟨rfl, rfl⟩ := List.cons.inj h
    exact ⟨Nat.le_refl _, by simpa using e⟩
  | cons c cs ih =>
    by_cases hc : refB r c = true
    · have e : clGo r j k (c :: cs) = (j, k) :: clGo (c :: r) k (k + 1) cs := by
        conv => lhs; unfold clGo
        rw [if_pos ⟨hk, hc⟩]
      rw [e] at h
      obtain ⟨rfl, _⟩ := List.cons.inj h
      refine ⟨Nat.le_refl _, ?_⟩
      have e2 : clGo r j k [] = [(j, k)] := by unfold clGo; rw [if_pos hk]
      simpa using e2
    · have e : ∀ l, clGo r j k (c :: l) = clGo (c :: r) j (k + 1) l := by
        intro l
        conv => lhs; unfold clGo
        rw [if_neg (fun x => hc x.2)]
      rw [e] at h
      obtain ⟨h1, h2⟩ := ih (c :: r) (k + 1) (by omega) h
      refine ⟨by omega, ?_⟩
      have e2 : x.2 - k = (x.2 - (k + 1)) + 1 := by omega
      rw [e2, List.take_succ_cons, e]
      exact h2
theorem cls_first (cs : List Int) (x : Nat × Nat) (rest : List (Nat × Nat)) (h : cls cs = x :: rest) : (cls (cs.take x.2)).length = 1 := by
  cases cs with
  | nil => rw [cls_nil] at h; cases h
  | cons c cs =>
    rw [cls_cons] at h
    obtain ⟨h1, h2⟩ := clGo_first cs [c] 0 1 (by decide) x rest h
    have e : x.2 = (x.2 - 1) + 1 := by omega
    rw [e, List.take_succ_cons, cls_cons, h2]; rfl
/-- What lies between two boundaries that follow each other is one cluster. -/
theorem cls_one (cs : List Int) (k : Nat) (h : k < (cls cs).length) : (cls ((cs.drop (nx cs k)).take (nx cs (k + 1) - nx cs k))).length = 1 := by
  have e1 : nx cs k = (bnd cs)[k]'(by rw [bnd_len]; omega) := by unfold nx; congr 1; omega
  have e2 : nx cs (k + 1) = (bnd cs)[k + 1]'(by rw [bnd_len]; omega) := by unfold nx; congr 1; omega
  have hd := cls_dropAt cs k (by omega)
  rw [← e1] at hd
  rw [List.drop_eq_getElem_cons h] at hd
  cases hc : cls (cs.drop (nx cs k)) with
  | nil => rw [hc] at hd; cases hd
  | cons x rest =>
    rw [hc, List.map_cons] at hd
    have h2 := congrArg Prod.snd (List.cons.inj hd).1
    rw [cls_snd cs k h, ← e2] at h2
    have h3 : nx cs (k + 1) - nx cs k = x.2 := by
      have : nx cs (k + 1) = x.2 + nx cs k := h2
      omega
    rw [h3]
    exact cls_first _ x rest hc
theorem nx_mono (cs : List Int) (k : Nat) : nx cs k ≤ nx cs (k + 1) := by
  unfold nx
  exact bnd_get_le cs _ _ (by omega) _
theorem off_mid (P : List Nat) (a b : Nat) (h : a ≤ b) : U.off P b = U.off P a + U.off (P.drop a) (b - a) := by
  have e : P.take b = P.take a ++ (P.drop a).take (b - a) := by
    have : P.take b = P.take (a + (b - a)) := by congr 1; omega
    rw [this, List.take_add]
  unfold U.off
  rw [e, U.bytes_append, List.length_append]
theorem str_mid {s : ByteArray} {P : List Nat} (h : Str s P []) (a b : Nat) (hab : a ≤ b) : Str (s.extract (U.off P a) (U.off P b)) ((P.drop a).take (b - a)) [] := by
  refine ⟨fun p hp => h.pts p (List.mem_of_mem_drop (List.mem_of_mem_take hp)), ?_, h.bad, ?_⟩
  · have h1 := U.drop_off P [] a
    rw [List.append_nil, List.append_nil] at h1
    have h2 := U.take_off (P.drop a) [] (b - a)
    rw [List.append_nil] at h2
    rw [List.append_nil, ← h2, ← h1, ← h.whole]
    have h3 : U.off (P.drop a) (b - a) = U.off P b - U.off P a := by have := off_mid P a b hab; omega
    rw [h3]
    rw [ByteArray.data_extract, Array.toList_extract, List.extract_eq_take_drop]
  · rw [ByteArray.size_extract]; have := h.size; omega
theorem cp_mid (P : List Nat) (a n : Nat) : cp ((P.drop a).take n) = ((cp P).drop a).take n := by simp [cp, clsOf, List.map_drop, List.map_take]
theorem cls_at (cs : List Int) (k : Nat) (h : k < (cls cs).length) : (cls cs)[k] = (nx cs k, nx cs (k + 1)) := by
  have e1 : nx cs k = (bnd cs)[k]'(by rw [bnd_len]; omega) := by unfold nx; congr 1; omega
  have e2 : nx cs (k + 1) = (bnd cs)[k + 1]'(by rw [bnd_len]; omega) := by unfold nx; congr 1; omega
  rw [e1, e2, ← cls_snd cs k h]
  have := cls_fst cs k h
  rw [← this]
end Go.Proofs.YtigbmhddkcgjfaaDoor

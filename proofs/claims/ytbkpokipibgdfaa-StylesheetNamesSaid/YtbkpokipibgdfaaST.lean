/- Layer 8: the chapter's example, plainly. -/
import Derived.Test.YtbkpokipibgdfaaSR
namespace Go.Proofs.Ytbkpokipibgdfaa
open Go.RowKit Go.Lib Go.Maps
set_option linter.unusedVariables false

def nA : ByteArray := ⟨#[78, 111, 114, 109, 97, 108]⟩
def nB : ByteArray := ⟨#[72, 101, 97, 100, 105, 110, 103]⟩
def nC : ByteArray := ⟨#[67, 111, 100, 101]⟩
def s1 : St := ⟨1, 1, nA, 0, 0, [(5, 24)]⟩
def s2 : St := ⟨2, 1, nB, 1, 0, [(2, 1), (5, 32)]⟩
def s3 : St := ⟨3, 2, nC, 0, 0, [(7, 2)]⟩
def l0 : List St := [s1, s2, s3]
def p0 : List Pr := [(20, 2)]
def o0 : List Pr := [(1, 3), (3, 1)]
theorem nmA : nmB nA = true := nmB_yes ⟨by decide, by decide, by decide, by decide, by decide⟩
theorem nmBq : nmB nB = true := nmB_yes ⟨by decide, by decide, by decide, by decide, by decide⟩
theorem nmC : nmB nC = true := nmB_yes ⟨by decide, by decide, by decide, by decide, by decide⟩
theorem l0_ok : LsOk l0 := by
  intro x hx
  simp only [l0, List.mem_cons, List.not_mem_nil, or_false] at hx
  unfold I64
  rcases hx with rfl | rfl | rfl <;> (simp [s1, s2, s3])
theorem l0_nms : NmsOk l0 := by
  intro x hx
  simp only [l0, List.mem_cons, List.not_mem_nil, or_false] at hx
  rcases hx with rfl | rfl | rfl <;> decide
theorem l0_prs : PrsOk l0 := by
  intro x hx
  simp only [l0, List.mem_cons, List.not_mem_nil, or_false] at hx
  rcases hx with rfl | rfl | rfl <;> decide
theorem ck1 : ckP 1 [(5, 24)] = 0 := by kernel_rfl
theorem ck2 : ckP 1 [(2, 1), (5, 32)] = 0 := by kernel_rfl
theorem ck3 : ckP 2 [(7, 2)] = 0 := by kernel_rfl
theorem p0_chk : chkP 2 p0 = 0 := by kernel_rfl
theorem o0_chk : chkP 1 o0 = 0 := by kernel_rfl
theorem l0_fld : fldP l0 = 0 := by
  unfold fldP
  refine chk_none (fldK l0) l0.length ?_
  intro k hk
  have hk3 : k < 3 := hk
  rw [fldK_at l0 k hk]
  rcases (by omega : k = 0 ∨ k = 1 ∨ k = 2) with rfl | rfl | rfl
  · show fldX s1 0 false = 0
    unfold fldX
    simp [s1, nmA, ck1]
  · show fldX s2 1 (seenT l0 1 1 nB) = 0
    have h : seenT l0 1 1 nB = false := by decide
    rw [h]
    unfold fldX
    simp [s2, nmBq, ck2]
  · show fldX s3 2 (seenT l0 2 2 nC) = 0
    have h : seenT l0 2 2 nC = false := by decide
    rw [h]
    unfold fldX
    simp [s3, nmC, ck3]
theorem l0_lnk : lnkP l0 = 0 := by decide
theorem l0_end : endB l0 = true := endB_yes (fun j hj => ⟨3, by
  have hk3 : j < 3 := hj
  rcases (by omega : j = 0 ∨ j = 1 ∨ j = 2) with rfl | rfl | rfl <;> decide⟩)
theorem l0_chk : chkA l0 = 0 := by
  unfold chkA chkL
  rw [if_neg (by decide), if_neg (by simp [l0_fld]), if_neg (by simp [l0_lnk]), if_pos l0_end]
theorem id1 : idOf 1 p0 = 2 := by kernel_rfl
theorem id2 : idOf 2 o0 = 3 := by kernel_rfl
theorem plc2 : plc l0 2 = some 1 := by decide
theorem plc3 : plc l0 3 = some 2 := by decide
theorem has1 : hasB l0 1 2 = true := by decide
theorem has2 : hasB l0 2 3 = true := by decide
theorem stp0 : stp l0 0 = none := by decide
theorem stp1 : stp l0 1 = some 0 := by decide
theorem stp2 : stp l0 2 = none := by decide
theorem ch2 {pre : List Nat} (h : ChP l0 (some 1) pre) : pre = [] ∨ pre = [1] ∨ pre = [1, 0] := by
  rcases pre with _ | ⟨x, _ | ⟨y, _ | ⟨z, t⟩⟩⟩
  · exact .inl rfl
  · have h1 := h [] x [] rfl
    cases h1
    exact .inr (.inl rfl)
  · have h1 := h [] x [y] rfl
    cases h1
    have h2 := h [1] y [] rfl
    rw [show nxt l0 (some 1) [1] = stp l0 1 from rfl, stp1] at h2
    cases h2
    exact .inr (.inr rfl)
  · have h1 := h [] x (y :: z :: t) rfl
    cases h1
    have h2 := h [1] y (z :: t) rfl
    rw [show nxt l0 (some 1) [1] = stp l0 1 from rfl, stp1] at h2
    cases h2
    have h3 := h [1, 0] z t rfl
    rw [show nxt l0 (some 1) [1, 0] = stp l0 0 from rfl, stp0] at h3
    cases h3
theorem ch3 {pre : List Nat} (h : ChP l0 (some 2) pre) : pre = [] ∨ pre = [2] := by
  rcases pre with _ | ⟨x, _ | ⟨y, t⟩⟩
  · exact .inl rfl
  · have h1 := h [] x [] rfl
    cases h1
    exact .inr rfl
  · have h1 := h [] x (y :: t) rfl
    cases h1
    have h2 := h [2] y t rfl
    rw [show nxt l0 (some 2) [2] = stp l0 2 from rfl, stp2] at h2
    cases h2
theorem ch2_end {xs : List Nat} (h : ChP l0 (some 1) xs) (hn : nxt l0 (some 1) xs = none) : xs = [1, 0] := by
  rcases ch2 h with rfl | rfl | rfl
  · cases hn
  · rw [show nxt l0 (some 1) [1] = stp l0 1 from rfl, stp1] at hn; cases hn
  · rfl
theorem ch3_end {xs : List Nat} (h : ChP l0 (some 2) xs) (hn : nxt l0 (some 2) xs = none) : xs = [2] := by
  rcases ch3 h with rfl | rfl
  · cases hn
  · rfl
theorem bnd2 : Bnd l0 (some 1) 4 := by
  intro pre h
  rcases ch2 h with rfl | rfl | rfl <;> exact ⟨of_decide_eq_true (by kernel_rfl), by decide⟩
theorem bnd3 : Bnd l0 (some 2) 4 := by
  intro pre h
  rcases ch3 h with rfl | rfl <;> exact ⟨of_decide_eq_true (by kernel_rfl), by decide⟩
theorem bm2 : ∀ xs, ChP l0 (some 2) xs → (mergeL (effP l0 xs) o0).length ≤ 1000 := by
  intro pre h
  rcases ch3 h with rfl | rfl <;> exact of_decide_eq_true (by kernel_rfl)
theorem bm3 : ∀ xs ys, ChP l0 (some 1) xs → ChP l0 (some 2) ys → (mergeL (effP l0 xs) (mergeL (effP l0 ys) o0)).length ≤ 1000 := by
  intro xs ys h1 h2
  rcases ch2 h1 with rfl | rfl | rfl <;> rcases ch3 h2 with rfl | rfl <;> exact of_decide_eq_true (by kernel_rfl)
theorem sort1 : SortP p0 := by
  intro i j hi hj h
  have h1 : i < 1 := hi
  have h2 : j < 1 := hj
  omega
theorem sort2 : SortP o0 := by
  intro i j hi hj h
  have h1 : i < 2 := hi
  have h2 : j < 2 := hj
  obtain rfl : i = 0 := by omega
  obtain rfl : j = 1 := by omega
  show (1 : Int) < 3
  decide
theorem txt0 : keepP 1 (mergeL (effP l0 [1, 0]) (mergeL (effP l0 [2]) o0)) = [(1, 3), (2, 1), (3, 1), (5, 32), (7, 2)] := by kernel_rfl
end Go.Proofs.Ytbkpokipibgdfaa

/- Layer 4: visit (48), for every tree. -/
import Derived.Test.YtonplacldckbgaaMD
namespace Go.Proofs.Ytonplacldckbgaa
open Go.RowKit Go.Lib Pt

theorem visit_any (L : Nat) (all : List (List UInt8)) (J Jx : List (List UInt8) → World → Prop) (w0 : World)
    (hG : ∀ pre W', J pre W' → Below w0.heap.size w0 W') (hJ : ∀ pre A C, J pre A → A.grownBy C none → J pre C)
    (hY : ∀ pre c W1, J pre W1 → pre ++ [c] <+: all → YieldAt Fence.wide 0 Try.prog L #[.string (bs c)] W1 fun e W' => (e = .returned (.bool true) ∧ J (pre ++ [c]) W') ∨ (e = .returned (.bool false) ∧ Jx (pre ++ [c]) W')) (t : Tr) :
    ∀ (k0 : Nat) (A : Option Addr) (x y : Int) (pre : List (List UInt8)) (W : World), Fine t → NAt w0 t A → (t.bytes.length : Int) - 400000 ≤ x → y ≤ 500000 → J pre W → pre ++ chunksT t x y <+: all →
    CallsIn Fence.wide k0 Try.prog 48 #[.pointer A, .int .i64 x, .int .i64 y, .func (.yield L) #[] #[]] W (VPost all (pre ++ chunksT t x y) J Jx) := by
  induction t with
  | nil =>
    intro k0 A x y pre W _ h _ _ h0 _
    obtain rfl : A = none := h
    rw [show chunksT .nil x y = [] from rfl, List.append_nil]
    exact visit_nil k0 L x y all pre J Jx W h0
  | node l p r il ir =>
    intro k0 A x y pre W hf h hx1 hy1 h0 hall
    by_cases hc : y ≤ 0 ∨ ((Tr.node l p r).bytes.length : Int) ≤ x
    · rw [show chunksT (.node l p r) x y = [] by rw [chunksT, if_pos hc], List.append_nil]
      exact visit_out k0 L x y all pre J Jx W (NAt.below (hG pre W h0) h) hc h0
    · have e : chunksT (.node l p r) x y = chunksT l x y ++ Pt.part p l.bytes.length x y ++ chunksT r (x - (l.bytes.length + p.length)) (y - (l.bytes.length + p.length)) := by rw [chunksT, if_neg hc]
      rw [e] at hall ⊢
      have el : (Tr.node l p r).bytes.length = l.bytes.length + p.length + r.bytes.length := by simp [Tr.bytes]; omega
      refine visit_in k0 L x y all pre J Jx w0 W h hf (by omega) (by omega) (by omega) (by omega) hG hJ hY hall (fun A W' h1 h2 => il 0 A x y pre W' hf.left h1 (by omega) (by omega) h2 ?_) (fun A pre' W' h1 h2 h3 => ir 0 A _ _ pre' W' hf.right h1 (by omega) (by omega) h2 h3) h0
      exact List.IsPrefix.trans ⟨Pt.part p l.bytes.length x y ++ chunksT r (x - (l.bytes.length + p.length)) (y - (l.bytes.length + p.length)), by simp only [List.append_assoc]⟩ hall
end Go.Proofs.Ytonplacldckbgaa

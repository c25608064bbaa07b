/- Layer 4: chunks (37) and its iterator (47). -/
import Derived.Test.YtonplacldckbgaaME
import Derived.Test.YtonplacldckbgaaBD
namespace Go.Proofs.Ytonplacldckbgaa
open Go.RowKit Go.Shelf Go.Lib Pt

attribute [local go_sem] Oper.semAt_some
/-- No type is the iterator's own. -/
def T0 : TypeId → Bool := fun _ => false
/-- What the iterator over chunks has captured. -/
def GC (w0 : World) (B1 B2 B3 : Nat) (A : Option Addr) (x y : Int) (W : World) : Prop := Below w0.heap.size w0 W ∧ Boxed W B1 67 (.pointer A) ∧ Boxed W B2 3 (.int .i64 x) ∧ Boxed W B3 3 (.int .i64 y)
set_option maxRecDepth 100000 in
set_option maxHeartbeats 4000000 in
theorem chunks_seq (k0 : Nat) (hk0 : 1 ≤ k0) {t : Tr} {A : Option Addr} (x y : Int) (w0 : World) (hf : Fine t) (h : NAt w0 t A) (hx : (t.bytes.length : Int) - 400000 ≤ x) (hy : y ≤ 500000) (B1 B2 B3 Bs : Nat) (w : World) :
    SeqG T0 Bs Fence.wide k0 Try.prog 47 #[.pointer (some ⟨B1, 0, none⟩), .pointer (some ⟨B2, 0, none⟩), .pointer (some ⟨B3, 0, none⟩)] (fun c => #[.string (bs c)]) (fun xs => xs = chunksT t x y) (fun pre => pre <+: chunksT t x y) (chunksT t x y).length (GC w0 B1 B2 B3 A x y) w := by
  intro L J Jx W hw hJ hJx hG hY h0
  obtain ⟨g0, g1, g2, g3⟩ := hG _ _ h0
  have HV := visit_any L (chunksT t x y) J Jx w0 (fun pre W' h => (hG pre W' h).1) (fun pre A C h1 h2 => hJ pre A C none h1 h2 (fun _ e => by cases e))
    (fun pre c W1 h1 h2 => yield_any (m' := 0) ((by
      obtain ⟨fn, tmps, assign, body, e1, e2⟩ := hY pre c W1 h1 (by obtain ⟨s, hs⟩ := h2; rw [← hs]; simp) h2
      exact ⟨fn, tmps, assign, body, e1, e2.mono fun e W' q => q.imp (fun q => ⟨q.1, q.2.1⟩) id⟩))) t 0 A x y [] W hf h hx hy h0 (List.prefix_refl _)
  rw [List.nil_append] at HV
  have H := Go.Lib.hid HV
  have c1 := g1.cell
  have c2 := g2.cell
  have c3 := g3.cell
  clear HV hG hY h0 hJ hJx hw g0 g1 g2 g3
  refine callsIn_of_wp Try.func47 rfl trivial ?_ rfl
  simp only [Try.ntmps47, List.size_toArray, List.length_cons, List.length_nil, Nat.reduceAdd, Nat.reduceSub, Array.replicate_succ, Array.replicate_zero, List.push_toArray, List.append_toArray, List.nil_append, List.cons_append]
  gi_wp2_with fail
  refine ⟨trivial, ?_⟩
  gi_at_call 48
  refine (callsIn_wide.2 (callsIn_wide.1 H.out)).mono ?_
  rintro e w2 (⟨rfl, hJ2⟩ | ⟨rfl, hJx⟩)
  · have J2 := Go.Lib.hid hJ2
    clear hJ2
    gi_wp2
    go_end0
    exact ⟨⟨_, rfl⟩, .inl ⟨_, rfl, J2.out⟩⟩
  · have J2 := Go.Lib.hid hJx
    clear hJx
    gi_wp2
    go_end0
    exact ⟨⟨_, rfl⟩, .inr J2.out⟩
set_option maxRecDepth 100000 in
set_option maxHeartbeats 4000000 in
theorem chunks_any (A : Option Addr) (x y : Int) (w : World) : Calls Try.prog 37 #[.pointer A, .int .i64 x, .int .i64 y] w fun e w' => e = .returned (.func (.func 47) #[] #[.pointer (some ⟨w.heap.size, 0, none⟩), .pointer (some ⟨w.heap.size + 1, 0, none⟩), .pointer (some ⟨w.heap.size + 2, 0, none⟩)]) ∧
    w' = ((w.alloc (.cells #[.pointer A] 67)).alloc (.cells #[.int .i64 x] 3)).alloc (.cells #[.int .i64 y] 3) := by
  go_enter Try.func37, Try.ntmps37
  go_wp2
  go_ret
  exact ⟨rfl, rfl⟩
end Go.Proofs.Ytonplacldckbgaa

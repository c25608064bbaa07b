/- Layer 5: the law Plays. -/
import Derived.Test.YtioehncdkdfcmaaP2
import Derived.Test.YtioehncdkdfcmaaJ4
namespace Go.Proofs.Ytioehncdkdfcmaa
open Go.RowKit Go.Lib Im

theorem play_in {w : World} {v : Value} {L : Nat} {V : Int} {A : Option Addr} {n c : Nat} {ops : List Opr} (h : PlayIn w v L V A n c ops) {w' : World} (hb : Below w.heap.size w w') : Calls Try.prog 12 #[.agg #[.int .u8 L, .int .i64 V, .slice A n c]] w' (PlayR w') :=
  play_any L V A n c ops h.hL h.hn w' (h.at_.below hb) h.bd h.hm
set_option maxRecDepth 100000 in
set_option maxHeartbeats 8000000 in
theorem law_plays (v : Value) (L : Nat) (V : Int) (A : Option Addr) (n c : Nat) (ops : List Opr) (w : World) (h : PlayIn w v L V A n c ops) : Calls Try.prog 3 #[v] w (BoolB true w) := by
  obtain rfl := h.eq
  have hb0 : Below w.heap.size w (w.alloc (.cells #[.int .u8 L, .int .i64 V, .slice A n c] 24)) := (Below.refl _ w).alloc (Nat.le_refl _) _
  have cP := play_in h hb0
  have ob := ObjAt.new w #[.int .u8 L, .int .i64 V, .slice A n c] 24
  have o0 := ob.b0
  have o1 := ob.b1
  have o2 := ob.b2
  clear ob h
  go_enter Try.func3, Try.ntmps3
  go_wp2_with fail
  (with_reducible refine cP.mono ?_)
  rintro e w1 ⟨b, A1, n1, c1, l, rfl, hP, hn⟩
  have hb1 : Below w.heap.size w w1 := hb0.trans (hP.2.2.2.mono hb0.size)
  clear hP cP o0 o1 o2 hb0 hn
  go_wp2_with fail
  (with_reducible refine (known_any _).mono ?_)
  rintro e w2 ⟨rfl, hb2⟩
  go_wp2
  go_ret
  exact ⟨by simp, hb1.trans (hb2.mono hb1.size)⟩
end Go.Proofs.Ytioehncdkdfcmaa

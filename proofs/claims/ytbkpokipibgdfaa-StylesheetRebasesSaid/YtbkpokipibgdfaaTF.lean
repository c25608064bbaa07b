/- Layer 8: the law of finding (5), as the claim takes it. -/
import Derived.Test.YtbkpokipibgdfaaTD
import Derived.Test.YtbkpokipibgdfaaNM
namespace Go.Proofs.Ytbkpokipibgdfaa
open Go.RowKit Go.Lib
theorem ls_ok {l : List St} (h : ∀ x ∈ l, StIn x) : LsOk l := fun x hx => ⟨(h x hx).1, (h x hx).2.1, (h x hx).2.2.1, (h x hx).2.2.2.1⟩
theorem law_findsC (A : Option Addr) (n c : Nat) (l : List St) (hn : l.length = n) (hc : n ≤ c ∧ c ≤ maxLen) (hin : ∀ x ∈ l, StIn x) (i : Int) (hi : (Lit.int .i64 i).wf = true) (x1 x2 x4 x5 : Int) (s : ByteArray) (hs : s.size ≤ maxLen) (B : Option Addr) (m d : Nat) (w : World) (hA : LsAt w A l) :
    Calls Try.prog 5 #[.slice A n c, .int .i64 i, .agg #[.int .i64 x1, .int .i64 x2, .string s, .int .i64 x4, .int .i64 x5, .slice B m d]] w (TrueW w) :=
  law_finds A n c l hn hc (ls_ok hin) i (wf_i64 hi) x1 x2 x4 x5 s hs B m d w hA
end Go.Proofs.Ytbkpokipibgdfaa

/- Layer 7: the law of Diff, over the row's own premises. -/
import Derived.Test.YtjdjfokfilnnoaaKd
import Derived.Test.YtjdjfokfilnnoaaJ4
namespace Go.Proofs.Ytjdjfokfilnnoaa
open Go.RowKit Go.Lib

theorem law_diffs (A : Option Addr) (len c : Nat) (l : List Pr) (B : Option Addr) (m d : Nat) (l' : List Pr) (w : World) (hA : PropsIn w A len c l) (hB : PropsIn w B m d l') :
    Calls Try.prog 11 #[.slice A len c, .slice B m d] w fun e w' => e = .returned (.bool true) ∧ Below w.heap.size w w' :=
  diffs_in A B len c m d l l' _ _ (ordP_sort l) (ordP_sort l') (ordP_len l) (ordP_len l') (fun w h => ordered_outN A len c l hA.1 ⟨hA.2.1, hA.2.2.1⟩ w h) (fun w h => ordered_outN B m d l' hB.1 ⟨hB.2.1, hB.2.2.1⟩ w h) w hA.2.2.2.1 hB.2.2.2.1
end Go.Proofs.Ytjdjfokfilnnoaa

/- Layer 22: symMergeCmpFunc (82), whole. -/
import Derived.Test.YtmpklkhjipclmaaMS4
import Derived.Test.YtmpklkhjipclmaaMS5
import Derived.Test.YtmpklkhjipclmaaMS7
namespace Go.Proofs.Ytmpklkhjipclmaa
open Go.RowKit Go.Shelf Go.Lib Go.Sort Sm
variable {α : Type} [Inhabited α] {enc : α → List Value} {k : Nat} {blk off : Nat} {d0 : Array α} {w0 : World} {lt : α → α → Prop} {cf : α → α → Int}
theorem symMerge_any (o : Ord lt) (zE : ∀ w, (Go.sizeOf 23).run Try.prog w = .ok k w) (g : Nat) (cb : Array Value) (cap : Nat) (R : RowK enc k w0 blk off d0) (hsz : d0.size < 4611686018427387904)
    (eg : ∀ args w, (callFunc g args).run Try.prog w = .ok (.enter g args) w) (hC : CmpLays Try.prog g cb enc k cf blk off d0.size w0) :
    ∀ (N a m b : Nat) (d : Array α) (w : World), b - a < N → d.size = d0.size → SWK enc k w0 blk off d w → SymIn lt cf d a m b →
    Calls Try.prog 88 #[.slice (some ⟨blk, off, none⟩) d0.size cap, .int .i64 a, .int .i64 m, .int .i64 b, .func (.func g) #[] cb] w (SymOut lt enc k w0 blk off d a b) := by
  intro N
  induction N with
  | zero => intro a m b d w h; exact absurd h (Nat.not_lt_zero _)
  | succ N ih =>
    intro a m b d w hN hs S hI
    have h1 := hI.am
    have h2 := hI.mb
    rw [← hs] at ih hsz ⊢
    by_cases e1 : m = a + 1
    · exact symMerge_left o zE g cb cap a m b d w R hs.symm S hI e1 hsz eg hC
    · by_cases e2 : b = m + 1
      · exact symMerge_right o zE g cb cap a m b d w R hs.symm S hI (by omega) e2 hsz eg hC
      · exact symMerge_rest o zE g cb cap a m b d w R hs.symm S hI (by omega) (by omega) hsz eg hC
          fun a' m' b' dk wr h1 h2 h3 h4 => ih a' m' b' dk wr (by omega) h2 h3 h4
end Go.Proofs.Ytmpklkhjipclmaa

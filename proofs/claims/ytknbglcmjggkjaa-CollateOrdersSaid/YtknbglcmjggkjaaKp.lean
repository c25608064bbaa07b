/- Layer 6: the law of orders (6). -/
import Derived.Test.YtknbglcmjggkjaaK3
namespace Go.Proofs.Ytknbglcmjggkjaa
open Go.RowKit Go.Shelf Go.Lib Co

theorem law_orders {w : World} (a b c : ByteArray) (ha : a.size ≤ maxLen) (hb : b.size ≤ maxLen) (hc : c.size ≤ maxLen) (st : Int) (nu ig uf : Bool) : Calls Try.prog 6 #[.agg #[.string a, .string b, .string c], opV st nu ig uf] w (TrueW w) := by
  obtain ⟨x, sx, cx⟩ := cut_x a ha
  obtain ⟨y, sy, cy⟩ := cut_x b hb
  obtain ⟨z, sz, cz⟩ := cut_x c hc
  exact orders_in sx sy sz cx cy cz st nu ig uf w
end Go.Proofs.Ytknbglcmjggkjaa

/- Layer 22: the condition of a filter (46). -/
import Derived.Test.YtmpklkhjipclmaaV9
namespace Go.Proofs.Ytmpklkhjipclmaa
open Go.RowKit Go.Lib
set_option linter.unusedVariables false

set_option maxRecDepth 100000 in
theorem and_any (A : Option Addr) (n c : Nat) (w : World) : Calls Try.prog 63 #[.slice A n c] w fun e w' => e = .returned (.func (.func 80) #[] #[.pointer (some ⟨w.heap.size, 0, none⟩)]) ∧ w' = w.alloc (.cells #[.slice A n c] 109) := by
  go_enter Try.func63, Try.ntmps63
  go_wp2
  go_ret
  exact ⟨rfl, rfl⟩
/-- A filter by value, with the places of its lists. -/
abbrev flV (f : Fl) (A : Option Addr) (c : Nat) (B : Option Addr) (d : Nat) : Value := .agg #[.slice A f.authors.length c, .int .i64 f.frm, .int .i64 f.to, .slice B f.ids.length d]
structure FlOk (f : Fl) : Prop where
  a : f.authors.length ≤ 1000
  i : f.ids.length ≤ 1000
  s : ∀ x ∈ f.authors, x.size ≤ maxLen
  n : ∀ x ∈ f.ids, I64 x
def CdR (f : Fl) (w : World) (e : Ending) (w' : World) : Prop := ∃ cb, e = .returned (.func (.func 80) #[] #[.pointer (some ⟨cb, 0, none⟩)]) ∧ CndAt f cb w' ∧ Below w.heap.size w w'
set_option maxRecDepth 100000 in
set_option maxHeartbeats 16000000 in
theorem condition_any (f : Fl) (hf : FlOk f) (A : Option Addr) (c : Nat) (B : Option Addr) (d : Nat) (w : World) (hA : SsAt w A f.authors) (hB : NsAt w B f.ids) :
    Calls Try.prog 46 #[flV f A c B d] w (CdR f w) := by
  have b0 := (Below.refl w.heap.size w).alloc (Nat.le_refl _) (.cells #[.slice A f.authors.length c, .int .i64 f.frm, .int .i64 f.to, .slice B f.ids.length d] 52)
  have O0 := ObjAt.new w #[.slice A f.authors.length c, .int .i64 f.frm, .int .i64 f.to, .slice B f.ids.length d] 52
  have hfb : w.heap.size < (w.alloc (.cells #[.slice A f.authors.length c, .int .i64 f.frm, .int .i64 f.to, .slice B f.ids.length d] 52)).heap.size := by simp
  generalize hW : w.alloc (.cells #[.slice A f.authors.length c, .int .i64 f.frm, .int .i64 f.to, .slice B f.ids.length d] 52) = W at b0 O0 hfb
  have HW := Lib.hid hW
  have HB0 := Lib.hid b0
  have OX := Lib.hid O0
  have s0 := b0.size
  have HAA := Lib.hid (hA.below b0)
  have HBB := Lib.hid (hB.below b0)
  have HF := Lib.hid hf
  have c64 := Lib.hid (fun U (hU : Below W.heap.size W U) => ((CndS_any f.authors f.authors.length rfl HF.out.a HF.out.s A c U (HAA.out.below hU)).mono (fun e U' ⟨p, q, h1, h2, h3⟩ => ⟨p, q, h1, h2, hU.trans (h3.mono hU.size)⟩) :
    Calls Try.prog 64 #[.slice A f.authors.length c, .func (.func 65) #[] #[]] U fun e U' => ∃ p q, e = .returned (.func (.func 82) #[] #[.pointer (some ⟨p, 0, none⟩), .pointer (some ⟨q, 0, none⟩)]) ∧ CndS f.authors p q U' ∧ Below W.heap.size W U'))
  have c68 := Lib.hid (fun U (hU : Below W.heap.size W U) p q (hC : CndS f.authors p q U) => ((CndI_any f.ids f.ids.length rfl HF.out.i HF.out.n B d U (HBB.out.below hU)).mono (fun e U' ⟨p', q', h1, h2, h3⟩ => ⟨p', q', h1, h2, hC.below h3, hU.trans (h3.mono hU.size)⟩) :
    Calls Try.prog 68 #[.slice B f.ids.length d, .func (.func 69) #[] #[]] U fun e U' => ∃ p' q', e = .returned (.func (.func 83) #[] #[.pointer (some ⟨p', 0, none⟩), .pointer (some ⟨q', 0, none⟩)]) ∧ CndI f.ids p' q' U' ∧ CndS f.authors p q U' ∧ Below W.heap.size W U'))
  have SS := Lib.hid (fun U (hU : Below W.heap.size W U) => (⟨(OX.out.below hU).get (k := 0) rfl, (OX.out.below hU).get (k := 3) rfl⟩ : U.cell? ⟨w.heap.size, 0, none⟩ = some (.slice A f.authors.length c) ∧ U.cell? ⟨w.heap.size, 3, none⟩ = some (.slice B f.ids.length d)))
  have SSA := Lib.hid (fun U o (hU : Below W.heap.size W U) => SS.out (U.alloc o) (hU.alloc hU.size o))
  have SSA2 := Lib.hid (fun U o o' (hU : Below W.heap.size W U) => SSA.out (U.alloc o) o' (hU.alloc hU.size o))
  have D0 : Below W.heap.size W W.drew := bdrew1 (Below.refl _ _)
  clear hA hB b0 O0 hf


  go_enter Try.func46, Try.ntmps46
  go_wp2_with fail
  go_region_held3 (fun U => U.cell? ⟨w.heap.size, 0, none⟩ = some (.slice A f.authors.length c) ∧ U.cell? ⟨w.heap.size, 3, none⟩ = some (.slice B f.ids.length d)) (first | exact SS.out _ (by assumption) | exact SSA.out _ _ (by assumption) | exact SSA2.out _ _ _ (by assumption)) (first
    | (go_at_call 64; (with_reducible refine (c64.out _ D0).mono ?_); rintro e U1 ⟨p, q, rfl, hC1, hU1⟩)
    | (go_at_call 68; (with_reducible refine (c68.out _ hU1 _ _ hC1).mono ?_); rintro e U2 ⟨p', q', rfl, hD2, hC2, hU2⟩)
    | (go_at_call 63; (with_reducible refine (and_any _ _ _ _).mono ?_); rintro e U3 ⟨rfl, rfl⟩)
    | fail)
  all_goals
    have K3 := hU2.alloc hU2.size (.cells #[.func (.func 82) #[] #[.pointer (some ⟨p, 0, none⟩), .pointer (some ⟨q, 0, none⟩)], .func (.func 66) #[] #[.pointer (some ⟨w.heap.size, 0, none⟩)], .func (.func 67) #[] #[.pointer (some ⟨w.heap.size, 0, none⟩)], .func (.func 83) #[] #[.pointer (some ⟨p', 0, none⟩), .pointer (some ⟨q', 0, none⟩)]] 76)
    have K4 := K3.alloc K3.size (.cells #[.slice (some ⟨U2.heap.size, 0, none⟩) 4 4] 109)
    have kl := (Below.refl U2.heap.size U2).alloc (Nat.le_refl _) (.cells #[.func (.func 82) #[] #[.pointer (some ⟨p, 0, none⟩), .pointer (some ⟨q, 0, none⟩)], .func (.func 66) #[] #[.pointer (some ⟨w.heap.size, 0, none⟩)], .func (.func 67) #[] #[.pointer (some ⟨w.heap.size, 0, none⟩)], .func (.func 83) #[] #[.pointer (some ⟨p', 0, none⟩), .pointer (some ⟨q', 0, none⟩)]] 76)
    have kk := kl.alloc kl.size (.cells #[.slice (some ⟨U2.heap.size, 0, none⟩) 4 4] 109)
    have G1 := (ObjAt.new U2 #[.func (.func 82) #[] #[.pointer (some ⟨p, 0, none⟩), .pointer (some ⟨q, 0, none⟩)], .func (.func 66) #[] #[.pointer (some ⟨w.heap.size, 0, none⟩)], .func (.func 67) #[] #[.pointer (some ⟨w.heap.size, 0, none⟩)], .func (.func 83) #[] #[.pointer (some ⟨p', 0, none⟩), .pointer (some ⟨q', 0, none⟩)]] 76).alloc (.cells #[.slice (some ⟨U2.heap.size, 0, none⟩) 4 4] 109)
    have X1 := Boxed.new (U2.alloc (.cells #[.func (.func 82) #[] #[.pointer (some ⟨p, 0, none⟩), .pointer (some ⟨q, 0, none⟩)], .func (.func 66) #[] #[.pointer (some ⟨w.heap.size, 0, none⟩)], .func (.func 67) #[] #[.pointer (some ⟨w.heap.size, 0, none⟩)], .func (.func 83) #[] #[.pointer (some ⟨p', 0, none⟩), .pointer (some ⟨q', 0, none⟩)]] 76)) 109 (.slice (some ⟨U2.heap.size, 0, none⟩) 4 4)
    rw [World.size_alloc] at X1
    generalize hV : (U2.alloc (.cells #[.func (.func 82) #[] #[.pointer (some ⟨p, 0, none⟩), .pointer (some ⟨q, 0, none⟩)], .func (.func 66) #[] #[.pointer (some ⟨w.heap.size, 0, none⟩)], .func (.func 67) #[] #[.pointer (some ⟨w.heap.size, 0, none⟩)], .func (.func 83) #[] #[.pointer (some ⟨p', 0, none⟩), .pointer (some ⟨q', 0, none⟩)]] 76)).alloc (.cells #[.slice (some ⟨U2.heap.size, 0, none⟩) 4 4] 109) = V at *
    have HR := Lib.hid (show CndAt f (U2.heap.size + 1) V from ⟨U2.heap.size, w.heap.size, p, q, p', q', X1.cell, G1.get (k := 0) rfl, G1.get (k := 1) rfl, G1.get (k := 2) rfl, G1.get (k := 3) rfl, (OX.out.below K4).get (k := 1) rfl, (OX.out.below K4).get (k := 2) rfl, hC2.below kk, hD2.below kk⟩)
    have HB := Lib.hid (HB0.out.trans (K4.mono s0))
    clear K3 K4 kl kk G1 X1 hC1 hU1 hD2 hC2 hU2
    go_wp2
    go_ret
    exact ⟨U2.heap.size + 1, rfl, HR.out, HB.out⟩
end Go.Proofs.Ytmpklkhjipclmaa

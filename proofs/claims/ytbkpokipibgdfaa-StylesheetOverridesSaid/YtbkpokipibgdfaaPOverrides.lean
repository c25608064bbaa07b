/- Proves StylesheetOverridesSaid: for any list of at most 24 styles, any paragraph and any run for which Text returns no error, each property of the run is among the effective ones, and setting one more character property of the run changes no other effective property (without the reference for Text). No conditions beyond the row's own. -/
import Derived.Test.YtbkpokipibgdfaaTY
import Derived.Test.YtbkpokipibgdfaaNL
import Derived.WalkKit
import Derived.ProofKit
import Derived.OpenShut
import Derived.ShutString
import Derived.ChangeOld
import Derived.Below
namespace Go.Proofs.Ytbkpokipibgdfaa.stylesheetOverrides
open Go.ChangeShapes Go.WideShapes Go.ChangeAt Go.RowKit
open Go.ChangeMaps (open_string shut_string)
set_option linter.unusedVariables false

theorem own : ownKnob Try.prog.godebug = none := by kernel_rfl
theorem laidOut : laidOutB Try.prog = true := by kernel_rfl

set_option maxRecDepth 100000 in
theorem lifted (os : Os) (started : os.Started) (H : Type) (enc : TypeId × Value → H) :
    ReturnsInHanded {} Try.checked os 9 .any (Rows.stylesheetOverridesSpec.pre6 enc Try.prog Try.f9 Rows.stylesheetOverridesRow.domain false) (Rows.stylesheetOverridesSpec.post enc Try.prog Try.f9 false true false false) := by
  refine returnsInHanded_of_change (C := Try.checked) own started (by kernel_rfl) Try.func9
    (ChangeSpec.witness6 (enc := enc) (C := Try.checked) false ⟨#[], #[.slice none 0 0, .slice none 0 0, .slice none 0 0], []⟩ 8 (by kernel_rfl) (by kernel_rfl) (by kernel_rfl) (by kernel_rfl)) ?_
  intro W base args ds gs before hval0 hW hcnd _
  have hval : ∀ (j : Nat) t v, Try.f9.params[j]? = some t → args[j]? = some v → Value.okWide Try.prog W .any base t v := hval0
  have hW' := hW
  obtain ⟨p, q, hA0, hV, rfl, hfz, hnd⟩ := hW
  have hA : DataW.TrodAll enc Try.prog W 0 (fun _ => true) true Try.f9.params.toList args.toList ds p := hA0
  rw [Try.params9] at hA hval
  obtain ⟨v0, vs0, d0, ds0, p0, q0, hargs, rfl, rfl, h0, r0⟩ := trodAll_cons hA
  obtain ⟨v1, vs1, d1, ds1, p1, q1, rfl, rfl, rfl, h1, r1⟩ := trodAll_cons r0
  obtain ⟨v2, vs2, d2, ds2, p2, q2, rfl, rfl, rfl, h2, r2⟩ := trodAll_cons r1
  obtain ⟨rfl, rfl, rfl⟩ := trodAll_nil r2
  obtain rfl : args = #[v0, v1, v2] := by cases args; simp_all
  obtain ⟨rfl, rfl⟩ := trodVars_none hV
  have k0 := h0
  have lt0 : ∀ x ∈ p0, x.block < W.heap.size := by obtain ⟨m, hm⟩ := k0; exact DataW.trod_lt m _ _ _ hm
  obtain ⟨A0, c0, l0, rfl, w0a, w0b, w0c, w0d⟩ : ∃ A c l, v0 = .slice A (List.length l) c ∧ l.length ≤ c ∧ c ≤ maxLen ∧ LsAt W A l ∧ ∀ x ∈ l, StIn x := by obtain ⟨n, x1, x2, rfl⟩ := okWide_slice Try.underlying22 (hval 0 22 v0 rfl rfl); obtain ⟨fuel, hf⟩ := h0; obtain ⟨A, c, l, hcs, a1, a2, a3, a4⟩ := open_styles hf; exact ⟨A, c, l, by simpa [Value.cells] using hcs, a1, a2, a3, a4⟩
  have k1 := h1
  have lt1 : ∀ x ∈ p1, x.block < W.heap.size := by obtain ⟨m, hm⟩ := k1; exact DataW.trod_lt m _ _ _ hm
  obtain ⟨A1, n1, c1, rfl⟩ := okWide_slice Try.underlying26 (hval 1 26 v1 rfl rfl)
  obtain ⟨l1, w1a, w1b, w1c, w1d, w1e⟩ : ∃ l : List Pr, List.length l = n1 ∧ n1 ≤ c1 ∧ c1 ≤ maxLen ∧ PrAt W A1 l ∧ ∀ y ∈ l, I64 y.1 ∧ I64 y.2 := by obtain ⟨fuel, hf⟩ := h1; obtain ⟨l, q1, q2, q3, q4, q5⟩ := open_props (by simpa [Value.cells] using hf); exact ⟨l, q1, q2, q3, q4, fun y hy => ⟨wf_i64 (q5 y hy).1, wf_i64 (q5 y hy).2⟩⟩
  have k2 := h2
  have lt2 : ∀ x ∈ p2, x.block < W.heap.size := by obtain ⟨m, hm⟩ := k2; exact DataW.trod_lt m _ _ _ hm
  obtain ⟨A2, n2, c2, rfl⟩ := okWide_slice Try.underlying26 (hval 2 26 v2 rfl rfl)
  obtain ⟨l2, w2a, w2b, w2c, w2d, w2e⟩ : ∃ l : List Pr, List.length l = n2 ∧ n2 ≤ c2 ∧ c2 ≤ maxLen ∧ PrAt W A2 l ∧ ∀ y ∈ l, I64 y.1 ∧ I64 y.2 := by obtain ⟨fuel, hf⟩ := h2; obtain ⟨l, q1, q2, q3, q4, q5⟩ := open_props (by simpa [Value.cells] using hf); exact ⟨l, q1, q2, q3, q4, fun y hy => ⟨wf_i64 (q5 y hy).1, wf_i64 (q5 y hy).2⟩⟩
  clear hA0 hval0
  refine (law_overrides A0 _ c0 l0 rfl ⟨w0a, w0b⟩ w0d A1 n1 c1 l1 w1a ⟨w1b, w1c⟩ w1e A2 n2 c2 l2 w2a ⟨w2b, w2c⟩ w2e W w0c w1d w2d).mono fun e W' ⟨he, bel⟩ => ?_
  subst he
  exact ⟨_, rfl, _, _, _, [], _, [], hW', trodAll_mk1 (shut_bool Try.underlying4 _), (trodAll_cons_mk (Below.trod laidOut (by kernel_rfl) (of_decide_eq_true (by kernel_rfl)) k0 bel lt0) (trodAll_cons_mk (Below.trod laidOut (by kernel_rfl) (of_decide_eq_true (by kernel_rfl)) k1 bel lt1) (trodAll_cons_mk (Below.trod laidOut (by kernel_rfl) (of_decide_eq_true (by kernel_rfl)) k2 bel lt2) trodAll_mk0))), rfl, bel.frame _, fun h => by cases h⟩

theorem over : Rows.stylesheetOverridesRow.holds Try.pinned (OpenSpec.ofChange Rows.stylesheetOverridesSpec) :=
  OpenClaim.holds_of_wide 9 Try.f9 rfl rfl rfl rfl rfl rfl rfl ⟨rfl, rfl, rfl, rfl, rfl⟩ rfl rfl rfl rfl rfl (by kernel_rfl) Try.func9 (by kernel_rfl)
    (of_decide_eq_true (by kernel_rfl)) (by unfold Func.isWrapper; first | (rw [if_pos (by decide +kernel)]; kernel_rfl) | (rw [if_neg (by decide +kernel)]; exact ⟨rfl, rfl⟩))
    (fun os started H enc _ => lifted os started H enc)

theorem proved : Rows.StylesheetOverridesSaid := over
end Go.Proofs.Ytbkpokipibgdfaa.stylesheetOverrides
namespace Go.Proofs.Ytbkpokipibgdfaa
theorem holdsStylesheetOverrides : Rows.StylesheetOverridesSaid := stylesheetOverrides.proved
end Go.Proofs.Ytbkpokipibgdfaa

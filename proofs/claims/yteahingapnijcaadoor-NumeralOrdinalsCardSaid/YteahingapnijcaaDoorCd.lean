/- Layer 9: what the rows' condition gives the walks; a world that meets it. -/
import Derived.Test.YteahingapnijcaaDoorC7
import Derived.Test.YteahingapnijcaaDoorTie
import Derived.Test.YteahingapnijcaaDoorCards
import Derived.PinnedBridge
import Derived.Lib.LaidU8T
import Derived.Lib.LaidCase
import Derived.Lib.LaidIn
import Derived.ProofKit
import Derived.OpenShut
import Derived.ShutString
import Derived.LaidMore
import Derived.Lay
import Derived.SevenTiedAt
import Derived.Stop.Joined
namespace Go.Proofs.YteahingapnijcaaDoor
open Go.ChangeShapes Go.WideShapes Go.ChangeAt Go.RowKit Go.Shelf Go.Lib

theorem own : ownKnob Tryd.prog.godebug = none := by kernel_rfl
def laidL : List (String × DataW Unit) := [("unicode/utf8.acceptRanges", Rows.laid_unicode_utf8_acceptRanges), ("obelus/numeral.symbols", Rows.laid_obelus_numeral_symbols), ("unicode.CaseRanges", Rows.laid_unicode_CaseRanges), ("unicode/utf8.first", Rows.laid_unicode_utf8_first)]
theorem accept_eq : (Rows.laid_unicode_utf8_acceptRanges : DataW Unit) = Lib.acceptData := by kernel_rfl
def symRow (x : List UInt8 × Nat) : DataW Unit := .agg [.lit (.string x.1), .lit (.int .i64 (x.2 : Nat))]
theorem syms_eq : (Rows.laid_obelus_numeral_symbols : DataW Unit) = .agg (Nu9.rtab.map symRow) := by kernel_rfl
theorem sym_row {w : World} {fuel : Nat} {cs : List Value} {x : List UInt8 × Nat} {p : List MemPlace} (h : DataW.trod (fun _ => ()) Tryd.prog w 0 (fun _ => true) false fuel 69 cs = some (symRow x, p)) : cs = [.string (bs x.1), .int .i64 (x.2 : Nat)] := by
  obtain ⟨xs, n, rfl, hx, hl, hxl, hall⟩ := DataW.trod_struct Tryd.underlying69 h
  have hl' : cs.length = 2 := hl.trans (by kernel_rfl)
  have hx2 : xs.map (·.1) = [.lit (.string x.1), .lit (.int .i64 (x.2 : Nat))] := by
    have := congrArg Prod.fst hx
    simpa [symRow] using this.symm
  obtain ⟨x0, x1, rfl⟩ : ∃ x0 x1, xs = [x0, x1] := by
    match xs, hx2 with
    | [x0, x1], _ => exact ⟨x0, x1, rfl⟩
  simp only [List.map_cons, List.map_nil, List.cons.injEq, and_true] at hx2
  obtain ⟨e0, e1⟩ := hx2
  have f0 := hall 0 _ rfl
  have f1 := hall 1 _ rfl
  change DataW.trod _ _ _ _ _ _ _ 9 ((cs.drop 0).take (Tryd.prog.cellsOf 9)) = some x0 at f0
  change DataW.trod _ _ _ _ _ _ _ 3 ((cs.drop 1).take (Tryd.prog.cellsOf 3)) = some x1 at f1
  rw [show Tryd.prog.cellsOf 9 = 1 by kernel_rfl] at f0
  rw [show Tryd.prog.cellsOf 3 = 1 by kernel_rfl] at f1
  have g0 : cs[0]? = some (.string (bs x.1)) := by
    obtain ⟨s, hs, hx', _⟩ := DataW.trod_string Tryd.underlying9 f0
    rw [hx'] at e0
    have e2 : s.data.toList = x.1 := by simpa using e0
    have : s = bs x.1 := by rw [← e2]; simp [bs]
    rw [← this]
    exact at_of_take hs
  have g1 : cs[1]? = some (.int .i64 (x.2 : Nat)) := by
    obtain ⟨z, hz, hx', _⟩ := DataW.trod_int Tryd.underlying3 f1
    rw [hx'] at e1
    cases e1
    exact at_of_take hz
  match cs, hl', g0, g1 with
  | [c0, c1], _, g0, g1 =>
    simp at g0 g1
    subst g0 g1
    rfl
theorem syms_of_reads {w : World} (h : VarReads Tryd.prog w "obelus/numeral.symbols" (.agg (Nu9.rtab.map symRow))) : SymsAt w := by
  obtain ⟨g, t, cs, fuel, p, hg, hty, hvar, hd⟩ := h
  obtain rfl : g = 0 := Option.some.inj (hg.symm.trans (show Tryd.prog.globalNamed "obelus/numeral.symbols" = some 0 by kernel_rfl))
  obtain rfl : t = 70 := Option.some.inj (hty.symm.trans (show (Tryd.prog.globals[0]?).map (·.type) = some 70 by kernel_rfl))
  obtain ⟨xs, m, rfl, hx, hl, hxl, hall⟩ := DataW.trod_array Tryd.underlying70 hd
  have hl' : cs.toList.length = 26 := hl.trans (by kernel_rfl)
  have hxm : xs.map (·.1) = Nu9.rtab.map symRow := by
    have := congrArg Prod.fst hx
    simpa using this.symm
  have hrow : ∀ i (h : i < 13), (cs.toList.drop (i * 2)).take 2 = [.string (bs (Nu9.rtab[i]'(by rw [rtab_len]; exact h)).1), .int .i64 ((Nu9.rtab[i]'(by rw [rtab_len]; exact h)).2 : Nat)] := by
    intro i hi
    have h1 := hall i hi
    rw [show Tryd.prog.cellsOf 69 = 2 by kernel_rfl] at h1
    have hix : i < xs.length := by omega
    rw [List.getElem?_eq_getElem hix] at h1
    have h2 : xs[i].1 = symRow (Nu9.rtab[i]'(by rw [rtab_len]; exact hi)) := by
      have := congrArg (·[i]?) hxm
      simp only [List.getElem?_map, List.getElem?_eq_getElem hix, List.getElem?_eq_getElem (show i < Nu9.rtab.length by rw [rtab_len]; exact hi), Option.map_some, Option.some.injEq] at this
      exact this
    exact sym_row (p := xs[i].2) (by rw [← h2]; exact h1)
  have hcs : cs = symC := by
    apply Array.ext'
    apply List.ext_getElem?
    intro k
    by_cases hk : k < 26
    · have hi : k / 2 < 13 := by omega
      have h1 := hrow (k / 2) hi
      have h2 := sym_piece (k / 2) hi
      have h3 : (symC.toList.drop (k / 2 * 2)).take 2 = (cs.toList.drop (k / 2 * 2)).take 2 := by
        rw [h1]
        have := congrArg Array.toList h2
        rw [Array.toList_extract, List.extract_eq_take_drop, Nat.add_sub_cancel_left] at this
        exact this
      have h4 := congrArg (·[k % 2]?) h3
      simp only [List.getElem?_take, List.getElem?_drop] at h4
      rw [if_pos (by omega), if_pos (by omega), show k / 2 * 2 + k % 2 = k by omega] at h4
      exact h4.symm
    · rw [List.getElem?_eq_none (by omega), List.getElem?_eq_none (by rw [Array.length_toList, symC_size]; omega)]
  subst hcs
  have hv := hvar
  unfold World.var? at hv
  rw [hg] at hv
  simp only [Option.bind_some] at hv
  split at hv
  · rename_i c ty fr hh
    cases hv
    exact ⟨ty, fr, hh⟩
  · cases hv
/-- What the rows' condition gives the walks. -/
theorem laid_of_met {W : World} (h : laidMetH Tryd.prog laidL W) : LaidW W := by
  rw [MakeChecks.laidMetH_plain _ _ _ (by kernel_rfl)] at h
  have h1 := Lib.laidMet.reads h (.head _)
  have h2 := Lib.laidMet.reads h (.tail _ (.head _))
  have h3 := Lib.laidMet.reads h (.tail _ (.tail _ (.head _)))
  have h4 := Lib.laidMet.reads h (.tail _ (.tail _ (.tail _ (.head _))))
  rw [accept_eq] at h1
  rw [syms_eq] at h2
  unfold Rows.laid_unicode_CaseRanges at h3
  rw [Pinned.caseRanges_eq] at h3
  unfold Rows.laid_unicode_utf8_first at h4
  rw [Pinned.utf8First_eq] at h4
  refine ⟨syms_of_reads h2, ?_, ?_⟩
  · exact caseVar_of_reads (ρ := Tryd.lays159_ren) { Tryd.lays159 with } (by kernel_rfl) ⟨by kernel_rfl, by kernel_rfl, by kernel_rfl, by kernel_rfl, by kernel_rfl, by kernel_rfl⟩ h3
  · exact utf8Tabs_of_readsT (ρ := Tryd.lays159_ren) (U8Types.of260 { Tryd.lays159 with }) ⟨by kernel_rfl, by kernel_rfl, by kernel_rfl, by kernel_rfl, by kernel_rfl, by kernel_rfl, by kernel_rfl⟩ h4 h1
/-- A world that lays them. -/
noncomputable def witW (os : Os) : World := World.laidAll Tryd.prog os laidL
theorem wit_met (os : Os) (args : Array Value) : laidMetH Tryd.prog laidL ((witW os).forCall (fun _ _ => 0) ⟨#[], args, []⟩).memory := by
  rw [MakeChecks.laidMetH_plain _ _ _ (by kernel_rfl)]
  exact laidMet_laidAll _ (by kernel_rfl) (by kernel_rfl)
end Go.Proofs.YteahingapnijcaaDoor

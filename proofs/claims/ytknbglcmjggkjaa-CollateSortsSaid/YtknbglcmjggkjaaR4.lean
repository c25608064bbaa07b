/- Layer 6: the reference's number (37). -/
import Derived.Test.YtknbglcmjggkjaaR3
namespace Go.Proofs.Ytknbglcmjggkjaa
open Go.RowKit Go.Shelf Go.Lib Co

theorem ownsRow_new (w : World) (e : TypeId) (size n : Nat) (cs : Array Value) (B : Nat) (hB : B ≤ w.heap.size) (hn : cs.size = n * size) (hm : n ≤ maxLen) : (w.alloc (.cells cs e)).ownsRow B e size (.slice (some ⟨w.heap.size, 0, none⟩) n n) n cs.toList :=
  ⟨by simpa using hn, .inr ⟨w.heap.size, n, cs, rfl, hB, World.alloc_heap_new w _, Nat.le_refl _, hm, hn, by rw [← hn]; exact List.take_of_length_le (by simp)⟩⟩
/-- The reference's elements, in a row of their own. -/
def REls (B : Nat) (w : World) (v : Value) (l : List El) : Prop := w.ownsRow B 38 3 v l.length (elsC l)
theorem REls.below {B : Nat} {w w' : World} {v : Value} {l : List El} (h : REls B w v l) (hb : Below w.heap.size w w') : REls B w' v l := Cp.ownsRow_below h hb
theorem REls.snoc {B : Nat} {w : World} {v : Value} {l : List El} {x : El} (h : w.ownsRow B 38 3 v (l.length + 1) (elsC l ++ elC x)) : REls B w v (l ++ [x]) := by
  unfold REls
  rw [elsC_snoc, List.length_append]
  exact h
theorem REls.one (w : World) (x : El) (B : Nat) (hB : B ≤ w.heap.size) : REls B (w.alloc (.cells #[.int .i64 (x.1 : Nat), .int .i64 (x.2.1 : Nat), .int .i64 (x.2.2 : Nat)] 38)) (.slice (some ⟨w.heap.size, 0, none⟩) 1 1) [x] :=
  ownsRow_new w 38 3 1 _ B hB rfl (by unfold maxLen; omega)
theorem REls.two (w : World) (x y : El) (B : Nat) (hB : B ≤ w.heap.size) : REls B (w.alloc (.cells #[.int .i64 (x.1 : Nat), .int .i64 (x.2.1 : Nat), .int .i64 (x.2.2 : Nat), .int .i64 (y.1 : Nat), .int .i64 (y.2.1 : Nat), .int .i64 (y.2.2 : Nat)] 38)) (.slice (some ⟨w.heap.size, 0, none⟩) 2 2) [x, y] :=
  ownsRow_new w 38 3 2 _ B hB rfl (by unfold maxLen; omega)
theorem ElsIn.ofR {w : World} {B : Nat} {v : Value} {l : List El} (h : REls B w v l) : ElsIn w v l := by
  have h0 : w.ownsRow B 38 3 v l.length (elsC l) := h
  rcases h0.2 with ⟨hv, hn⟩ | ⟨g, cap, cur, hv, _⟩
  · exact .inl ⟨List.eq_nil_of_length_eq_zero hn, hv⟩
  · subst hv
    refine .inr ⟨g, cap, rfl, (h0.lt g rfl).2, fun k hk => ⟨?_, ?_, ?_⟩⟩
    · have := h0.cellAt (k * 3) (by omega)
      rw [this, show k * 3 = k * 3 + 0 from rfl, elsC_at l k 0 hk (by omega)]; rfl
    · have := h0.cellAt (k * 3 + 1) (by omega)
      rw [this, elsC_at l k 1 hk (by omega)]; rfl
    · have := h0.cellAt (k * 3 + 2) (by omega)
      rw [this, elsC_at l k 2 hk (by omega)]; rfl
set_option maxRecDepth 1000000 in
theorem relInfo : (Try.prog.info? 38).map (fun i => (i.zero, i.size, i.bytes)) = some (some (.agg #[.int .i64 0, .int .i64 0, .int .i64 0]), 3, 24) := by kernel_rfl
/-- What a function of the reference hands back that makes elements. -/
def RElR (l : List El) (w : World) (e : Ending) (w' : World) : Prop := ∃ v, e = .returned v ∧ REls w.heap.size w' v l ∧ Below w.heap.size w w'
set_option maxRecDepth 100000 in
set_option maxHeartbeats 8000000 in
theorem rnumber_any {P : List Nat} {vd : Value} (w : World) (h : IntsO w vd P) (hP : ∀ c ∈ P, dig c = true) (hl : P.length ≤ 100000) (hne : 0 < P.length) :
    Calls Try.prog 37 #[vd] w (RElR (numE P) w) := by
  obtain ⟨i0, hi, hz0, hz1, hz2⟩ := info_parts relInfo
  obtain ⟨g, o, cap, rfl, hg, hlc, hcap, hc⟩ := h
  unfold maxLen at hcap
  go_enter Try.func37, Try.ntmps37
  go_wp2_with fail
  go_loopw [0] (fun dv wr => ∃ (D : List Nat) (q cq : Nat), dv = .slice (some ⟨g, q, none⟩) D.length cq ∧ D.length ≤ cq ∧ cq ≤ cap ∧ 0 < D.length ∧ D.length ≤ P.length ∧ (∀ c ∈ D, dig c = true) ∧ (∀ j (h : j < D.length), w.cell? ⟨g, q + j, none⟩ = some (.int .i64 ((D[j] : Nat) : Int))) ∧ Hid (strip P = strip D) ∧ w = wr) (fun dv _ => match dv with | .slice _ n _ => n | _ => 0)
  case atStart => exact ⟨P, o, cap, rfl, hlc, Nat.le_refl _, hne, Nat.le_refl _, hP, hc, Go.Lib.hid rfl, rfl⟩
  case round =>
    obtain ⟨D, q, cq, rfl, hDc, hcq, hD0, hDP, hDd, hDc2, HS, rfl⟩ := hrel
    have c0 : w.cell? ⟨g, q, none⟩ = some (.int .i64 ((D[0] : Nat) : Int)) := hDc2 0 hD0
    by_cases h1 : 1 < D.length
    · have i1 : (1 : Int) < (D.length : Int) := by omega
      have i2 : (cq : Int) ≤ 9223372036854775807 := by omega
      have i3 : (1 : Int) ≤ (D.length : Int) := by omega
      have i4 : (D.length : Int) ≤ (cq : Int) := by omega
      by_cases h2 : D[0] = 48
      · have i5 : ((D[0] : Nat) : Int) = 48 := by omega
        have HS2 := Go.Lib.hid (HS.out.trans (strip_step h1 h2))
        go_wp2
        refine ⟨⟨D.drop 1, q + 1, cq - 1, by rw [List.length_drop], by rw [List.length_drop]; omega, by omega, by rw [List.length_drop]; omega, by rw [List.length_drop]; omega, fun c hc => hDd c (List.mem_of_mem_drop hc), IntsO.drop hDc2, HS2, trivial⟩, ?_⟩
        show D.length - 1 < D.length
        omega
      · have HS2 := Go.Lib.hid (HS.out.trans (strip_stop h1 h2))
        have i5 : ¬ ((D[0] : Nat) : Int) = 48 := by omega
        obtain ⟨x0, hx0⟩ : ∃ x : El, x = (768 + D.length, 32, 2) := ⟨_, rfl⟩
        have hx1 := Go.Lib.hid (show (x0.1 : Int) = 768 + (D.length : Int) ∧ x0.2 = (32, 2) by rw [hx0]; exact ⟨by simp, rfl⟩)
        have HX := Go.Lib.hid hx0
        clear hx0
        go_wp2_with (go_at_call 53; (with_reducible refine (rbase_el _ x0 hx1.out _).mono ?_); rintro e w2 ⟨rfl, k2⟩; unfold elV)
        have HV1 := Go.Lib.hid (REls.one w2 x0 w.heap.size k2.size)
        have hb1 : Below w.heap.size w (w2.alloc (.cells #[.int .i64 (x0.1 : Nat), .int .i64 (x0.2.1 : Nat), .int .i64 (x0.2.2 : Nat)] 38)) := k2.alloc k2.size _
        generalize (w2.alloc (.cells #[.int .i64 (x0.1 : Nat), .int .i64 (x0.2.1 : Nat), .int .i64 (x0.2.2 : Nat)] 38)) = W3 at *
        go_loopw [3, 4] (fun ev iv wr => ∃ k : Nat, k ≤ D.length ∧ iv = .int .i64 (k : Nat) ∧ REls w.heap.size wr ev ([x0] ++ (D.take k).map digE) ∧ Below w.heap.size w wr) (fun _ iv _ => D.length - (RowKit.intOf iv).toNat)
        case atStart => exact ⟨0, Nat.zero_le _, rfl, by rw [List.take_zero, List.map_nil, List.append_nil]; exact HV1.out, hb1⟩
        case round =>
          clear hb1 HV1 k2
          obtain ⟨k, hk, rfl, hvk, hbk⟩ := hrel
          by_cases hlt : k < D.length
          · have d0 := (hbk.cell (p := ⟨g, q + k, none⟩) hg).trans (hDc2 k hlt)
            have j1 : (k : Int) < (D.length : Int) := by omega
            have j0 : (0 : Int) ≤ (k : Int) := by omega
            have hdk := hDd D[k] (List.getElem_mem hlt)
            have hdk1 : 48 ≤ D[k] ∧ D[k] ≤ 57 := by simpa [dig] using hdk
            have m1 : (512 : Int) + (D[k] : Nat) ≤ 9223372036854775807 := by omega
            obtain ⟨x, hx⟩ : ∃ x : El, x = digE D[k] := ⟨_, rfl⟩
            have hxx := Go.Lib.hid (show (x.1 : Int) = 512 + (D[k] : Nat) - 48 ∧ x.2 = (32, 2) by rw [hx]; exact ⟨by simp only [digE]; omega, rfl⟩)
            have HX2 := Go.Lib.hid hx
            have HT := Go.Lib.hid (show D.take (k + 1) = D.take k ++ [D[k]] from List.take_succ_eq_append_getElem hlt)
            have hsk := hbk.size
            have hlk : ([x0] ++ (D.take k).map digE).length = 1 + k := by simp; omega
            clear hx
            go_wp2_with (first
              | (go_at_call 53; (with_reducible refine (rbase_el _ x hxx.out _).mono ?_); rintro e w2 ⟨rfl, k2⟩; have hv2 := hvk.below k2; have s2 := k2.size; unfold elV)
              | (at_builtin; go_loud (refine wpList_append_own _ rfl _ _ 32 rfl w.heap.size 38 i0 _ 3 24 Try.underlying32 hi hz0 hz1 hz2 rfl (by decide) _ _ _ rfl (World.ownsRow.alloc hv2 _) ⟨w2.heap.size, 0, none⟩ 1 1 (elC x) rfl rfl (el_new _ x _) (el_one x) (by unfold maxLen; omega) (by omega) (by simp; omega) ?_; intro v3 w3 hown3 hgrow3 _)))
            go_roundw
            case rel =>
              refine ⟨k + 1, by omega, by go_num, ?_, ((hbk.trans (k2.mono hsk)).alloc (by omega) _).grown hgrow3 (by simp; omega) (fun j e => (World.ownsRow.lt (show World.ownsRow _ _ _ _ _ _ _ from hv2) j e).1)⟩
              rw [HT.out, List.map_append, List.map_cons, List.map_nil, ← HX2.out, ← List.append_assoc]
              exact REls.snoc hown3
            case measure => simp [RowKit.intOf]; omega
          · obtain rfl : k = D.length := by omega
            have j1 : ¬ (D.length : Int) < (D.length : Int) := by omega
            have HO := Go.Lib.hid (show [x0] ++ D.map digE = numE P by rw [numE_eq HS2.out, HX.out]; rfl)
            rw [List.take_length, HO.out] at hvk
            go_wp2
            go_ret
            exact ⟨_, rfl, hvk, hbk⟩
    · have HS2 := Go.Lib.hid (HS.out.trans (strip_one h1))
      have i1 : ¬ (1 : Int) < (D.length : Int) := by omega
      obtain ⟨x0, hx0⟩ : ∃ x : El, x = (768 + D.length, 32, 2) := ⟨_, rfl⟩
      have hx1 := Go.Lib.hid (show (x0.1 : Int) = 768 + (D.length : Int) ∧ x0.2 = (32, 2) by rw [hx0]; exact ⟨by simp, rfl⟩)
      have HX := Go.Lib.hid hx0
      clear hx0
      go_wp2_with (go_at_call 53; (with_reducible refine (rbase_el _ x0 hx1.out _).mono ?_); rintro e w2 ⟨rfl, k2⟩; unfold elV)
      have HV1 := Go.Lib.hid (REls.one w2 x0 w.heap.size k2.size)
      have hb1 : Below w.heap.size w (w2.alloc (.cells #[.int .i64 (x0.1 : Nat), .int .i64 (x0.2.1 : Nat), .int .i64 (x0.2.2 : Nat)] 38)) := k2.alloc k2.size _
      generalize (w2.alloc (.cells #[.int .i64 (x0.1 : Nat), .int .i64 (x0.2.1 : Nat), .int .i64 (x0.2.2 : Nat)] 38)) = W3 at *
      go_loopw [3, 4] (fun ev iv wr => ∃ k : Nat, k ≤ D.length ∧ iv = .int .i64 (k : Nat) ∧ REls w.heap.size wr ev ([x0] ++ (D.take k).map digE) ∧ Below w.heap.size w wr) (fun _ iv _ => D.length - (RowKit.intOf iv).toNat)
      case atStart => exact ⟨0, Nat.zero_le _, rfl, by rw [List.take_zero, List.map_nil, List.append_nil]; exact HV1.out, hb1⟩
      case round =>
        clear hb1 HV1 k2
        obtain ⟨k, hk, rfl, hvk, hbk⟩ := hrel
        by_cases hlt : k < D.length
        · have d0 := (hbk.cell (p := ⟨g, q + k, none⟩) hg).trans (hDc2 k hlt)
          have j1 : (k : Int) < (D.length : Int) := by omega
          have j0 : (0 : Int) ≤ (k : Int) := by omega
          have hdk := hDd D[k] (List.getElem_mem hlt)
          have hdk1 : 48 ≤ D[k] ∧ D[k] ≤ 57 := by simpa [dig] using hdk
          have m1 : (512 : Int) + (D[k] : Nat) ≤ 9223372036854775807 := by omega
          obtain ⟨x, hx⟩ : ∃ x : El, x = digE D[k] := ⟨_, rfl⟩
          have hxx := Go.Lib.hid (show (x.1 : Int) = 512 + (D[k] : Nat) - 48 ∧ x.2 = (32, 2) by rw [hx]; exact ⟨by simp only [digE]; omega, rfl⟩)
          have HX2 := Go.Lib.hid hx
          have HT := Go.Lib.hid (show D.take (k + 1) = D.take k ++ [D[k]] from List.take_succ_eq_append_getElem hlt)
          have hsk := hbk.size
          have hlk : ([x0] ++ (D.take k).map digE).length = 1 + k := by simp; omega
          clear hx
          go_wp2_with (first
            | (go_at_call 53; (with_reducible refine (rbase_el _ x hxx.out _).mono ?_); rintro e w2 ⟨rfl, k2⟩; have hv2 := hvk.below k2; have s2 := k2.size; unfold elV)
            | (at_builtin; go_loud (refine wpList_append_own _ rfl _ _ 32 rfl w.heap.size 38 i0 _ 3 24 Try.underlying32 hi hz0 hz1 hz2 rfl (by decide) _ _ _ rfl (World.ownsRow.alloc hv2 _) ⟨w2.heap.size, 0, none⟩ 1 1 (elC x) rfl rfl (el_new _ x _) (el_one x) (by unfold maxLen; omega) (by omega) (by simp; omega) ?_; intro v3 w3 hown3 hgrow3 _)))
          go_roundw
          case rel =>
            refine ⟨k + 1, by omega, by go_num, ?_, ((hbk.trans (k2.mono hsk)).alloc (by omega) _).grown hgrow3 (by simp; omega) (fun j e => (World.ownsRow.lt (show World.ownsRow _ _ _ _ _ _ _ from hv2) j e).1)⟩
            rw [HT.out, List.map_append, List.map_cons, List.map_nil, ← HX2.out, ← List.append_assoc]
            exact REls.snoc hown3
          case measure => simp [RowKit.intOf]; omega
        · obtain rfl : k = D.length := by omega
          have j1 : ¬ (D.length : Int) < (D.length : Int) := by omega
          have HO := Go.Lib.hid (show [x0] ++ D.map digE = numE P by rw [numE_eq HS2.out, HX.out]; rfl)
          rw [List.take_length, HO.out] at hvk
          go_wp2
          go_ret
          exact ⟨_, rfl, hvk, hbk⟩
end Go.Proofs.Ytknbglcmjggkjaa

/- Layer 6: countDigits (50), appendNumber (51). -/
import Derived.Test.YtknbglcmjggkjaaT4
import Derived.Test.YtknbglcmjggkjaaML
namespace Go.Proofs.Ytknbglcmjggkjaa
open Go.RowKit Go.Lib Co

/-- A slice of numbers, wherever it begins; it is not empty. -/
def IntsO (w : World) (v : Value) (P : List Nat) : Prop :=
  ∃ g o cap, v = .slice (some ⟨g, o, none⟩) P.length cap ∧ g < w.heap.size ∧ P.length ≤ cap ∧ cap ≤ maxLen ∧ ∀ j (h : j < P.length), w.cell? ⟨g, o + j, none⟩ = some (.int .i64 ((P[j] : Nat) : Int))
theorem IntsO.below {w w' : World} {v : Value} {P : List Nat} (h : IntsO w v P) (hb : Below w.heap.size w w') : IntsO w' v P := by
  obtain ⟨g, o, cap, hv, hg, h1, h2, hc⟩ := h
  exact ⟨g, o, cap, hv, Nat.lt_of_lt_of_le hg hb.size, h1, h2, fun j hj => (hb.cell (p := ⟨g, o + j, none⟩) hg).trans (hc j hj)⟩
theorem digs_step {P : List Nat} {k : Nat} (hk : k < P.length) (h : digs P = k + digs (P.drop k)) (hd : dig P[k] = true) : digs P = k + 1 + digs (P.drop (k + 1)) := by
  rw [h, List.drop_eq_getElem_cons hk]
  simp only [digs, hd, if_true]
  omega
theorem digs_stop {P : List Nat} {k : Nat} (hk : k < P.length) (h : digs P = k + digs (P.drop k)) (hd : dig P[k] = false) : digs P = k := by
  rw [h, List.drop_eq_getElem_cons hk]
  simp [digs, hd]
theorem digs_all {P : List Nat} {k : Nat} (hk : ¬ k < P.length) (h : digs P = k + digs (P.drop k)) : digs P = k := by
  rw [h, List.drop_eq_nil_of_le (by omega)]
  rfl
set_option maxRecDepth 100000 in
set_option maxHeartbeats 4000000 in
theorem count_any {P : List Nat} {v : Value} (w : World) (h : IntsO w v P) (hP : ∀ c ∈ P, c ≤ 2000000) : Calls Try.prog 50 #[v] w fun e w' => e = .returned (.int .i64 (digs P : Nat)) ∧ w' = w := by
  obtain ⟨g, o, cap, rfl, hg, hl, hcap, hc⟩ := h
  have hcm : (cap : Int) ≤ 9223372036854775807 := by unfold maxLen at hcap; omega
  have hlen : (P.length : Int) ≤ 9223372036854775807 := by omega
  go_enter Try.func50, Try.ntmps50
  go_wp2_with fail
  go_loopw [3] (fun cv wr => ∃ k : Nat, k ≤ P.length ∧ cv = .int .i64 (k : Nat) ∧ Hid (digs P = k + digs (P.drop k)) ∧ wr = w) (fun cv _ => P.length - (RowKit.intOf cv).toNat)
  case atStart => exact ⟨0, Nat.zero_le _, rfl, Go.Lib.hid (by rw [List.drop_zero]; omega), rfl⟩
  case round =>
    obtain ⟨k, hk, rfl, HD, rfl⟩ := hrel
    by_cases hlt : k < P.length
    · have c0 := hc k hlt
      have hp := hP P[k] (List.getElem_mem hlt)
      have i1 : (k : Int) < (P.length : Int) := by omega
      have i0 : (0 : Int) ≤ (k : Int) := by omega
      by_cases hd : dig P[k] = true
      · have HD2 := Go.Lib.hid (digs_step hlt HD.out hd)
        go_wp2_with (go_at_call 73; (with_reducible refine (digit_any P[k] _ hp).mono ?_); rintro e w4 ⟨rfl, rfl⟩)
        go_roundw
        case rel => exact ⟨k + 1, by omega, by go_num, HD2, trivial⟩
        case measure => simp [RowKit.intOf]; omega
      · have hd : dig P[k] = false := by simpa using hd
        have HD2 := Go.Lib.hid (digs_stop hlt HD.out hd)
        go_wp2_with (go_at_call 73; (with_reducible refine (digit_any P[k] _ hp).mono ?_); rintro e w4 ⟨rfl, rfl⟩)
        go_ret
        exact ⟨by rw [HD2.out]; first | done | rfl, rfl⟩
    · have i1 : ¬ (k : Int) < (P.length : Int) := by omega
      have HD2 := Go.Lib.hid (digs_all hlt HD.out)
      go_wp2
      go_ret
      exact ⟨by rw [HD2.out]; first | done | rfl, rfl⟩

def elC (e : El) : List Value := [.int .i64 (e.1 : Nat), .int .i64 (e.2.1 : Nat), .int .i64 (e.2.2 : Nat)]
def elsC (l : List El) : List Value := l.flatMap elC
theorem elsC_snoc (l : List El) (e : El) : elsC (l ++ [e]) = elsC l ++ elC e := by simp [elsC]
theorem elsC_len (l : List El) : (elsC l).length = l.length * 3 := by
  unfold elsC
  induction l with
  | nil => rfl
  | cons e l ih => rw [List.flatMap_cons, List.length_append, ih, List.length_cons]; show 3 + _ = _; omega
set_option maxRecDepth 1000000 in
theorem elInfo : (Try.prog.info? 37).map (fun i => (i.zero, i.size, i.bytes)) = some (some (.agg #[.int .i64 0, .int .i64 0, .int .i64 0]), 3, 24) := by kernel_rfl
/-- Elements that a call builds up: all its blocks begin at B. -/
def Els (B : Nat) (w : World) (v : Value) (l : List El) : Prop := w.ownsRow B 37 3 v l.length (elsC l)
theorem Els.below {B : Nat} {w w' : World} {v : Value} {l : List El} (h : Els B w v l) (hb : Below w.heap.size w w') : Els B w' v l := Cp.ownsRow_below h hb
theorem el_new (w : World) (e : El) (t : TypeId) : ∀ j u, (elC e)[j]? = some u → (w.alloc (.cells #[.int .i64 (e.1 : Nat), .int .i64 (e.2.1 : Nat), .int .i64 (e.2.2 : Nat)] t)).cell? ((⟨w.heap.size, 0, none⟩ : Addr).add j) = some u := by
  intro j u hj
  rw [show ((⟨w.heap.size, 0, none⟩ : Addr).add j) = ⟨w.heap.size, j, none⟩ by simp [Addr.add, eq_comm], World.cell?_alloc_new]
  simpa [elC] using hj
theorem el_one (e : El) : ∀ u ∈ elC e, u.oneCell' = true := by
  intro u hu
  simp only [elC, List.mem_cons, List.not_mem_nil, or_false] at hu
  rcases hu with rfl | rfl | rfl <;> rfl
theorem strip_step {D : List Nat} (h1 : 1 < D.length) (h2 : D[0]'(by omega) = 48) : strip D = strip (D.drop 1) := by
  match D, h1 with
  | c :: d :: r, _ =>
    have : c = 48 := h2
    simp [strip, this]
theorem strip_stop {D : List Nat} (h1 : 1 < D.length) (h2 : ¬ D[0]'(by omega) = 48) : strip D = D := by
  match D, h1 with
  | c :: d :: r, _ =>
    have : ¬ c = 48 := h2
    simp [strip, this]
theorem strip_one {D : List Nat} (h1 : ¬ 1 < D.length) : strip D = D := by
  match D with
  | [] => rfl
  | [c] => rfl
  | c :: d :: r => simp at h1
theorem IntsO.drop {w : World} {g o n : Nat} {P : List Nat} (h : ∀ j (h : j < P.length), w.cell? ⟨g, o + j, none⟩ = some (.int .i64 ((P[j] : Nat) : Int))) : ∀ j (h : j < (P.drop n).length), w.cell? ⟨g, (o + n) + j, none⟩ = some (.int .i64 (((P.drop n)[j] : Nat) : Int)) := by
  intro j hj
  rw [List.getElem_drop, show o + n + j = o + (n + j) by omega]
  exact h (n + j) (by rw [List.length_drop] at hj; omega)
def digE (c : Nat) : El := (512 + (c - 48), 32, 2)
theorem base_el (y : Int) (x : El) (hx : (x.1 : Int) = y ∧ x.2 = (32, 2)) (w : World) : Calls Try.prog 74 #[.int .i64 y] w (ElR x w) := by
  obtain ⟨p, q⟩ := x
  obtain ⟨h1, h2⟩ := hx
  simp only at h1 h2
  subst h1 h2
  exact base_any p w
theorem Els.snoc {B : Nat} {w : World} {v : Value} {l : List El} {x : El} (h : w.ownsRow B 37 3 v (l.length + 1) (elsC l ++ elC x)) : Els B w v (l ++ [x]) := by
  unfold Els
  rw [elsC_snoc, List.length_append]
  exact h
theorem numE_eq {P D : List Nat} (h : strip P = D) : numE P = (768 + D.length, 32, 2) :: D.map digE := by
  unfold numE
  rw [h]
  rfl
set_option maxRecDepth 100000 in
set_option maxHeartbeats 4000000 in
theorem number_any {P : List Nat} {vd v : Value} {l : List El} {W0 : World} (w : World) (h : IntsO W0 vd P) (hb : Below W0.heap.size W0 w) (hP : ∀ c ∈ P, dig c = true) (hv : Els W0.heap.size w v l) (hl : l.length + P.length ≤ 100000) (hne : 0 < P.length) :
    Calls Try.prog 51 #[v, vd] w fun e w' => ∃ v', e = .returned v' ∧ Els W0.heap.size w' v' (l ++ numE P) ∧ Below W0.heap.size W0 w' := by
  obtain ⟨i0, hi, hz0, hz1, hz2⟩ := info_parts elInfo
  obtain ⟨g, o, cap, rfl, hg, hlc, hcap, hc⟩ := h
  unfold maxLen at hcap
  go_enter Try.func51, Try.ntmps51
  go_wp2_with fail
  go_loopw [1] (fun dv wr => ∃ (D : List Nat) (q cq : Nat), dv = .slice (some ⟨g, q, none⟩) D.length cq ∧ D.length ≤ cq ∧ cq ≤ cap ∧ 0 < D.length ∧ D.length ≤ P.length ∧ (∀ c ∈ D, dig c = true) ∧ (∀ j (h : j < D.length), W0.cell? ⟨g, q + j, none⟩ = some (.int .i64 ((D[j] : Nat) : Int))) ∧ Hid (strip P = strip D) ∧ wr = w) (fun dv _ => match dv with | .slice _ n _ => n | _ => 0)
  case atStart => exact ⟨P, o, cap, rfl, hlc, Nat.le_refl _, hne, Nat.le_refl _, hP, hc, Go.Lib.hid rfl, rfl⟩
  case round =>
    obtain ⟨D, q, cq, rfl, hDc, hcq, hD0, hDP, hDd, hDc2, HS, rfl⟩ := hrel
    have c0 := (hb.cell (p := ⟨g, q, none⟩) hg).trans (hDc2 0 hD0)
    by_cases h1 : 1 < D.length
    · have i1 : (1 : Int) < (D.length : Int) := by omega
      have i2 : (cq : Int) ≤ 9223372036854775807 := by omega
      have i3 : (1 : Int) ≤ (D.length : Int) := by omega
      have i4 : (D.length : Int) ≤ (cq : Int) := by omega
      by_cases h2 : D[0] = 48
      · have i5 : ((D[0] : Nat) : Int) = 48 := by omega
        have HS2 := Go.Lib.hid (HS.out.trans (strip_step h1 h2))
        go_wp2
        refine ⟨⟨D.drop 1, q + 1, cq - 1, by rw [List.length_drop], by rw [List.length_drop]; omega, by omega, by rw [List.length_drop]; omega, by rw [List.length_drop]; omega, fun c hc => hDd c (List.mem_of_mem_drop hc), IntsO.drop hDc2, HS2, trivial⟩, ?_⟩
        show D.length - 1 < D.length
        omega
      · have HS2 := Go.Lib.hid (HS.out.trans (strip_stop h1 h2))
        have i5 : ¬ ((D[0] : Nat) : Int) = 48 := by omega
        obtain ⟨x0, hx0⟩ : ∃ x : El, x = (768 + D.length, 32, 2) := ⟨_, rfl⟩
        have hx1 := Go.Lib.hid (show (x0.1 : Int) = 768 + (D.length : Int) ∧ x0.2 = (32, 2) by rw [hx0]; exact ⟨by simp, rfl⟩)
        have HX := Go.Lib.hid hx0
        clear hx0
        have hs0 := hb.size
        go_wp2_with (first
          | (go_at_call 74; (with_reducible refine (base_el _ x0 hx1.out _).mono ?_); rintro e w2 ⟨rfl, k2⟩; have hv2 := hv.below k2; have s2 := k2.size; unfold elV)
          | (at_builtin; go_loud (refine wpList_append_own _ rfl _ _ 25 rfl W0.heap.size 37 i0 _ 3 24 Try.underlying25 hi hz0 hz1 hz2 rfl (by decide) _ _ _ rfl (World.ownsRow.alloc hv2 _) ⟨w2.heap.size, 0, none⟩ 1 1 (elC x0) rfl rfl (el_new _ x0 _) (el_one x0) (by unfold maxLen; omega) (by omega) (by simp; omega) ?_; intro v1 w1 hown1 hgrow1 _)))
        have HV1 := Go.Lib.hid (Els.snoc hown1)
        have hb1 : Below W0.heap.size W0 w1 := ((hb.trans (k2.mono hs0)).alloc (by omega) _).grown hgrow1 (by simp; omega) (fun j e => (World.ownsRow.lt (show World.ownsRow _ _ _ _ _ _ _ from hv2) j e).1)
        clear hown1 hgrow1 hv2 k2 s2
        go_loopw [0, 27] (fun ev iv wr => ∃ k : Nat, k ≤ D.length ∧ iv = .int .i64 (k : Nat) ∧ Els W0.heap.size wr ev ((l ++ [x0]) ++ (D.take k).map digE) ∧ Below W0.heap.size W0 wr) (fun _ iv _ => D.length - (RowKit.intOf iv).toNat)
        case atStart => exact ⟨0, Nat.zero_le _, rfl, by rw [List.take_zero, List.map_nil, List.append_nil]; exact HV1.out, hb1⟩
        case round =>
          obtain ⟨k, hk, rfl, hvk, hbk⟩ := hrel
          by_cases hlt : k < D.length
          · have d0 := (hbk.cell (p := ⟨g, q + k, none⟩) hg).trans (hDc2 k hlt)
            have j1 : (k : Int) < (D.length : Int) := by omega
            have j0 : (0 : Int) ≤ (k : Int) := by omega
            have hdk := hDd D[k] (List.getElem_mem hlt)
            have hdk1 : 48 ≤ D[k] ∧ D[k] ≤ 57 := by simpa [dig] using hdk
            have m1 : (512 : Int) + (D[k] : Nat) ≤ 9223372036854775807 := by omega
            obtain ⟨x, hx⟩ : ∃ x : El, x = digE D[k] := ⟨_, rfl⟩
            have hxx := Go.Lib.hid (show (x.1 : Int) = 512 + (D[k] : Nat) - 48 ∧ x.2 = (32, 2) by rw [hx]; exact ⟨by simp only [digE]; omega, rfl⟩)
            have HX2 := Go.Lib.hid hx
            have HT := Go.Lib.hid (show D.take (k + 1) = D.take k ++ [D[k]] from List.take_succ_eq_append_getElem hlt)
            have hsk := hbk.size
            have hlk : ((l ++ [x0]) ++ (D.take k).map digE).length = l.length + 1 + k := by simp; omega
            clear hx
            go_wp2_with (first
              | (go_at_call 74; (with_reducible refine (base_el _ x hxx.out _).mono ?_); rintro e w2 ⟨rfl, k2⟩; have hv2 := hvk.below k2; have s2 := k2.size; unfold elV)
              | (at_builtin; go_loud (refine wpList_append_own _ rfl _ _ 25 rfl W0.heap.size 37 i0 _ 3 24 Try.underlying25 hi hz0 hz1 hz2 rfl (by decide) _ _ _ rfl (World.ownsRow.alloc hv2 _) ⟨w2.heap.size, 0, none⟩ 1 1 (elC x) rfl rfl (el_new _ x _) (el_one x) (by unfold maxLen; omega) (by omega) (by simp; omega) ?_; intro v3 w3 hown3 hgrow3 _)))
            go_roundw
            case rel =>
              refine ⟨k + 1, by omega, by go_num, ?_, ((hbk.trans (k2.mono hsk)).alloc (by omega) _).grown hgrow3 (by simp; omega) (fun j e => (World.ownsRow.lt (show World.ownsRow _ _ _ _ _ _ _ from hv2) j e).1)⟩
              rw [HT.out, List.map_append, List.map_cons, List.map_nil, ← HX2.out, ← List.append_assoc]
              exact Els.snoc hown3
            case measure => simp [RowKit.intOf]; omega
          · obtain rfl : k = D.length := by omega
            have j1 : ¬ (D.length : Int) < (D.length : Int) := by omega
            have HO := Go.Lib.hid (show l ++ [x0] ++ D.map digE = l ++ numE P by rw [numE_eq HS2.out, HX.out, List.append_assoc]; rfl)
            rw [List.take_length, HO.out] at hvk
            go_wp2
            go_ret
            exact ⟨_, rfl, hvk, hbk⟩
    · have HS2 := Go.Lib.hid (HS.out.trans (strip_one h1))
      have i1 : ¬ (1 : Int) < (D.length : Int) := by omega
      obtain ⟨x0, hx0⟩ : ∃ x : El, x = (768 + D.length, 32, 2) := ⟨_, rfl⟩
      have hx1 := Go.Lib.hid (show (x0.1 : Int) = 768 + (D.length : Int) ∧ x0.2 = (32, 2) by rw [hx0]; exact ⟨by simp, rfl⟩)
      have HX := Go.Lib.hid hx0
      clear hx0
      have hs0 := hb.size
      go_wp2_with (first
        | (go_at_call 74; (with_reducible refine (base_el _ x0 hx1.out _).mono ?_); rintro e w2 ⟨rfl, k2⟩; have hv2 := hv.below k2; have s2 := k2.size; unfold elV)
        | (at_builtin; go_loud (refine wpList_append_own _ rfl _ _ 25 rfl W0.heap.size 37 i0 _ 3 24 Try.underlying25 hi hz0 hz1 hz2 rfl (by decide) _ _ _ rfl (World.ownsRow.alloc hv2 _) ⟨w2.heap.size, 0, none⟩ 1 1 (elC x0) rfl rfl (el_new _ x0 _) (el_one x0) (by unfold maxLen; omega) (by omega) (by simp; omega) ?_; intro v1 w1 hown1 hgrow1 _)))
      have HV1 := Go.Lib.hid (Els.snoc hown1)
      have hb1 : Below W0.heap.size W0 w1 := ((hb.trans (k2.mono hs0)).alloc (by omega) _).grown hgrow1 (by simp; omega) (fun j e => (World.ownsRow.lt (show World.ownsRow _ _ _ _ _ _ _ from hv2) j e).1)
      clear hown1 hgrow1 hv2 k2 s2
      go_loopw [0, 27] (fun ev iv wr => ∃ k : Nat, k ≤ D.length ∧ iv = .int .i64 (k : Nat) ∧ Els W0.heap.size wr ev ((l ++ [x0]) ++ (D.take k).map digE) ∧ Below W0.heap.size W0 wr) (fun _ iv _ => D.length - (RowKit.intOf iv).toNat)
      case atStart => exact ⟨0, Nat.zero_le _, rfl, by rw [List.take_zero, List.map_nil, List.append_nil]; exact HV1.out, hb1⟩
      case round =>
        obtain ⟨k, hk, rfl, hvk, hbk⟩ := hrel
        by_cases hlt : k < D.length
        · have d0 := (hbk.cell (p := ⟨g, q + k, none⟩) hg).trans (hDc2 k hlt)
          have j1 : (k : Int) < (D.length : Int) := by omega
          have j0 : (0 : Int) ≤ (k : Int) := by omega
          have hdk := hDd D[k] (List.getElem_mem hlt)
          have hdk1 : 48 ≤ D[k] ∧ D[k] ≤ 57 := by simpa [dig] using hdk
          have m1 : (512 : Int) + (D[k] : Nat) ≤ 9223372036854775807 := by omega
          obtain ⟨x, hx⟩ : ∃ x : El, x = digE D[k] := ⟨_, rfl⟩
          have hxx := Go.Lib.hid (show (x.1 : Int) = 512 + (D[k] : Nat) - 48 ∧ x.2 = (32, 2) by rw [hx]; exact ⟨by simp only [digE]; omega, rfl⟩)
          have HX2 := Go.Lib.hid hx
          have HT := Go.Lib.hid (show D.take (k + 1) = D.take k ++ [D[k]] from List.take_succ_eq_append_getElem hlt)
          have hsk := hbk.size
          have hlk : ((l ++ [x0]) ++ (D.take k).map digE).length = l.length + 1 + k := by simp; omega
          clear hx
          go_wp2_with (first
            | (go_at_call 74; (with_reducible refine (base_el _ x hxx.out _).mono ?_); rintro e w2 ⟨rfl, k2⟩; have hv2 := hvk.below k2; have s2 := k2.size; unfold elV)
            | (at_builtin; go_loud (refine wpList_append_own _ rfl _ _ 25 rfl W0.heap.size 37 i0 _ 3 24 Try.underlying25 hi hz0 hz1 hz2 rfl (by decide) _ _ _ rfl (World.ownsRow.alloc hv2 _) ⟨w2.heap.size, 0, none⟩ 1 1 (elC x) rfl rfl (el_new _ x _) (el_one x) (by unfold maxLen; omega) (by omega) (by simp; omega) ?_; intro v3 w3 hown3 hgrow3 _)))
          go_roundw
          case rel =>
            refine ⟨k + 1, by omega, by go_num, ?_, ((hbk.trans (k2.mono hsk)).alloc (by omega) _).grown hgrow3 (by simp; omega) (fun j e => (World.ownsRow.lt (show World.ownsRow _ _ _ _ _ _ _ from hv2) j e).1)⟩
            rw [HT.out, List.map_append, List.map_cons, List.map_nil, ← HX2.out, ← List.append_assoc]
            exact Els.snoc hown3
          case measure => simp [RowKit.intOf]; omega
        · obtain rfl : k = D.length := by omega
          have j1 : ¬ (D.length : Int) < (D.length : Int) := by omega
          have HO := Go.Lib.hid (show l ++ [x0] ++ D.map digE = l ++ numE P by rw [numE_eq HS2.out, HX.out, List.append_assoc]; rfl)
          rw [List.take_length, HO.out] at hvk
          go_wp2
          go_ret
          exact ⟨_, rfl, hvk, hbk⟩
end Go.Proofs.Ytknbglcmjggkjaa

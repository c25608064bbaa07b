/- Layer 6: the law of orders (6). -/
import Derived.Test.YtknbglcmjggkjaaK2
import Derived.Test.YtknbglcmjggkjaaLS
import Derived.Deep.QuietTactic
namespace Go.Proofs.Ytknbglcmjggkjaa
open Go.RowKit Go.Shelf Go.Lib Co

theorem ObjAt.o0 {W : World} {b : Nat} {t : TypeId} {p q r s : Value} (h : ObjAt W b #[p, q, r, s] t) : W.cell? ⟨b, 0, none⟩ = some p := h.get rfl
theorem ObjAt.o1 {W : World} {b : Nat} {t : TypeId} {p q r s : Value} (h : ObjAt W b #[p, q, r, s] t) : W.cell? ⟨b, 1, none⟩ = some q := h.get rfl
theorem ObjAt.o2 {W : World} {b : Nat} {t : TypeId} {p q r s : Value} (h : ObjAt W b #[p, q, r, s] t) : W.cell? ⟨b, 2, none⟩ = some r := h.get rfl
theorem ObjAt.o3 {W : World} {b : Nat} {t : TypeId} {p q r s : Value} (h : ObjAt W b #[p, q, r, s] t) : W.cell? ⟨b, 3, none⟩ = some s := h.get rfl
/-- A law's answer. -/
def TrueW (w : World) (e : Ending) (w' : World) : Prop := e = .returned (.bool true) ∧ Below w.heap.size w w'
/-- The key of a string. -/
def keyX (st : Int) (nu ig uf : Bool) (x : Sx) : List UInt8 := keyS st nu ig uf x.s x.P
theorem errS_ok {st : Int} {x : Sx} (hx : x.bad = []) (h1 : 1 ≤ st) (h4 : st ≤ 4) (sx : x.s.size ≤ 4096) : errS st x.s x.bad = 0 := by
  unfold errS
  rw [if_neg (by omega), if_neg (by omega), if_neg (by simp [hx])]
theorem compare_ok {x y : Sx} {st : Int} (nu ig uf : Bool) (hx : x.bad = []) (hy : y.bad = []) (h1 : 1 ≤ st) (h4 : st ≤ 4) (sx : x.s.size ≤ 4096) (sy : y.s.size ≤ 4096) (w : World) :
    Calls Try.prog 23 #[.string x.s, .string y.s, opV st nu ig uf] w fun e w' => e = .returned (.tuple #[.int .i64 (compareBytes (keyX st nu ig uf x) (keyX st nu ig uf y)), .int .i64 0]) ∧ Below w.heap.size w w' := by
  refine (compare_any x.str y.str st nu ig uf w).mono ?_
  rintro e w' ⟨rfl, hb⟩
  have : errC st x.s x.bad y.s y.bad = 0 := by
    unfold errC
    rw [errS_ok hx h1 h4 sx, errS_ok hy h1 h4 sy]; simp
  exact ⟨by rw [this, if_pos rfl]; rfl, hb⟩
theorem cut_x (a : ByteArray) (ha : a.size ≤ maxLen) : ∃ x : Sx, x.s.size ≤ 200 ∧ ∀ w, Calls Try.prog 14 #[.string a] w fun e w' => e = .returned (.string x.s) ∧ w' = w := by
  obtain ⟨x, hx⟩ := Sx.ex (cutS a) (by have := cutS_size a; omega)
  exact ⟨x, by rw [hx]; exact cutS_size a, fun w => by rw [hx]; exact cut_any a ha w⟩
theorem below_drewN (B : Nat) (W : World) (n : Nat) : Below B W (W.drewN n) := ⟨rfl, rfl, rfl, Nat.le_refl _, fun _ _ => rfl⟩
theorem toList_data (s : ByteArray) : s.toList = s.data.toList := by
  obtain ⟨⟨l⟩⟩ := s
  simp
theorem str_eq {s t : ByteArray} (h : (s.toList == t.toList) = true) : s = t := by
  have := eq_of_beq h
  rw [toList_data, toList_data] at this
  obtain ⟨⟨l⟩⟩ := s
  obtain ⟨⟨m⟩⟩ := t
  simp at this
  rw [this]
theorem str_ne {s t : ByteArray} (h : (s.toList == t.toList) = false) : s ≠ t := by
  rintro rfl
  simp at h
theorem str_same {s : ByteArray} {P Q : List Nat} (h : Cp.Str s P []) (k : Cp.Str s Q []) : P = Q :=
  U.bytes_inj _ _ h.pts k.pts (by have := h.eq.symm.trans k.eq; simpa using this)
/-- What two strings compare to. -/
def cmpX (st : Int) (nu ig uf : Bool) (x y : Sx) : Int := compareBytes (keyX st nu ig uf x) (keyX st nu ig uf y)
theorem cmpX_eq {st : Int} {nu ig uf : Bool} {x y : Sx} (sx : x.s.size ≤ 4096) (sy : y.s.size ≤ 4096) : cmpX st nu ig uf x y = cmpK st.toNat x.s.data.toList y.s.data.toList (elems nu (upN uf) ig x.P) (elems nu (upN uf) ig y.P) := by
  have ok : ∀ z : Sx, z.s.size ≤ 4096 → ∀ e ∈ elems nu (upN uf) ig z.P, ElOk e := fun z hz => elems_ok (upN_le uf) z.P (by have := pts_len z.str; omega) (pts_le z.str)
  exact cb_key _ _ _ _ _ (ok x sx) (ok y sy)
/-- With the strength 4, what is not less and not greater is equal. -/
theorem cmpX_four {nu ig uf : Bool} {x y : Sx} (sx : x.s.size ≤ 4096) (sy : y.s.size ≤ 4096) (h : cmpX 4 nu ig uf x y = 0) : x.s = y.s := by
  rw [cmpX_eq sx sy] at h
  unfold cmpK at h
  have h' : compareBytes x.s.data.toList y.s.data.toList = 0 := by
    by_cases a1 : ordL (lev (·.1) (elems nu (upN uf) ig x.P)) (lev (·.1) (elems nu (upN uf) ig y.P)) ≠ 0
    · rw [if_pos a1] at h; exact absurd h a1
    · rw [if_neg a1] at h
      by_cases a2 : 2 ≤ (4 : Int).toNat ∧ ordL (lev (·.2.1) (elems nu (upN uf) ig x.P)) (lev (·.2.1) (elems nu (upN uf) ig y.P)) ≠ 0
      · rw [if_pos a2] at h; exact absurd h a2.2
      · rw [if_neg a2] at h
        by_cases a3 : 3 ≤ (4 : Int).toNat ∧ ordL (lev (·.2.2) (elems nu (upN uf) ig x.P)) (lev (·.2.2) (elems nu (upN uf) ig y.P)) ≠ 0
        · rw [if_pos a3] at h; exact absurd h a3.2
        · rw [if_neg a3, if_pos (by decide)] at h; exact h
  have := cb_zero h'
  cases hx : x.s with
  | mk a => cases hy : y.s with
    | mk b => rw [hx, hy] at this; simpa using this
set_option maxRecDepth 100000 in
set_option maxHeartbeats 80000000 in
theorem orders_in {x y z : Sx} {a b c : ByteArray} (sx : x.s.size ≤ 200) (sy : y.s.size ≤ 200) (sz : z.s.size ≤ 200) (ca : ∀ w, Calls Try.prog 14 #[.string a] w fun e w' => e = .returned (.string x.s) ∧ w' = w)
    (cb : ∀ w, Calls Try.prog 14 #[.string b] w fun e w' => e = .returned (.string y.s) ∧ w' = w) (cc : ∀ w, Calls Try.prog 14 #[.string c] w fun e w' => e = .returned (.string z.s) ∧ w' = w)
    (st : Int) (nu ig uf : Bool) (w : World) : Calls Try.prog 6 #[.agg #[.string a, .string b, .string c], opV st nu ig uf] w (TrueW w) := by
  have cF := fun w' => fault_any (st := st) (nu := nu) (ig := ig) (uf := uf) (w'.alloc _) (strs_new w' [x, y, z] 9 3) (by simp)
  simp only [List.map_cons, List.map_nil, List.length_cons, List.length_nil, Nat.reduceAdd] at cF
  have cXY := fun (h : faultN st [x, y, z] = 0) w' => compare_ok (st := st) nu ig uf ((faultN_zero h).2 x (by simp)) ((faultN_zero h).2 y (by simp)) (faultN_zero h).1.1 (faultN_zero h).1.2 (by omega) (by omega) w'
  have cYZ := fun (h : faultN st [x, y, z] = 0) w' => compare_ok (st := st) nu ig uf ((faultN_zero h).2 y (by simp)) ((faultN_zero h).2 z (by simp)) (faultN_zero h).1.1 (faultN_zero h).1.2 (by omega) (by omega) w'
  have cXZ := fun (h : faultN st [x, y, z] = 0) w' => compare_ok (st := st) nu ig uf ((faultN_zero h).2 x (by simp)) ((faultN_zero h).2 z (by simp)) (faultN_zero h).1.1 (faultN_zero h).1.2 (by omega) (by omega) w'
  have cYX := fun (h : faultN st [x, y, z] = 0) w' => compare_ok (st := st) nu ig uf ((faultN_zero h).2 y (by simp)) ((faultN_zero h).2 x (by simp)) (faultN_zero h).1.1 (faultN_zero h).1.2 (by omega) (by omega) w'
  obtain ⟨n1, e1⟩ : ∃ n, compareBytes (keyX st nu ig uf x) (keyX st nu ig uf y) = n := ⟨_, rfl⟩
  obtain ⟨n2, e2⟩ : ∃ n, compareBytes (keyX st nu ig uf y) (keyX st nu ig uf z) = n := ⟨_, rfl⟩
  obtain ⟨n3, e3⟩ : ∃ n, compareBytes (keyX st nu ig uf x) (keyX st nu ig uf z) = n := ⟨_, rfl⟩
  obtain ⟨n4, e4⟩ : ∃ n, compareBytes (keyX st nu ig uf y) (keyX st nu ig uf x) = n := ⟨_, rfl⟩
  rw [e1] at cXY
  rw [e2] at cYZ
  rw [e3] at cXZ
  rw [e4] at cYX
  have V1 : n1 = -1 ∨ n1 = 0 ∨ n1 = 1 := e1 ▸ cb_val _ _
  have V2 : n2 = -1 ∨ n2 = 0 ∨ n2 = 1 := e2 ▸ cb_val _ _
  have V3 : n3 = -1 ∨ n3 = 0 ∨ n3 = 1 := e3 ▸ cb_val _ _
  have V4 : n4 = 0 - n1 := by rw [← e4, ← e1]; exact cb_anti _ _
  have VT := cb_trans (keyX st nu ig uf x) (keyX st nu ig uf y) (keyX st nu ig uf z)
  rw [e1, e2, e3] at VT
  have VE : st = 4 → n1 = 0 → x.s = y.s := fun h h0 => by subst h; exact cmpX_four (by omega) (by omega) (e1.trans h0)
  have VF : x.s = y.s → x.bad = [] → y.bad = [] → n1 = 0 := fun h hx hy => by
    have hP : x.P = y.P := str_same (hx ▸ x.str) (h ▸ hy ▸ y.str)
    rw [← e1]
    unfold keyX
    rw [hP, h]
    exact cb_self _
  have HV := Go.Lib.hid (show (n1 = -1 ∨ n1 = 0 ∨ n1 = 1) ∧ (n2 = -1 ∨ n2 = 0 ∨ n2 = 1) ∧ (n3 = -1 ∨ n3 = 0 ∨ n3 = 1) ∧ n4 = 0 - n1 from ⟨V1, V2, V3, V4⟩)
  have HT := Go.Lib.hid VT
  have HE := Go.Lib.hid VE
  have HF := Go.Lib.hid VF
  clear e1 e2 e3 e4 V1 V2 V3 V4 VT VE VF
  have CXY := Go.Lib.hid cXY
  have CYZ := Go.Lib.hid cYZ
  have CXZ := Go.Lib.hid cXZ
  have CYX := Go.Lib.hid cYX
  have CF := Go.Lib.hid cF
  clear cXY cYZ cXZ cYX cF
  have o1 := (ObjAt.new w #[.string a, .string b, .string c] 49).alloc (.cells #[.int .i64 st, .bool nu, .bool ig, .bool uf] 23)
  have o2 := ObjAt.new (w.alloc (.cells #[.string a, .string b, .string c] 49)) #[.int .i64 st, .bool nu, .bool ig, .bool uf] 23
  rw [World.size_alloc] at o2
  have hB : Below w.heap.size w ((w.alloc (.cells #[.string a, .string b, .string c] 49)).alloc (.cells #[.int .i64 st, .bool nu, .bool ig, .bool uf] 23)) := ((Below.refl _ w).alloc (Nat.le_refl _) _).alloc (by simp) _
  unfold opV at *
  go_enter Try.func6, Try.ntmps6
  go_wp2_with fail
  generalize (w.alloc (.cells #[.string a, .string b, .string c] 49)).alloc (.cells #[.int .i64 st, .bool nu, .bool ig, .bool uf] 23) = W at *
  have a0 := o1.b0
  have a1 := o1.b1
  have a2 := o1.b2
  have hs0 := hB.size
  go_quiet (first
    | (go_at_call 14; refine Calls.quiet_of_same (ca _))
    | (go_at_call 14; refine Calls.quiet_of_same (cb _))
    | (go_at_call 14; refine Calls.quiet_of_same (cc _)))
  have q2 : ObjAt (W.drewN nq) (w.heap.size + 1) #[.int .i64 st, .bool nu, .bool ig, .bool uf] 23 := o2
  have hB2 : Below w.heap.size w (W.drewN nq) := hB.trans (below_drewN _ _ _)
  generalize W.drewN nq = W2 at *
  have hs2 := hB2.size
  clear o1 o2 a0 a1 a2 hB hs0 ca cb cc
  go_wp2_with fail
  refine (known_any _).mono ?_
  rintro e w1 ⟨rfl, k1⟩
  have q3 := q2.below k1
  have hB3 := hB2.trans (k1.mono hs2)
  clear q2 hB2 k1 hs2
  have z0 := q3.o0
  have z1 := q3.o1
  have z2 := q3.o2
  have z3 := q3.o3
  go_wp2_with fail
  refine (CF.out w1).mono ?_
  rintro e w2 ⟨rfl, k2⟩
  have k2' : Below w1.heap.size w1 w2 := ((Below.refl _ w1).alloc (Nat.le_refl _) _).trans (k2.mono (by simp))
  have q4 := q3.below k2'
  have hB4 := hB3.trans (k2'.mono hB3.size)
  clear z0 z1 z2 z3 k2 k2' q3 hB3
  by_cases h0 : faultN st [x, y, z] = 0
  · have H0 := Go.Lib.hid (faultN_zero h0)
    have H00 := Go.Lib.hid h0
    rw [h0]
    clear h0
    have z0 := q4.o0
    have z1 := q4.o1
    have z2 := q4.o2
    have z3 := q4.o3
    go_wp2_with fail
    refine (CXY.out H00.out _).mono ?_
    rintro e w5 ⟨rfl, k5⟩
    have q5 := q4.below k5
    have hB5 := hB4.trans (k5.mono hB4.size)
    clear z0 z1 z2 z3 q4 hB4 k5
    have z0 := q5.o0
    have z1 := q5.o1
    have z2 := q5.o2
    have z3 := q5.o3
    go_wp2_with fail
    refine (CYZ.out H00.out _).mono ?_
    rintro e w6 ⟨rfl, k6⟩
    have q6 := q5.below k6
    have hB6 := hB5.trans (k6.mono hB5.size)
    clear z0 z1 z2 z3 q5 hB5 k6
    have z0 := q6.o0
    have z1 := q6.o1
    have z2 := q6.o2
    have z3 := q6.o3
    go_wp2_with fail
    refine (CXZ.out H00.out _).mono ?_
    rintro e w7 ⟨rfl, k7⟩
    have q7 := q6.below k7
    have hB7 := hB6.trans (k7.mono hB6.size)
    clear z0 z1 z2 z3 q6 hB6 k7
    have z0 := q7.o0
    have z1 := q7.o1
    have z2 := q7.o2
    have z3 := q7.o3
    go_wp2_with fail
    refine (CYX.out H00.out _).mono ?_
    rintro e w8 ⟨rfl, k8⟩
    have q8 := q7.below k8
    have HB8 := Go.Lib.hid (hB7.trans (k8.mono hB7.size))
    clear z0 z1 z2 z3 q7 hB7 k8
    have z0 := q8.o0
    clear q8 CF CXY CYZ CXZ CYX
    obtain ⟨V1, V2, V3, V4⟩ := HV.out
    have HP := Go.Lib.hid (show ∀ a b c d : Int, (0 < a ∨ 0 < b ∨ c = min a b) ∧ (a < 0 ∨ b < 0 ∨ c = max a b) → (a = -1 ∨ a = 0 ∨ a = 1) → (b = -1 ∨ b = 0 ∨ b = 1) → (c = -1 ∨ c = 0 ∨ c = 1) → d = 0 - a → (a, b, c, d) ∈ [(-1, -1, -1, 1), (-1, 0, -1, 1), (-1, 1, -1, 1), (-1, 1, 0, 1), (-1, 1, 1, 1), (0, -1, -1, 0), (0, 0, 0, 0), (0, 1, 1, 0), (1, -1, -1, -1), (1, -1, 0, -1), (1, -1, 1, -1), (1, 0, 1, -1), (1, 1, 1, -1)] by
      intro a b c d h k1 k2 k3 k4
      rcases k1 with rfl | rfl | rfl <;> rcases k2 with rfl | rfl | rfl <;> rcases k3 with rfl | rfl | rfl <;> (subst k4; first
        | decide
        | (exfalso; revert h; decide)))
    have hm := HP.out _ _ _ _ HT.out V1 V2 V3 V4
    clear HP HT V1 V2 V3 V4 HV
    by_cases h4 : st = 4
    · have HX := Go.Lib.hid (HE.out h4)
      have HY := Go.Lib.hid (fun h => HF.out h (H0.out.2 x (by simp)) (H0.out.2 y (by simp)))
      clear HE HF H0 H00
      subst h4
      simp only [List.mem_cons, List.not_mem_nil, or_false, Prod.mk.injEq] at hm
      rcases hm with ⟨rfl, rfl, rfl, rfl⟩ | ⟨rfl, h2, rfl, rfl⟩ | ⟨rfl, rfl, rfl, rfl⟩ | ⟨rfl, rfl, rfl, rfl⟩ | ⟨rfl, rfl, rfl, rfl⟩ | ⟨rfl, h2, rfl, rfl⟩ | ⟨rfl, rfl, rfl, rfl⟩ | ⟨rfl, rfl, rfl, rfl⟩ | ⟨rfl, rfl, rfl, rfl⟩ | ⟨rfl, rfl, rfl, rfl⟩ | ⟨rfl, rfl, rfl, rfl⟩ | ⟨rfl, rfl, rfl, rfl⟩ | ⟨rfl, rfl, rfl, rfl⟩
      · have HQ := Go.Lib.hid (show ¬ x.s = y.s from fun h => absurd (HY.out h) (by decide))
        clear HX HY
        go_wp2
        all_goals
          rename_i hq
          first
            | (exfalso; exact HQ.out (str_eq hq))
            | (go_ret
               exact ⟨rfl, HB8.out⟩)
      · have f1 : ¬ (0 : Int) < n2 := by omega
        have f2 : min (-1) n2 = -1 := by omega
        clear h2
        have HQ := Go.Lib.hid (show ¬ x.s = y.s from fun h => absurd (HY.out h) (by decide))
        clear HX HY
        go_wp2
        all_goals
          rename_i hq
          first
            | (exfalso; exact HQ.out (str_eq hq))
            | (go_ret
               exact ⟨rfl, HB8.out⟩)
      · have HQ := Go.Lib.hid (show ¬ x.s = y.s from fun h => absurd (HY.out h) (by decide))
        clear HX HY
        go_wp2
        all_goals
          rename_i hq
          first
            | (exfalso; exact HQ.out (str_eq hq))
            | (go_ret
               exact ⟨rfl, HB8.out⟩)
      · have HQ := Go.Lib.hid (show ¬ x.s = y.s from fun h => absurd (HY.out h) (by decide))
        clear HX HY
        go_wp2
        all_goals
          rename_i hq
          first
            | (exfalso; exact HQ.out (str_eq hq))
            | (go_ret
               exact ⟨rfl, HB8.out⟩)
      · have HQ := Go.Lib.hid (show ¬ x.s = y.s from fun h => absurd (HY.out h) (by decide))
        clear HX HY
        go_wp2
        all_goals
          rename_i hq
          first
            | (exfalso; exact HQ.out (str_eq hq))
            | (go_ret
               exact ⟨rfl, HB8.out⟩)
      · have f1 : ¬ (0 : Int) < n2 := by omega
        have f2 : min 0 n2 = -1 := by omega
        have f3 : n2 < 0 := by omega
        clear h2
        have HQ := Go.Lib.hid (show x.s = y.s from HX.out rfl)
        clear HX HY
        go_wp2
        all_goals
          rename_i hq
          first
            | (exfalso; rw [HQ.out] at hq; simp at hq; done)
            | (go_ret
               exact ⟨rfl, HB8.out⟩)
      · have HQ := Go.Lib.hid (show x.s = y.s from HX.out rfl)
        clear HX HY
        go_wp2
        all_goals
          rename_i hq
          first
            | (exfalso; rw [HQ.out] at hq; simp at hq; done)
            | (go_ret
               exact ⟨rfl, HB8.out⟩)
      · have HQ := Go.Lib.hid (show x.s = y.s from HX.out rfl)
        clear HX HY
        go_wp2
        all_goals
          rename_i hq
          first
            | (exfalso; rw [HQ.out] at hq; simp at hq; done)
            | (go_ret
               exact ⟨rfl, HB8.out⟩)
      · have HQ := Go.Lib.hid (show ¬ x.s = y.s from fun h => absurd (HY.out h) (by decide))
        clear HX HY
        go_wp2
        all_goals
          rename_i hq
          first
            | (exfalso; exact HQ.out (str_eq hq))
            | (go_ret
               exact ⟨rfl, HB8.out⟩)
      · have HQ := Go.Lib.hid (show ¬ x.s = y.s from fun h => absurd (HY.out h) (by decide))
        clear HX HY
        go_wp2
        all_goals
          rename_i hq
          first
            | (exfalso; exact HQ.out (str_eq hq))
            | (go_ret
               exact ⟨rfl, HB8.out⟩)
      · have HQ := Go.Lib.hid (show ¬ x.s = y.s from fun h => absurd (HY.out h) (by decide))
        clear HX HY
        go_wp2
        all_goals
          rename_i hq
          first
            | (exfalso; exact HQ.out (str_eq hq))
            | (go_ret
               exact ⟨rfl, HB8.out⟩)
      · have HQ := Go.Lib.hid (show ¬ x.s = y.s from fun h => absurd (HY.out h) (by decide))
        clear HX HY
        go_wp2
        all_goals
          rename_i hq
          first
            | (exfalso; exact HQ.out (str_eq hq))
            | (go_ret
               exact ⟨rfl, HB8.out⟩)
      · have HQ := Go.Lib.hid (show ¬ x.s = y.s from fun h => absurd (HY.out h) (by decide))
        clear HX HY
        go_wp2
        all_goals
          rename_i hq
          first
            | (exfalso; exact HQ.out (str_eq hq))
            | (go_ret
               exact ⟨rfl, HB8.out⟩)
    · clear HE HF H0 H00
      simp only [List.mem_cons, List.not_mem_nil, or_false, Prod.mk.injEq] at hm
      rcases hm with ⟨rfl, rfl, rfl, rfl⟩ | ⟨rfl, h2, rfl, rfl⟩ | ⟨rfl, rfl, rfl, rfl⟩ | ⟨rfl, rfl, rfl, rfl⟩ | ⟨rfl, rfl, rfl, rfl⟩ | ⟨rfl, h2, rfl, rfl⟩ | ⟨rfl, rfl, rfl, rfl⟩ | ⟨rfl, rfl, rfl, rfl⟩ | ⟨rfl, rfl, rfl, rfl⟩ | ⟨rfl, rfl, rfl, rfl⟩ | ⟨rfl, rfl, rfl, rfl⟩ | ⟨rfl, rfl, rfl, rfl⟩ | ⟨rfl, rfl, rfl, rfl⟩
      · go_wp2
        go_ret
        exact ⟨rfl, HB8.out⟩
      · have f1 : ¬ (0 : Int) < n2 := by omega
        have f2 : min (-1) n2 = -1 := by omega
        clear h2
        go_wp2
        go_ret
        exact ⟨rfl, HB8.out⟩
      · go_wp2
        go_ret
        exact ⟨rfl, HB8.out⟩
      · go_wp2
        go_ret
        exact ⟨rfl, HB8.out⟩
      · go_wp2
        go_ret
        exact ⟨rfl, HB8.out⟩
      · have f1 : ¬ (0 : Int) < n2 := by omega
        have f2 : min 0 n2 = -1 := by omega
        have f3 : n2 < 0 := by omega
        clear h2
        go_wp2
        go_ret
        exact ⟨rfl, HB8.out⟩
      · go_wp2
        go_ret
        exact ⟨rfl, HB8.out⟩
      · go_wp2
        go_ret
        exact ⟨rfl, HB8.out⟩
      · go_wp2
        go_ret
        exact ⟨rfl, HB8.out⟩
      · go_wp2
        go_ret
        exact ⟨rfl, HB8.out⟩
      · go_wp2
        go_ret
        exact ⟨rfl, HB8.out⟩
      · go_wp2
        go_ret
        exact ⟨rfl, HB8.out⟩
      · go_wp2
        go_ret
        exact ⟨rfl, HB8.out⟩
  · go_wp2_with fail
    refine (known_any _).mono ?_
    rintro e w5 ⟨rfl, k5⟩
    have HB5 := Go.Lib.hid (hB4.trans (k5.mono hB4.size))
    go_wp2
    go_ret
    exact ⟨rfl, HB5.out⟩
end Go.Proofs.Ytknbglcmjggkjaa

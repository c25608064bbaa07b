/- Layer 6: the reference's Compare (24). -/
import Derived.Test.YtknbglcmjggkjaaR9
import Derived.Deep.RegionHeld3
namespace Go.Proofs.Ytknbglcmjggkjaa
open Go.RowKit Go.Shelf Go.Lib Co

theorem rweights_any {l : List El} {A : Option Addr} {m d : Nat} (L : Nat) (h1 : 1 ≤ L) (h3 : L ≤ 3) (w : World) (h : ElsIn w (.slice A m d) l) (hlm : l.length = m) (hl : m ≤ 100000) (hok : ∀ e ∈ l, ElOk e) :
    Calls Try.prog 30 #[.slice A m d, .int .i64 (L : Nat)] w (IntsOwn (lev (fun e => wOf L e) l) w) := by
  rcases (show L = 1 ∨ L = 2 ∨ L = 3 by omega) with rfl | rfl | rfl
  · exact weights1_any w h hlm hl hok
  · exact weights2_any w h hlm hl hok
  · exact weights3_any w h hlm hl hok
/-- The order of two lists of elements on a level. -/
def oL (a b : List El) (L : Nat) : Int := ordL (lev (fun e => wOf L e) a) (lev (fun e => wOf L e) b)
theorem nn0 {a : Int} (h : a = 0) : ¬ a ≠ 0 := fun g => g h
theorem cmpK_oL (st : Nat) (s s' : List UInt8) (a b : List El) : cmpK st s s' a b = if oL a b 1 ≠ 0 then oL a b 1 else if 2 ≤ st ∧ oL a b 2 ≠ 0 then oL a b 2 else if 3 ≤ st ∧ oL a b 3 ≠ 0 then oL a b 3 else if 4 ≤ st then compareBytes s s' else 0 := rfl
theorem cmpK_at {st L : Nat} {s s' : List UInt8} {a b : List El} (h1 : 1 ≤ L) (h3 : L ≤ 3) (hst : L ≤ st) (hz : ∀ j, 1 ≤ j → j < L → oL a b j = 0) (hn : oL a b L ≠ 0) : cmpK st s s' a b = oL a b L := by
  rw [cmpK_oL]
  rcases (show L = 1 ∨ L = 2 ∨ L = 3 by omega) with rfl | rfl | rfl
  · exact if_pos hn
  · rw [if_neg (nn0 (hz 1 (by omega) (by omega)))]
    exact if_pos ⟨hst, hn⟩
  · rw [if_neg (nn0 (hz 1 (by omega) (by omega))), if_neg (fun h => h.2 (hz 2 (by omega) (by omega)))]
    exact if_pos ⟨hst, hn⟩
theorem cmpK_end {st : Nat} {s s' : List UInt8} {a b : List El} (hz : ∀ j, 1 ≤ j → j ≤ st → j ≤ 3 → oL a b j = 0) (h1 : 1 ≤ st) : cmpK st s s' a b = if 4 ≤ st then compareBytes s s' else 0 := by
  rw [cmpK_oL]
  rw [if_neg (nn0 (hz 1 (by omega) h1 (by omega))), if_neg (fun h => h.2 (hz 2 (by omega) h.1 (by omega))), if_neg (fun h => h.2 (hz 3 (by omega) h.1 (by omega)))]
theorem RElR.form {l : List El} {w w' : World} {e : Ending} (h : RElR l w e w') : ∃ A m d, e = .returned (.slice A m d) ∧ ElsIn w' (.slice A m d) l ∧ l.length = m ∧ Below w.heap.size w w' := by
  obtain ⟨v, rfl, hv, hb⟩ := h
  obtain ⟨A, m, d, rfl⟩ := own_slice (show World.ownsRow _ _ _ _ _ _ _ from hv)
  have hin := ElsIn.ofR hv
  refine ⟨A, m, d, rfl, hin, ?_, hb⟩
  rcases hin with ⟨e1, e2⟩ | ⟨g, cap, e2, _⟩
  · cases e2; rw [e1]; rfl
  · injection e2 with _ e3 _; exact e3.symm
theorem IntsOwn.form {P : List Nat} {w w' : World} {e : Ending} (h : IntsOwn P w e w') : ∃ A m d, e = .returned (.slice A m d) ∧ NumsIn w' A m P ∧ m ≤ d ∧ d ≤ maxLen ∧ Below w.heap.size w w' := by
  obtain ⟨v, rfl, hv, hb⟩ := h
  obtain ⟨A, m, d, rfl, hn, h1, h2⟩ := NumsIn.of (Cp.IntsAt.of hv)
  exact ⟨A, m, d, rfl, hn, h1, h2, hb⟩
theorem elems_ok' (x : Sx) (sx : x.s.size ≤ 4096) (nu ig uf : Bool) : ∀ e ∈ elems nu (upN uf) ig x.P, ElOk e := elems_ok (upN_le uf) x.P (by have := pts_len x.str; omega) (pts_le x.str)
set_option maxRecDepth 100000 in
set_option maxHeartbeats 40000000 in
theorem rcompare_any {x y : Sx} {st : Int} (nu ig uf : Bool) (hx : x.bad = []) (hy : y.bad = []) (h1 : 1 ≤ st) (h4 : st ≤ 4) (sx : x.s.size ≤ 4096) (sy : y.s.size ≤ 4096) (w : World) :
    Calls Try.prog 24 #[.string x.s, .string y.s, opV st nu ig uf] w fun e w' => e = .returned (.int .i64 (cmpX st nu ig uf x y)) ∧ Below w.heap.size w w' := by
  have hsx := x.str
  rw [hx] at hsx
  have hsy := y.str
  rw [hy] at hsy
  have cX := fun w' => relements_any hsx sx st nu ig uf w'
  have cY := fun w' => relements_any hsy sy st nu ig uf w'
  have hlx : (elems nu (upN uf) ig x.P).length ≤ 10000 := by have := elems_len nu ig (upN uf) x.P; have := pts_len x.str; omega
  have hly : (elems nu (upN uf) ig y.P).length ≤ 10000 := by have := elems_len nu ig (upN uf) y.P; have := pts_len y.str; omega
  have hkx := elems_ok' x sx nu ig uf
  have hky := elems_ok' y sy nu ig uf
  have hcm := cmpX_eq (st := st) (nu := nu) (ig := ig) (uf := uf) sx sy
  obtain ⟨n, rfl⟩ : ∃ n : Nat, st = (n : Nat) := ⟨st.toNat, by omega⟩
  have hn4 : n ≤ 4 := by omega
  have hn1 : 1 ≤ n := by omega
  obtain ⟨mm, hmm⟩ : ∃ mm : Nat, min (n : Int) 3 = (mm : Nat) := ⟨min n 3, by omega⟩
  have hmm3 : mm ≤ 3 := by omega
  have hmmn : mm ≤ n := by omega
  have HM := Go.Lib.hid (show mm = n ∨ (n = 4 ∧ mm = 3) by omega)
  have HCM := Go.Lib.hid hcm
  clear hcm h1 h4
  generalize hex : elems nu (upN uf) ig x.P = ex at *
  generalize hey : elems nu (upN uf) ig y.P = ey at *
  have KX := Go.Lib.hid hkx
  have KY := Go.Lib.hid hky
  have o1 := ObjAt.new w #[.int .i64 (n : Nat), .bool nu, .bool ig, .bool uf] 34
  have hB : Below w.heap.size w (w.alloc (.cells #[.int .i64 (n : Nat), .bool nu, .bool ig, .bool uf] 34)) := (Below.refl _ w).alloc (Nat.le_refl _) _
  unfold opV at *
  have CX := Go.Lib.hid cX
  have CY := Go.Lib.hid cY
  clear cX cY hkx hky hex hey hsx hsy
  go_enter Try.func24, Try.ntmps24
  go_wp2_with fail
  generalize w.alloc (.cells #[.int .i64 (n : Nat), .bool nu, .bool ig, .bool uf] 34) = W at *
  have o2 : ObjAt W.drew w.heap.size #[.int .i64 (n : Nat), .bool nu, .bool ig, .bool uf] 34 := o1
  have hs0 := hB.size
  go_region_held3 (fun w' => w'.cell? ⟨w.heap.size, 0, none⟩ = some (.int .i64 (n : Nat)) ∧ w'.cell? ⟨w.heap.size, 1, none⟩ = some (.bool nu) ∧ w'.cell? ⟨w.heap.size, 2, none⟩ = some (.bool ig) ∧ w'.cell? ⟨w.heap.size, 3, none⟩ = some (.bool uf))
    (first
      | exact ⟨o4.c0, o4.c1, o4.c2, o4.c3⟩
      | exact ⟨o3.c0, o3.c1, o3.c2, o3.c3⟩
      | exact ⟨o2.c0, o2.c1, o2.c2, o2.c3⟩
      | go_keep)
    (first
      | (go_at_call 19; (with_reducible refine (CX.out _).mono ?_); intro e w4 h5; obtain ⟨Ax, mx, dx, rfl, ix, lx, k4⟩ := h5.form; have o4 := o3.below k4; have iy := iy0.below k4)
      | (go_at_call 19; (with_reducible refine (CY.out _).mono ?_); intro e w4 h5; obtain ⟨Ay, my, dy, rfl, iy, ly, k4⟩ := h5.form; have o4 := o3.below k4; have ix := ix0.below k4)
      | (go_at_call 19; (with_reducible refine (CX.out _).mono ?_); intro e w3 h5; obtain ⟨Ax, mx, dx, rfl, ix0, lx, k3⟩ := h5.form; have o3 := o2.below k3)
      | (go_at_call 19; (with_reducible refine (CY.out _).mono ?_); intro e w3 h5; obtain ⟨Ay, my, dy, rfl, iy0, ly, k3⟩ := h5.form; have o3 := o2.below k3)
      | fail)
  all_goals
    have hb4 : Below w.heap.size w w4 := (hB.drew.trans (k3.mono hB.size)).trans (k4.mono (Nat.le_trans hB.size k3.size))
    have hmx : mx ≤ 10000 := by omega
    have hmy : my ≤ 10000 := by omega
    have IX := Go.Lib.hid ix
    have IY := Go.Lib.hid iy
    have LX := Go.Lib.hid lx
    have LY := Go.Lib.hid ly
    clear ix iy lx ly k3 k4 o1 o2 o3 hB
    go_wp2_with fail
    go_loopw [9] (fun lv wr => ∃ L : Nat, 1 ≤ L ∧ L ≤ mm + 1 ∧ lv = .int .i64 (L : Nat) ∧ Hid (∀ j, 1 ≤ j → j < L → oL ex ey j = 0) ∧ Below w4.heap.size w4 wr) (fun lv _ => 4 - (RowKit.intOf lv).toNat)
    case atStart => exact ⟨1, by omega, by omega, rfl, Go.Lib.hid (fun j h h' => by omega), Below.refl _ _⟩
    case round =>
      obtain ⟨L, hL1, hL2, rfl, HZ, hbk⟩ := hrel
      have hsk := hbk.size
      have o5 := o4.below hbk
      have y0 := o5.c0
      by_cases hle : L ≤ mm
      · have q1 : (L : Int) ≤ (mm : Int) := by omega
        have ex5 := IX.out.below hbk
        have ey5 := IY.out.below hbk
        have cW1 := fun w' (hb' : Below wr.heap.size wr w') => rweights_any L hL1 (by omega) w' (ex5.below hb') LX.out (by omega) KX.out
        have cW2 := fun w' (hb' : Below wr.heap.size wr w') => rweights_any L hL1 (by omega) w' (ey5.below hb') LY.out (by omega) KY.out
        have CW1 := Go.Lib.hid cW1
        have CW2 := Go.Lib.hid cW2
        clear cW1 cW2
        go_wp2_with fail
        refine (CW1.out wr (Below.refl _ _)).mono ?_
        intro e w6 h6
        obtain ⟨A1, m1, d1, rfl, n1, _, _, k6⟩ := h6.form
        go_wp2_with fail
        refine (CW2.out w6 k6).mono ?_
        intro e w7 h7
        obtain ⟨A2, m2, d2, rfl, n2, _, _, k7⟩ := h7.form
        have n1' := n1.below k7
        have l1 : m1 ≤ 100000 := by have := lev_len (fun e => wOf L e) ex; have := n1.1; have := LX.out; omega
        have l2 : m2 ≤ 100000 := by have := lev_len (fun e => wOf L e) ey; have := n2.1; have := LY.out; omega
        go_wp2_with fail
        refine (order_any w7 n1' n2 l1 l2).mono ?_
        rintro e w8 ⟨rfl, k8⟩
        have hb8 : Below w4.heap.size w4 w8 := ((hbk.trans (k6.mono hsk)).trans (k7.mono (Nat.le_trans hsk k6.size))).trans (k8.mono (Nat.le_trans hsk (Nat.le_trans k6.size k7.size)))
        clear ex5 ey5 n1 n2 n1' k6 k7 k8 hbk y0 o5
        have HO := Go.Lib.hid (show ordL (lev (fun e => wOf L e) ex) (lev (fun e => wOf L e) ey) = oL ex ey L from rfl)
        rw [HO.out]
        by_cases hz : oL ex ey L = 0
        · have HZ2 := Go.Lib.hid (show ∀ j, 1 ≤ j → j < L + 1 → oL ex ey j = 0 from fun j h h' => by
            by_cases hj : j = L
            · rw [hj]; exact hz
            · exact HZ.out j h (by omega))
          rw [hz]
          clear hz
          go_wp2
          go_roundw
          case rel => exact ⟨L + 1, by omega, by omega, by go_num, HZ2, hb8⟩
          case measure => simp [RowKit.intOf]; omega
        · have HV := Go.Lib.hid (HCM.out.trans (cmpK_at (st := n) hL1 (by omega) (by omega) HZ.out hz))
          have HB8 := Go.Lib.hid (hb4.trans (hb8.mono hb4.size))
          clear hb8 HO
          generalize oL ex ey L = q at *
          go_wp2
          go_ret
          exact ⟨by rw [HV.out]; rfl, HB8.out⟩
      · have q1 : ¬ (L : Int) ≤ (mm : Int) := by omega
        have HV := Go.Lib.hid (HCM.out.trans (cmpK_end (st := n) (fun j h h' h'' => HZ.out j h (by have := HM.out; omega)) hn1))
        have HB8 := Go.Lib.hid (hb4.trans (hbk.mono hb4.size))
        by_cases hn : n = 4
        · subst hn
          go_wp2_with (go_at_call 25; (with_reducible refine (bytes_any _ _ _).mono ?_); rintro e wr ⟨rfl, rfl⟩)
          go_ret
          exact ⟨by rw [HV.out]; rfl, HB8.out⟩
        · have hni : ¬ (n : Int) = 4 := by omega
          go_wp2
          go_ret
          exact ⟨by rw [HV.out, if_neg (by omega)]; rfl, HB8.out⟩
end Go.Proofs.Ytknbglcmjggkjaa

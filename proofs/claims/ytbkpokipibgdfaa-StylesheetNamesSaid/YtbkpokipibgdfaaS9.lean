/- Layer 8: checkLinks (85). -/
import Derived.Test.YtbkpokipibgdfaaS7
namespace Go.Proofs.Ytbkpokipibgdfaa
open Go.RowKit Go.Lib Go.Maps
set_option linter.unusedVariables false

/-- A base or a next style that is wrong. -/
def lnkB (l : List St) (x : St) : Bool := (x.base != 0 && !hasB l x.kind x.base) || (x.next != 0 && (x.kind == 2 || !hasB l 1 x.next))
def lnkP (l : List St) : Int := if l.any (lnkB l) = true then 25 else 0
theorem lnk_yes {l : List St} {k : Nat} (h : k < l.length) (hp : lnkB l l[k] = true) : lnkP l = 25 := by unfold lnkP; rw [if_pos (List.any_eq_true.2 ⟨_, List.getElem_mem h, hp⟩)]
theorem lnk_no {l : List St} (hn : ∀ j (h : j < l.length), lnkB l l[j] = false) : lnkP l = 0 := by
  unfold lnkP
  rw [if_neg]
  rw [List.any_eq_true]
  rintro ⟨x, hx, hp⟩
  obtain ⟨j, hj, rfl⟩ := List.mem_iff_getElem.1 hx
  rw [hn j hj] at hp; cases hp

set_option maxRecDepth 100000 in
set_option maxHeartbeats 8000000 in
theorem checklinks_any (l : List St) (hok : LsOk l) (A : Option Addr) (m d b : Nat) (w : World) (h : ShAt w A m d b l) :
    Calls Try.prog 85 #[.agg #[.slice A m d, .map (some b)]] w fun e w' => e = .returned (.int .i64 (lnkP l)) ∧ Below w.heap.size w w' := by
  have HH := Lib.hid h
  have HO := Lib.hid hok
  have CH := Lib.hid (fun kind i (hi : I64 i) w' (hb : Below w.heap.size w w') => has_any l A m d b kind i hi w' (h.below hb))
  have hb0 := (Below.refl w.heap.size w).alloc (Nat.le_refl _) (.cells #[.slice A m d, .map (some b)] 73)
  have o0 := ObjAt.new w #[.slice A m d, .map (some b)] 73
  have hsm := h.small
  clear h hok
  go_enter Try.func85, Try.ntmps85
  go_wp2_with fail
  go_loopw [8] (fun s8 wr => ∃ k : Nat, k ≤ m ∧ s8 = .int .i64 (k : Nat) ∧ Hid (∀ j (h : j < l.length), j < k → lnkB l l[j] = false) ∧ Hid (Below w.heap.size w wr) ∧ Hid (ObjAt wr w.heap.size #[.slice A m d, .map (some b)] 73)) (fun s8 _ => m - (intOf s8).toNat)
  case atStart => exact ⟨0, Nat.zero_le _, rfl, Lib.hid (fun j _ h => absurd h (Nat.not_lt_zero _)), Lib.hid hb0, Lib.hid o0⟩
  case round =>
    clear hb0 o0
    obtain ⟨k, hk, rfl, HM, HB, HP⟩ := hrel
    by_cases hlt : k < m
    · have hkl : k < l.length := by rw [HH.out.len]; exact hlt
      obtain ⟨g, o, rfl, hg, hcl⟩ := HH.out.list.pos (by omega)
      obtain ⟨B, cc, z0, z1, z2, z3, z4, z5, z6⟩ := (hcl k hkl)
      replace z0 := (HB.out.cell (p := ⟨g, o + k * 6, none⟩) hg).trans z0
      replace z1 := (HB.out.cell (p := ⟨g, o + k * 6 + 1, none⟩) hg).trans z1
      replace z2 := (HB.out.cell (p := ⟨g, o + k * 6 + 2, none⟩) hg).trans z2
      replace z3 := (HB.out.cell (p := ⟨g, o + k * 6 + 3, none⟩) hg).trans z3
      replace z4 := (HB.out.cell (p := ⟨g, o + k * 6 + 4, none⟩) hg).trans z4
      replace z5 := (HB.out.cell (p := ⟨g, o + k * 6 + 5, none⟩) hg).trans z5
      have p0 := HP.out.a0
      have p1 := HP.out.a1
      have HY := Lib.hid (fun (h : lnkB l l[k] = true) => lnk_yes hkl h)
      have HX := Lib.hid (fun (h : lnkB l l[k] = false) => show ∀ j (h : j < l.length), j < k + 1 → lnkB l l[j] = false from fun j hj hl => if e : j = k then by subst e; exact h else HM.out j hj (by omega))
      have HI := Lib.hid (HO.out l[k] (List.getElem_mem hkl))
      have hs := HB.out.size
      clear hcl z6
      generalize l[k] = x at z0 z1 z2 z3 z4 z5 HY HX HI
      obtain ⟨a1, a2, a3, a4, a5, ps⟩ := x
      unfold lnkB at HY HX
      dsimp only at z0 z1 z2 z3 z4 z5 HY HX HI
      have B7 := HB.out.alloc hs (.cells #[.int .i64 a1, .int .i64 a2, .string a3, .int .i64 a4, .int .i64 a5, .slice B ps.length cc] 28)
      have Q7 := HP.out.alloc (.cells #[.int .i64 a1, .int .i64 a2, .string a3, .int .i64 a4, .int .i64 a5, .slice B ps.length cc] 28)
      have R7 := ObjAt.new wr #[.int .i64 a1, .int .i64 a2, .string a3, .int .i64 a4, .int .i64 a5, .slice B ps.length cc] 28
      by_cases h4 : (a4 != 0) = true
      · have cH := CH.out a2 a4 HI.out.2.2.1 _ B7
        have sB := B7.size
        have q0 := Q7.a0
        have q1 := Q7.a1
        go_wp2_with fail
        (with_reducible refine cH.mono ?_)
        rintro e w7 ⟨rfl, k7⟩
        have K7 := Lib.hid (B7.trans (k7.mono sB))
        have P7 := Lib.hid (Q7.below k7)
        have O7 := Lib.hid (R7.below k7)
        clear cH k7 B7 Q7 R7 q0 q1 z0 z1 z2 z3 z4 z5 p0 p1
        have p0 := P7.out.a0
        have p1 := P7.out.a1
        have y0 := O7.out.s0
        have y1 := O7.out.s1
        have y3 := O7.out.s3
        have y4 := O7.out.s4
        cases hh : hasB l a2 a4 with
        | false =>
          have HE := Lib.hid (HY.out (by simp [h4, hh]))
          clear HY HX
          go_wp2
          go_ret
          exact ⟨by rw [HE.out]; rfl, K7.out⟩
        | true =>
          by_cases h5 : (a5 != 0) = true
          · by_cases hk2 : (a2 == 2) = true
            · have HE := Lib.hid (HY.out (by simp [h4, hh, h5, hk2]))
              clear HY HX
              go_wp2
              go_ret
              exact ⟨by rw [HE.out]; rfl, K7.out⟩
            · have hk2' : (a2 == 2) = false := by simpa using hk2
              clear hk2
              have cH := CH.out 1 a5 HI.out.2.2.2 _ K7.out
              have sK := K7.out.size
              go_wp2_with fail
              (with_reducible refine cH.mono ?_)
              rintro e w8 ⟨rfl, k8⟩
              have K8 := Lib.hid (K7.out.trans (k8.mono sK))
              have P8 := Lib.hid (P7.out.below k8)
              clear cH k8
              cases hh2 : hasB l 1 a5 with
              | false =>
                have HE := Lib.hid (HY.out (by simp [h4, hh, h5, hk2', hh2]))
                clear HY HX
                go_wp2
                go_ret
                exact ⟨by rw [HE.out]; rfl, K8.out⟩
              | true =>
                have HE := Lib.hid (HX.out (by simp [h4, hh, h5, hk2', hh2]))
                clear HY HX
                go_wp2
                go_roundw
                case rel => exact ⟨k + 1, by omega, by go_num, HE, K8, P8⟩
                case measure => simp [intOf]; omega
          · have h5' : (a5 != 0) = false := by simpa using h5
            clear h5
            have HE := Lib.hid (HX.out (by simp [h4, hh, h5']))
            clear HY HX
            go_wp2
            go_roundw
            case rel => exact ⟨k + 1, by omega, by go_num, HE, K7, P7⟩
            case measure => simp [intOf]; omega
      · have h4' : (a4 != 0) = false := by simpa using h4
        have K7 := Lib.hid B7
        have P7 := Lib.hid Q7
        have q0 := Q7.a0
        have q1 := Q7.a1
        clear h4 B7 Q7 R7
        by_cases h5 : (a5 != 0) = true
        · by_cases hk2 : (a2 == 2) = true
          · have HE := Lib.hid (HY.out (by simp [h4', h5, hk2]))
            clear HY HX
            go_wp2
            go_ret
            exact ⟨by rw [HE.out]; rfl, K7.out⟩
          · have hk2' : (a2 == 2) = false := by simpa using hk2
            clear hk2
            have cH := CH.out 1 a5 HI.out.2.2.2 _ K7.out
            have sK := K7.out.size
            go_wp2_with fail
            (with_reducible refine cH.mono ?_)
            rintro e w8 ⟨rfl, k8⟩
            have K8 := Lib.hid (K7.out.trans (k8.mono sK))
            have P8 := Lib.hid (P7.out.below k8)
            clear cH k8
            cases hh2 : hasB l 1 a5 with
            | false =>
              have HE := Lib.hid (HY.out (by simp [h4', h5, hk2', hh2]))
              clear HY HX
              go_wp2
              go_ret
              exact ⟨by rw [HE.out]; rfl, K8.out⟩
            | true =>
              have HE := Lib.hid (HX.out (by simp [h4', h5, hk2', hh2]))
              clear HY HX
              go_wp2
              go_roundw
              case rel => exact ⟨k + 1, by omega, by go_num, HE, K8, P8⟩
              case measure => simp [intOf]; omega
        · have h5' : (a5 != 0) = false := by simpa using h5
          clear h5
          have HE := Lib.hid (HX.out (by simp [h4', h5']))
          clear HY HX
          go_wp2
          go_roundw
          case rel => exact ⟨k + 1, by omega, by go_num, HE, K7, P7⟩
          case measure => simp [intOf]; omega
    · obtain rfl : k = m := by omega
      have HE := Lib.hid (lnk_no (l := l) fun j h => HM.out j h (by rw [← HH.out.len]; exact h))
      go_wp2
      go_ret
      exact ⟨by rw [HE.out]; rfl, HB.out⟩
end Go.Proofs.Ytbkpokipibgdfaa

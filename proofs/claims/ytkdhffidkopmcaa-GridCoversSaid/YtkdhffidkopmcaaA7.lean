/- Layer 12: the reference's Place (41). -/
import Derived.Test.YtkdhffidkopmcaaA6
namespace Go.Proofs.Ytkdhffidkopmcaa
open Go.RowKit Go.Lib
set_option linter.unusedVariables false

/-- What Place hands back, of a cell with columns. -/
def PlaceR (T : Gd.Tb) (i f t : Nat) (e : Ending) : Prop := ∃ (c b : Nat) (m : Int), Gd.At T (Gd.top T f t i) c f t m ∧ Gd.Bt T f t i b ∧ e = .returned (.tuple #[.int .i64 (Gd.top T f t i : Nat), .int .i64 (c : Nat), .int .i64 (b : Nat)])
theorem At_len {T : List (List Cl)} {i c f t : Nat} {m : Int} (h : Gd.At (plT T) i c f t m) : ∀ h : i < T.length, c < T[i].length := fun hi => by
  obtain ⟨L, h1, h2⟩ := h
  rw [plT_get hi] at h1; cases h1
  rw [← plR_len]; exact (List.getElem?_eq_some_iff.1 h2).1
theorem At_lt {T : List (List Cl)} {i c f t : Nat} {m : Int} (h : Gd.At (plT T) i c f t m) : i < T.length := by
  obtain ⟨L, h1, _⟩ := h
  have := (List.getElem?_eq_some_iff.1 h1).1
  unfold plT at this
  simpa using this
theorem plT_len (T : List (List Cl)) : (plT T).length = T.length := by unfold plT; simp

set_option maxRecDepth 100000 in
set_option maxHeartbeats 8000000 in
theorem rplace_any (T : List (List Cl)) (hT : GoodT T) (A : Option Addr) (N c : Nat) (hN : T.length = N) (hc : N ≤ c ∧ c ≤ maxLen) (i k f t : Nat) (m : Int) (ha : Gd.At (plT T) i k f t m) (hft : f < t) (w : World) (hA : TbAt w A T) :
    Calls Try.prog 41 #[.slice A N c, .int .i64 (i : Nat), .int .i64 (k : Nat)] w fun e w' => PlaceR (plT T) i f t e ∧ Below w.heap.size w w' := by
  have hiT := At_lt ha
  have hi : i < N := by omega
  obtain ⟨g, o, rfl, hg, hrows⟩ := hA.row hiT
  obtain ⟨a1, a2, B, n, cB, D, dn, dc, Y, yn, yc, Ac, kc, c0, c1, c2, c3, c4, c5, h1, h2, hcs⟩ := hrows i hiT
  have hN10 : N ≤ 10 := by rw [← hN]; exact hT.1
  have hgr := hT.2 _ (List.getElem_mem hiT)
  have cSp := span_any T[i] (.slice B n cB) (.int .i64 a1) (.int .i64 a2) (.slice D dn dc) (.slice Y yn yc) Ac _ kc rfl (by have := hgr.1; omega) ⟨h1, h2⟩ k (At_len ha hiT) w hcs
  have CT := Go.Lib.hid (fun (x y : Nat) (f' t' : Nat) (m' : Int) (hx : Gd.At (plT T) x y f' t' m') w' (hb : Below w.heap.size w w') => cont_any T hT (some ⟨g, o, none⟩) N c hN hc x y (by have := At_lt hx; omega) (At_len hx) w' (hA.below hb))
  have SM := Go.Lib.hid (fun (x : Nat) (hx : x < T.length) w' (hb : Below w.heap.size w w') (v0 v1 v2 v3 v4 : Value) (Ac : Option Addr) (n c : Nat) (hn : T[x].length = n) (hc : n ≤ c ∧ c ≤ maxLen) (hcs : CsAt w' Ac T[x]) => same_any T[x] v0 v1 v2 v3 v4 Ac n c hn (by have := (hT.2 _ (List.getElem_mem hx)).1; omega) hc f t hft w' hcs)
  have HRW := Go.Lib.hid hrows
  have HN := Go.Lib.hid hN
  have HA := Go.Lib.hid ha
  have HFT := Go.Lib.hid hft
  have HTT := Go.Lib.hid hT
  have hc1 := hc.1
  have hc2 := hc.2
  unfold maxLen at hc2
  have q0 : (0 : Int) ≤ (i : Int) := by omega
  have q1 : (i : Int) < (N : Int) := by omega
  have q2 : IntKind.i64.wrap ((i : Int) + 1) = (i : Int) + 1 := IntWalk.i64_in _ (by omega)
  clear hrows hcs h1 h2 hgr hA ha hN hft hT hc
  go_enter Try.func41, Try.ntmps41
  go_wp2_with fail
  (with_reducible refine cSp.mono ?_)
  rintro e w1 ⟨⟨f', t', m', hx, rfl⟩, k1⟩
  obtain ⟨rfl, rfl, rfl⟩ : f = f' ∧ t = t' ∧ m = m' := Gd.At.fn HA.out (At_of hiT hx)
  have K1 := Go.Lib.hid k1
  clear cSp hx c0 c1 c2 c3 c4 c5
  go_wp2_with fail
  go_loopw [6, 7] (fun s6 s7 wr => ∃ x y : Nat, x ≤ i ∧ s6 = .int .i64 (x : Nat) ∧ s7 = .int .i64 (y : Nat) ∧ Hid ((∃ m, Gd.At (plT T) x y f t m) ∧ ∀ z, x < z → z ≤ i → Gd.Kc (plT T) z f t) ∧ Below w.heap.size w wr) (fun s6 _ _ => (RowKit.intOf s6).toNat)
  case atStart => exact ⟨i, k, Nat.le_refl _, rfl, rfl, Go.Lib.hid ⟨⟨m, HA.out⟩, fun z h1 h2 => absurd h1 (by omega)⟩, k1⟩
  case round =>
    clear k1
    obtain ⟨x, y, hxi, rfl, rfl, HX, hbk⟩ := hrel
    obtain ⟨mx, hat⟩ := HX.out.1
    have cC := CT.out x y f t mx hat wr hbk
    have hsz := hbk.size
    have HBK := Go.Lib.hid hbk
    have HAT := Go.Lib.hid hat
    clear hbk hat
    go_wp2_with fail
    (with_reducible refine cC.mono ?_)
    rintro e w2 ⟨⟨f'', t'', m'', hat2, b, rfl, hb⟩, k2⟩
    have hfn := Gd.At.fn HAT.out hat2
    rw [← hfn.1, ← hfn.2.1] at hb
    have K2 := Go.Lib.hid (HBK.out.trans (k2.mono hsz))
    clear hfn hat2 k2 cC
    cases b with
    | true =>
      have hK := hb.1 rfl
      have hx0 : x ≠ 0 := fun h => by rw [h] at hK; exact Gd.Kc.zero hK
      obtain ⟨x', hx'⟩ : ∃ x', x = x' + 1 := ⟨x - 1, by omega⟩
      have hx'T : x' < T.length := by have := HN.out; omega
      obtain ⟨a1, a2, B, n, cB, D, dn, dc, Y, yn, yc, Ac, kc, c0, c1, c2, c3, c4, c5, h1, h2, hcs⟩ := (HRW.out x' hx'T).below hg K2.out
      have cS := SM.out x' hx'T w2 K2.out (.slice B n cB) (.int .i64 a1) (.int .i64 a2) (.slice D dn dc) (.slice Y yn yc) Ac _ kc rfl ⟨h1, h2⟩ hcs
      have p0 : (0 : Int) ≤ (x' : Int) := by omega
      have p1 : (x' : Int) < (N : Int) := by omega
      have p2 : IntKind.i64.wrap ((x : Int) - 1) = (x' : Int) := by rw [show (x : Int) - 1 = x' by omega]; exact IntWalk.i64_in _ (by omega)
      have HK := Go.Lib.hid hK
      have HXX := Go.Lib.hid hx'
      have hsz2 := K2.out.size
      clear hb hK hcs h1 h2 hx' hx0
      go_wp2_with fail
      (with_reducible refine cS.mono ?_)
      rintro e w3 ⟨hS, k3⟩
      have K3 := Go.Lib.hid (K2.out.trans (k3.mono hsz2))
      clear cS c0 c1 c2 c3 c4 c5 k3
      rcases hS with ⟨q, mq, hq, rfl⟩ | ⟨hno, rfl⟩
      · have HQ := Go.Lib.hid (At_of hx'T hq)
        clear hq
        go_wp2_with fail
        go_roundw
        case rel => exact ⟨x', q, by have := HXX.out; omega, rfl, rfl, Go.Lib.hid ⟨⟨mq, HQ.out⟩, fun z h1 h2 => by
          by_cases e : z = x
          · rw [e]; exact HK.out
          · exact HX.out.2 z (by have := HXX.out; omega) h2⟩, K3.out⟩
        case measure => simp [RowKit.intOf]; have := HXX.out; omega
      · exfalso
        have hk := HK.out
        rw [HXX.out] at hk
        have key : ∀ mm, ¬ Gd.Has (plT T) x' f t mm := fun mm ⟨L, h1, h2, _⟩ => by
          rw [plT_get hx'T] at h1; cases h1
          exact hno mm h2
        rcases hk.up with u | u
        · exact key _ u
        · exact key _ u
    | false =>
      have HTOP := Go.Lib.hid (show x = Gd.top (plT T) f t i from Gd.top_unique hxi (fun h => absurd (hb.2 h) Bool.false_ne_true) HX.out.2)
      have k2' := K2.out
      clear hb
      go_wp2_with fail
      go_loopw [8, 11] (fun s8 _ wr => ∃ z : Nat, i < z ∧ z ≤ N ∧ s8 = .int .i64 (z : Nat) ∧ Hid (∀ r, i < r → r < z → Gd.Kc (plT T) r f t) ∧ Below w.heap.size w wr) (fun s8 _ _ => N - (RowKit.intOf s8).toNat)
      case atStart => exact ⟨i + 1, by omega, by omega, rfl, Go.Lib.hid fun r h1 h2 => absurd h1 (by omega), k2'⟩
      case round =>
        clear k2'
        obtain ⟨z, hiz, hzN, rfl, HZ, hbk⟩ := hrel
        have HBW := Go.Lib.hid hbk
        have hsz3 := hbk.size
        clear hbk
        by_cases hlt : z < N
        · have p0 : (0 : Int) ≤ (z : Int) := by omega
          have p1 : (z : Int) < (N : Int) := by omega
          have p2 : IntKind.i64.wrap ((z : Int) + 1) = (z : Int) + 1 := IntWalk.i64_in _ (by omega)
          have hzT : z < T.length := by have := HN.out; omega
          obtain ⟨a1, a2, B, n, cB, D, dn, dc, Y, yn, yc, Ac, kc, c0, c1, c2, c3, c4, c5, h1, h2, hcs⟩ := (HRW.out z hzT).below hg HBW.out
          have cS := SM.out z hzT wr HBW.out (.slice B n cB) (.int .i64 a1) (.int .i64 a2) (.slice D dn dc) (.slice Y yn yc) Ac _ kc rfl ⟨h1, h2⟩ hcs
          clear hcs h1 h2
          go_wp2_with fail
          (with_reducible refine cS.mono ?_)
          rintro e w3 ⟨hS, k3⟩
          have K3 := Go.Lib.hid (HBW.out.trans (k3.mono hsz3))
          clear cS c0 c1 c2 c3 c4 c5 k3
          rcases hS with ⟨q, mq, hq, rfl⟩ | ⟨hno, rfl⟩
          · have hq' := At_of hzT hq
            have cC := CT.out z q f t mq hq' w3 K3.out
            have HQ := Go.Lib.hid hq'
            have p3 : ¬ (q : Int) < 0 := by omega
            have hsz4 := K3.out.size
            clear hq hq'
            go_wp2_with fail
            (with_reducible refine cC.mono ?_)
            rintro e w4 ⟨⟨f'', t'', m'', hat2, b, rfl, hb⟩, k4⟩
            have hfn := Gd.At.fn HQ.out hat2
            rw [← hfn.1, ← hfn.2.1] at hb
            have K4 := Go.Lib.hid (K3.out.trans (k4.mono hsz4))
            have HB := Go.Lib.hid hb
            clear hfn hat2 k4 cC hb
            cases b with
            | true =>
              go_wp2_with fail
              go_roundw
              case rel => exact ⟨z + 1, by omega, by omega, by go_num, Go.Lib.hid fun r h1 h2 => if e : r = z then by rw [e]; exact HB.out.1 (by simp) else HZ.out r h1 (by omega), K4.out⟩
              case measure => simp [RowKit.intOf]; omega
            | false =>
              go_wp2
              go_ret3
              exact ⟨⟨y, z, mx, by rw [← HTOP.out]; exact HAT.out, ⟨hiz, by rw [plT_len, HN.out]; exact hzN, HZ.out, fun h => absurd (HB.out.2 h) (by simp)⟩, by rw [← HTOP.out]; rfl⟩, K4.out⟩
          · have HNO := Go.Lib.hid hno
            clear hno
            go_wp2
            go_ret3
            refine ⟨⟨y, z, mx, by rw [← HTOP.out]; exact HAT.out, ⟨hiz, by rw [plT_len, HN.out]; exact hzN, HZ.out, fun h => ?_⟩, by rw [← HTOP.out]; rfl⟩, K3.out⟩
            obtain ⟨L, h1, h2, _⟩ := h.has
            rw [plT_get hzT] at h1; cases h1
            exact HNO.out _ h2
        · obtain rfl : z = N := by omega
          go_wp2
          go_ret3
          refine ⟨⟨y, z, mx, by rw [← HTOP.out]; exact HAT.out, ⟨hiz, by rw [plT_len, HN.out]; exact Nat.le_refl _, HZ.out, fun h => ?_⟩, by rw [← HTOP.out]; rfl⟩, HBW.out⟩
          have := h.lt
          rw [plT_len, HN.out] at this
          omega
end Go.Proofs.Ytkdhffidkopmcaa

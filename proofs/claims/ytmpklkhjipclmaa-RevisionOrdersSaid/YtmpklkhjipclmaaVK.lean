/- Layer 22: Fresh (25), sameDecision (32), Accept (33), Reject (34). -/
import Derived.Test.YtmpklkhjipclmaaVJ
namespace Go.Proofs.Ytmpklkhjipclmaa
open Go.RowKit Go.Lib
set_option linter.unusedVariables false

/-- The last id. -/
def lastI (l : List Rv) : Int := match l.getLast? with
  | none => 0
  | some x => x.id
noncomputable def frN (l : List Rv) : Int := if chkL vld l ≠ 0 then 0 else if 1073741824 ≤ lastI l then 0 else lastI l + 1
noncomputable def frE (l : List Rv) : Int := if chkL vld l ≠ 0 then chkL vld l else if 1073741824 ≤ lastI l then 9 else 0
theorem lastI_at {l : List Rv} {m : Nat} (h : m < l.length) (e : l.length = m + 1) : lastI l = l[m].id := by
  unfold lastI
  rw [List.getLast?_eq_getElem?, show l.length - 1 = m by omega, List.getElem?_eq_getElem h]
set_option maxRecDepth 100000 in
set_option maxHeartbeats 8000000 in
theorem fresh_any (l : List Rv) (n : Nat) (hn : l.length = n) (h1000 : n ≤ 1000) (hz : SzOk l) (hok : RsOk l) (A : Option Addr) (c : Nat) (w : World) (hA : RsAt w A l) :
    Calls Try.prog 25 #[.slice A n c] w fun e w' => e = .returned (.tuple #[.int .i64 (frN l), .int .i64 (frE l)]) ∧ Below w.heap.size w w' := by
  have cC := check_any l n hn h1000 hz A c w hA
  have HA := Lib.hid hA
  have HN := Lib.hid hn
  have HOK := Lib.hid hok
  clear hA hn hz hok
  by_cases hc : chkL vld l = 0
  case neg =>
    have hc' : (chkL vld l == 0) = false := neB hc
    have e1 : frN l = 0 := by unfold frN; rw [if_pos hc]
    have e2 : frE l = chkL vld l := by unfold frE; rw [if_pos hc]
    rw [e1, e2]
    generalize chkL vld l = r at cC hc' ⊢
    clear hc e1 e2
    go_enter Try.func25, Try.ntmps25
    go_wp2_with fail
    (with_reducible refine cC.mono ?_)
    rintro e w1 ⟨rfl, k1⟩
    go_wp2
    go_ret2
    exact ⟨rfl, k1⟩
  have f1 : frN l = if 1073741824 ≤ lastI l then 0 else lastI l + 1 := by unfold frN; rw [if_neg (by simp [hc])]
  have f2 : frE l = if 1073741824 ≤ lastI l then 9 else 0 := by unfold frE; rw [if_neg (by simp [hc])]
  rw [hc] at cC
  by_cases h0 : n = 0
  · subst h0
    have hl : l = [] := List.eq_nil_of_length_eq_zero HN.out
    have hi : lastI l = 0 := by rw [hl]; rfl
    rw [f1, f2, hi]
    clear f1 f2 hi hl hc
    go_enter Try.func25, Try.ntmps25
    go_wp2_with fail
    (with_reducible refine cC.mono ?_)
    rintro e w1 ⟨rfl, k1⟩
    go_wp2
    go_ret2
    exact ⟨by simp, k1⟩
  obtain ⟨m, rfl⟩ : ∃ m, n = m + 1 := ⟨n - 1, by omega⟩
  have hml : m < l.length := by rw [HN.out]; omega
  have hi := lastI_at hml HN.out
  obtain ⟨i1, _⟩ := HOK.out _ (List.getElem_mem hml)
  obtain ⟨g, o, rfl, hg, hcl⟩ := HA.out.pos (by omega)
  obtain ⟨c0, _⟩ := hcl m hml
  rw [f1, f2, hi]
  generalize l[m].id = v at c0 i1 ⊢
  unfold I64 at i1
  have g1 : (0 : Int) < ((m + 1 : Nat) : Int) := by omega
  have g1' : (0 : Int) < (m : Int) + 1 := by omega
  have g4 : IntKind.i64.wrap (((m + 1 : Nat) : Int) - 1) = (m : Int) := by rw [IntKind.wrap_i64]; omega
  have g5 : IntKind.i64.wrap ((m : Int) + 1 - 1) = (m : Int) := by rw [IntKind.wrap_i64]; omega
  have g6 : IntKind.i64.wrap (m : Int) = (m : Int) := by rw [IntKind.wrap_i64]; omega
  have g2 : (0 : Int) ≤ (m : Int) := by omega
  have g3 : (m : Int) < (m : Int) + 1 := by omega
  by_cases hv : 1073741824 ≤ v
  · rw [if_pos hv, if_pos hv]
    clear f1 f2 hi hc hcl
    go_enter Try.func25, Try.ntmps25
    go_wp2_with fail
    (with_reducible refine cC.mono ?_)
    rintro e w1 ⟨rfl, k1⟩
    have z0 := (k1.cell (p := ⟨g, o + m * 3, none⟩) hg).trans c0
    go_wp2
    go_ret2
    exact ⟨rfl, k1⟩
  · rw [if_neg hv, if_neg hv]
    have gw : IntKind.i64.wrap (v + 1) = v + 1 := by rw [IntKind.wrap_i64]; omega
    clear f1 f2 hi hc hcl
    go_enter Try.func25, Try.ntmps25
    go_wp2_with fail
    (with_reducible refine cC.mono ?_)
    rintro e w1 ⟨rfl, k1⟩
    have z0 := (k1.cell (p := ⟨g, o + m * 3, none⟩) hg).trans c0
    go_wp2
    go_ret2
    exact ⟨rfl, k1⟩
theorem grown_setC (W : World) (b i : Nat) (u : Value) : W.grownBy (W.setCell ⟨b, i, none⟩ u) (some b) :=
  ⟨rfl, rfl, rfl, by simp [World.setCell], fun k hk hne => Below.heap_setCell W ⟨b, i, none⟩ u k (by rintro rfl; exact hne rfl)⟩
theorem ObjAt.set {W : World} {b : Nat} {c : Array Value} {t : TypeId} (h : ObjAt W b c t) (k : Nat) (v : Value) : ObjAt (W.setCell ⟨b, k, none⟩ v) b (c.modify k (fun _ => v)) t := by
  obtain ⟨hlt, hk⟩ := Array.getElem?_eq_some_iff.1 h
  show (W.heap.modify b _)[b]? = _
  rw [Array.getElem?_eq_getElem (by rw [Array.size_modify]; exact hlt), Array.getElem_modify_self, hk]
  rfl
theorem row_setO {w : World} {base n sz b : Nat} {t : TypeId} {v : Value} {xs : List Value} (h : w.ownsRow base t sz v n xs) (hb : b < base) (i : Nat) (u : Value) : (w.setCell ⟨b, i, none⟩ u).ownsRow base t sz v n xs := by
  refine h.kept (grown_setC w b i u) ?_
  rcases h.2 with ⟨rfl, _⟩ | ⟨g, cap, cur, rfl, hg, _⟩
  · exact .inl rfl
  · right
    intro e
    injection e with e
    have e' : g = b := e
    omega
set_option maxRecDepth 100000 in
set_option maxHeartbeats 8000000 in
theorem samedec_any (a1 a2 b1 b2 : List Int) (n1 n2 m1 m2 : Nat) (hn1 : a1.length = n1) (hn2 : a2.length = n2) (hm1 : b1.length = m1) (hm2 : b2.length = m2) (l1 : n1 ≤ 1000) (l2 : n2 ≤ 1000) (l3 : m1 ≤ 1000) (l4 : m2 ≤ 1000)
    (A1 A2 B1 B2 : Option Addr) (c1 c2 d1 d2 : Nat) (w : World) (hA1 : NsAt w A1 a1) (hA2 : NsAt w A2 a2) (hB1 : NsAt w B1 b1) (hB2 : NsAt w B2 b2) :
    Calls Try.prog 32 #[.agg #[.slice A1 n1 c1, .slice A2 n2 c2], .agg #[.slice B1 m1 d1, .slice B2 m2 d2]] w fun e w' => e = .returned (.bool (decide (a1 = b1) && decide (a2 = b2))) ∧ Below w.heap.size w w' := by
  have K0 := (((Below.refl w.heap.size w).alloc (Nat.le_refl _) (.cells #[.slice A1 n1 c1, .slice A2 n2 c2] 60)).alloc (by simp) (.cells #[.slice B1 m1 d1, .slice B2 m2 d2] 60))
  have O1 := (ObjAt.new w #[.slice A1 n1 c1, .slice A2 n2 c2] 60).alloc (.cells #[.slice B1 m1 d1, .slice B2 m2 d2] 60)
  have O2 := ObjAt.new (w.alloc (.cells #[.slice A1 n1 c1, .slice A2 n2 c2] 60)) #[.slice B1 m1 d1, .slice B2 m2 d2] 60
  rw [World.size_alloc] at O2
  generalize hW : (w.alloc (.cells #[.slice A1 n1 c1, .slice A2 n2 c2] 60)).alloc (.cells #[.slice B1 m1 d1, .slice B2 m2 d2] 60) = W at K0 O1 O2
  have x1 := O1.a0
  have y1 := O2.a0
  have HO1 := Lib.hid O1
  have HO2 := Lib.hid O2
  have HK := Lib.hid K0
  have s0 := K0.size
  have cS := same_any a1 b1 n1 m1 hn1 hm1 l1 l3 A1 B1 c1 d1 W (hA1.below K0) (hB1.below K0)
  have CS2 := Lib.hid (fun w' (hb : Below W.heap.size W w') => same_any a2 b2 n2 m2 hn2 hm2 l2 l4 A2 B2 c2 d2 w' (hA2.below (K0.trans (hb.mono s0))) (hB2.below (K0.trans (hb.mono s0))))
  clear hA1 hA2 hB1 hB2 hn1 hn2 hm1 hm2 O1 O2 K0
  cases h1 : decide (a1 = b1) with
  | false =>
    rw [h1] at cS
    go_enter Try.func32, Try.ntmps32
    go_wp2_with fail
    (with_reducible refine cS.mono ?_)
    rintro e w1 ⟨rfl, k1⟩
    go_wp2
    go_ret
    exact ⟨rfl, HK.out.trans (k1.mono s0)⟩
  | true =>
    rw [h1] at cS
    generalize decide (a2 = b2) = q at *
    go_enter Try.func32, Try.ntmps32
    go_wp2_with fail
    (with_reducible refine cS.mono ?_)
    rintro e w1 ⟨rfl, k1⟩
    have x2 := (HO1.out.below k1).a1
    have y2 := (HO2.out.below k1).a1
    have cs := CS2.out w1 k1
    have s1 := k1.size
    go_wp2_with fail
    (with_reducible refine cs.mono ?_)
    rintro e w2 ⟨rfl, k2⟩
    go_wp2
    go_ret
    exact ⟨rfl, HK.out.trans ((k1.trans (k2.mono s1)).mono s0)⟩

set_option maxRecDepth 100000 in
set_option maxHeartbeats 8000000 in
theorem accept_any (l : List Rv) (n : Nat) (hn : l.length = n) (h1000 : n ≤ 1000) (hok : RsOk l) (A : Option Addr) (c : Nat) (f : Fl) (hf : FlOk f) (B : Option Addr) (d : Nat) (B' : Option Addr) (d' : Nat) (w : World) (hA : RsAt w A l) (hB : SsAt w B f.authors) (hB' : NsAt w B' f.ids) :
    Calls Try.prog 33 #[.slice A n c, flV f B d B' d'] w fun e w' => ∃ AA cbb, e = .returned (.agg #[.slice AA (srtU (selI f l)).length cbb, .slice none 0 0]) ∧ NsAt w' AA (srtU (selI f l)) ∧ Below w.heap.size w w' := by
  have k1 := (Below.refl w.heap.size w).alloc (Nat.le_refl _) (.cells #[.slice B f.authors.length d, .int .i64 f.frm, .int .i64 f.to, .slice B' f.ids.length d'] 52)
  have k2 := k1.alloc k1.size (.cells #[.slice none 0 0, .slice none 0 0] 60)
  have X2 := ObjAt.new (w.alloc (.cells #[.slice B f.authors.length d, .int .i64 f.frm, .int .i64 f.to, .slice B' f.ids.length d'] 52)) #[.slice none 0 0, .slice none 0 0] 60
  rw [World.size_alloc] at X2
  have cS := select_any l n hn h1000 hok A c f hf B d B' d' ((w.alloc (.cells #[.slice B f.authors.length d, .int .i64 f.frm, .int .i64 f.to, .slice B' f.ids.length d'] 52)).alloc (.cells #[.slice none 0 0, .slice none 0 0] 60)) (hA.below k2) (hB.below k2) (hB'.below k2)
  have K2 := Lib.hid k2
  have s2 := k2.size
  have HX := Lib.hid X2
  clear k1 k2 X2 hA hB hB' hn hok hf
  go_enter Try.func33, Try.ntmps33
  go_wp2_with fail
  (with_reducible refine cS.mono ?_)
  rintro e w1 ⟨AA, cbb, rfl, hr, k1⟩
  have X1 := HX.out.below k1
  have x0 := X1.a0
  have x1 := X1.a1
  have t0 := X1.frozen 0
  have t1 := X1.frozen 1
  have K3 := Lib.hid (K2.out.trans (k1.mono s2))
  have s3 := K3.out.size
  have hlt : w.heap.size + 1 < ((w.alloc (.cells #[.slice B f.authors.length d, .int .i64 f.frm, .int .i64 f.to, .slice B' f.ids.length d'] 52)).alloc (.cells #[.slice none 0 0, .slice none 0 0] 60)).heap.size := by simp
  have hv : Value.agg #[.slice AA (srtU (selI f l)).length cbb, .slice none 0 0] = .agg #[.slice AA (srtU (selI f l)).length cbb, .slice none 0 0] := rfl
  have r1 := row_setO (row_setO hr hlt 0 (.slice AA (srtU (selI f l)).length cbb)) hlt 1 (.slice none 0 0)
  have X3 := ObjAt.set (ObjAt.set X1 0 (.slice AA (srtU (selI f l)).length cbb)) 1 (.slice none 0 0)
  have q0 := X3.get (k := 0) (v := .slice AA (srtU (selI f l)).length cbb) (by simp)
  have q1 := X3.get (k := 1) (v := .slice none 0 0) (by simp)
  have KF := Lib.hid ((K3.out.setCell (p := ⟨w.heap.size + 1, 0, none⟩) (Nat.le_succ _) (.slice AA (srtU (selI f l)).length cbb)).setCell (p := ⟨w.heap.size + 1, 1, none⟩) (Nat.le_succ _) (.slice none 0 0))
  have HR := Lib.hid r1
  clear cS k1 r1 X3
  go_wp2
  obtain ⟨A9, c9, e9, _, _, hns⟩ := row_ns HR.out rfl
  injection e9 with z1 z2 z3
  subst z1 z3
  exact bodyPost_ret (v := .agg #[.slice AA (srtU (selI f l)).length cbb, .slice none 0 0]) (by simp [results, Try.results33, go_sem, q0, q1]) rfl ⟨AA, cbb, rfl, hns, KF.out⟩

set_option maxRecDepth 100000 in
set_option maxHeartbeats 8000000 in
theorem reject_any (l : List Rv) (n : Nat) (hn : l.length = n) (h1000 : n ≤ 1000) (hok : RsOk l) (A : Option Addr) (c : Nat) (f : Fl) (hf : FlOk f) (B : Option Addr) (d : Nat) (B' : Option Addr) (d' : Nat) (w : World) (hA : RsAt w A l) (hB : SsAt w B f.authors) (hB' : NsAt w B' f.ids) :
    Calls Try.prog 34 #[.slice A n c, flV f B d B' d'] w fun e w' => ∃ AA cbb, e = .returned (.agg #[.slice none 0 0, .slice AA (srtU (selI f l)).length cbb]) ∧ NsAt w' AA (srtU (selI f l)) ∧ Below w.heap.size w w' := by
  have k1 := (Below.refl w.heap.size w).alloc (Nat.le_refl _) (.cells #[.slice B f.authors.length d, .int .i64 f.frm, .int .i64 f.to, .slice B' f.ids.length d'] 52)
  have k2 := k1.alloc k1.size (.cells #[.slice none 0 0, .slice none 0 0] 60)
  have X2 := ObjAt.new (w.alloc (.cells #[.slice B f.authors.length d, .int .i64 f.frm, .int .i64 f.to, .slice B' f.ids.length d'] 52)) #[.slice none 0 0, .slice none 0 0] 60
  rw [World.size_alloc] at X2
  have cS := select_any l n hn h1000 hok A c f hf B d B' d' ((w.alloc (.cells #[.slice B f.authors.length d, .int .i64 f.frm, .int .i64 f.to, .slice B' f.ids.length d'] 52)).alloc (.cells #[.slice none 0 0, .slice none 0 0] 60)) (hA.below k2) (hB.below k2) (hB'.below k2)
  have K2 := Lib.hid k2
  have s2 := k2.size
  have HX := Lib.hid X2
  clear k1 k2 X2 hA hB hB' hn hok hf
  go_enter Try.func34, Try.ntmps34
  go_wp2_with fail
  (with_reducible refine cS.mono ?_)
  rintro e w1 ⟨AA, cbb, rfl, hr, k1⟩
  have X1 := HX.out.below k1
  have x0 := X1.a0
  have x1 := X1.a1
  have t0 := X1.frozen 0
  have t1 := X1.frozen 1
  have K3 := Lib.hid (K2.out.trans (k1.mono s2))
  have s3 := K3.out.size
  have hlt : w.heap.size + 1 < ((w.alloc (.cells #[.slice B f.authors.length d, .int .i64 f.frm, .int .i64 f.to, .slice B' f.ids.length d'] 52)).alloc (.cells #[.slice none 0 0, .slice none 0 0] 60)).heap.size := by simp
  have hv : Value.agg #[.slice none 0 0, .slice AA (srtU (selI f l)).length cbb] = .agg #[.slice none 0 0, .slice AA (srtU (selI f l)).length cbb] := rfl
  have r1 := row_setO (row_setO hr hlt 0 (.slice none 0 0)) hlt 1 (.slice AA (srtU (selI f l)).length cbb)
  have X3 := ObjAt.set (ObjAt.set X1 0 (.slice none 0 0)) 1 (.slice AA (srtU (selI f l)).length cbb)
  have q0 := X3.get (k := 0) (v := .slice none 0 0) (by simp)
  have q1 := X3.get (k := 1) (v := .slice AA (srtU (selI f l)).length cbb) (by simp)
  have KF := Lib.hid ((K3.out.setCell (p := ⟨w.heap.size + 1, 0, none⟩) (Nat.le_succ _) (.slice none 0 0)).setCell (p := ⟨w.heap.size + 1, 1, none⟩) (Nat.le_succ _) (.slice AA (srtU (selI f l)).length cbb))
  have HR := Lib.hid r1
  clear cS k1 r1 X3
  go_wp2
  obtain ⟨A9, c9, e9, _, _, hns⟩ := row_ns HR.out rfl
  injection e9 with z1 z2 z3
  subst z1 z3
  exact bodyPost_ret (v := .agg #[.slice none 0 0, .slice AA (srtU (selI f l)).length cbb]) (by simp [results, Try.results34, go_sem, q0, q1]) rfl ⟨AA, cbb, rfl, hns, KF.out⟩
end Go.Proofs.Ytmpklkhjipclmaa

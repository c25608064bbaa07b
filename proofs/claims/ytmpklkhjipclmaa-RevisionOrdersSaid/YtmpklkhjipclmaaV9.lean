/- Layer 22: oneOf (64, 68), and (63), what it hands back (80). -/
import Derived.Test.YtmpklkhjipclmaaV8
namespace Go.Proofs.Ytmpklkhjipclmaa
open Go.RowKit Go.Lib
set_option linter.unusedVariables false

/-- A filter. -/
structure Fl where
  authors : List ByteArray
  frm : Int
  to : Int
  ids : List Int

/-- The cells that a condition on a list holds. -/
def CndS (l : List ByteArray) (p q : Nat) (w : World) : Prop := ∃ b n, w.cell? ⟨p, 0, none⟩ = some (.map (some b)) ∧ w.cell? ⟨q, 0, none⟩ = some (.func (.func 65) #[] #[]) ∧ SetS w b n l
theorem CndS.below {l : List ByteArray} {p q : Nat} {w w' : World} (h : CndS l p q w) (hb : Below w.heap.size w w') : CndS l p q w' := by
  obtain ⟨b, n, h1, h2, h3⟩ := h
  exact ⟨b, n, (hb.cell (p := ⟨p, 0, none⟩) (World.block_lt_of_cell? w ⟨p, 0, none⟩ h1)).trans h1, (hb.cell (p := ⟨q, 0, none⟩) (World.block_lt_of_cell? w ⟨q, 0, none⟩ h2)).trans h2, h3.below h3.lt hb⟩
set_option maxRecDepth 100000 in
set_option maxHeartbeats 8000000 in
theorem CndS_any (l : List ByteArray) (n : Nat) (hn : l.length = n) (h1000 : n ≤ 1000) (hok : ∀ a ∈ l, a.size ≤ maxLen) (A : Option Addr) (c : Nat) (w : World) (hA : SsAt w A l) :
    Calls Try.prog 64 #[.slice A n c, .func (.func 65) #[] #[]] w fun e w' => ∃ p q, e = .returned (.func (.func 82) #[] #[.pointer (some ⟨p, 0, none⟩), .pointer (some ⟨q, 0, none⟩)]) ∧ CndS l p q w' ∧ Below w.heap.size w w' := by
  have b0 := (Below.refl w.heap.size w).alloc (Nat.le_refl _) (.cells #[.func (.func 65) #[] #[]] 99)
  have X0 := Lib.hid (Boxed.new w 99 (.func (.func 65) #[] #[]))
  have cS := setofs_any l n hn h1000 hok A c (w.alloc (.cells #[.func (.func 65) #[] #[]] 99)) (hA.below b0)
  have HB0 := Lib.hid b0
  have s0 := b0.size
  clear hn hok hA b0
  go_enter Try.func64, Try.ntmps64
  go_wp2_with fail
  (with_reducible refine cS.mono ?_)
  rintro e w1 ⟨b, m, rfl, hbb, hS, hm, k1⟩
  have K1 := Lib.hid (HB0.out.trans (k1.mono s0))
  have s1 := K1.out.size
  have X1 := Lib.hid (boxed_below X0.out k1)
  have HS := Lib.hid (hS.kept (World.grownBy_alloc w1 (.cells #[.map (some b)] 110) none) (by simp))
  have X2 := Lib.hid (Boxed.new w1 110 (.map (some b)))
  have X3 := Lib.hid (X1.out.alloc (.cells #[.map (some b)] 110))
  have K2 := Lib.hid (K1.out.alloc s1 (.cells #[.map (some b)] 110))
  clear cS k1 hS hbb
  go_wp2
  go_ret
  exact ⟨w1.heap.size, w.heap.size, rfl, ⟨b, m, X2.out.cell, X3.out.cell, HS.out⟩, K2.out⟩

/-- The cells that a condition on a list holds. -/
def CndI (l : List Int) (p q : Nat) (w : World) : Prop := ∃ b n, w.cell? ⟨p, 0, none⟩ = some (.map (some b)) ∧ w.cell? ⟨q, 0, none⟩ = some (.func (.func 69) #[] #[]) ∧ SetI w b n l
theorem CndI.below {l : List Int} {p q : Nat} {w w' : World} (h : CndI l p q w) (hb : Below w.heap.size w w') : CndI l p q w' := by
  obtain ⟨b, n, h1, h2, h3⟩ := h
  exact ⟨b, n, (hb.cell (p := ⟨p, 0, none⟩) (World.block_lt_of_cell? w ⟨p, 0, none⟩ h1)).trans h1, (hb.cell (p := ⟨q, 0, none⟩) (World.block_lt_of_cell? w ⟨q, 0, none⟩ h2)).trans h2, h3.below h3.lt hb⟩
set_option maxRecDepth 100000 in
set_option maxHeartbeats 8000000 in
theorem CndI_any (l : List Int) (n : Nat) (hn : l.length = n) (h1000 : n ≤ 1000) (hok : ∀ a ∈ l, I64 a) (A : Option Addr) (c : Nat) (w : World) (hA : NsAt w A l) :
    Calls Try.prog 68 #[.slice A n c, .func (.func 69) #[] #[]] w fun e w' => ∃ p q, e = .returned (.func (.func 83) #[] #[.pointer (some ⟨p, 0, none⟩), .pointer (some ⟨q, 0, none⟩)]) ∧ CndI l p q w' ∧ Below w.heap.size w w' := by
  have b0 := (Below.refl w.heap.size w).alloc (Nat.le_refl _) (.cells #[.func (.func 69) #[] #[]] 101)
  have X0 := Lib.hid (Boxed.new w 101 (.func (.func 69) #[] #[]))
  have cS := setofi_any l n hn h1000 hok A c (w.alloc (.cells #[.func (.func 69) #[] #[]] 101)) (hA.below b0)
  have HB0 := Lib.hid b0
  have s0 := b0.size
  clear hn hok hA b0
  go_enter Try.func68, Try.ntmps68
  go_wp2_with fail
  (with_reducible refine cS.mono ?_)
  rintro e w1 ⟨b, m, rfl, hbb, hS, hm, k1⟩
  have K1 := Lib.hid (HB0.out.trans (k1.mono s0))
  have s1 := K1.out.size
  have X1 := Lib.hid (boxed_below X0.out k1)
  have HS := Lib.hid (hS.kept (World.grownBy_alloc w1 (.cells #[.map (some b)] 71) none) (by simp))
  have X2 := Lib.hid (Boxed.new w1 71 (.map (some b)))
  have X3 := Lib.hid (X1.out.alloc (.cells #[.map (some b)] 71))
  have K2 := Lib.hid (K1.out.alloc s1 (.cells #[.map (some b)] 71))
  clear cS k1 hS hbb
  go_wp2
  go_ret
  exact ⟨w1.heap.size, w.heap.size, rfl, ⟨b, m, X2.out.cell, X3.out.cell, HS.out⟩, K2.out⟩

/-- Whether a filter selects a revision, part by part. -/
def selK (f : Fl) (x : Rv) : Nat → Bool
  | 0 => f.authors.isEmpty || decide (x.author ∈ f.authors)
  | 1 => decide (f.frm ≤ x.time)
  | 2 => f.to == 0 || decide (x.time ≤ f.to)
  | _ => f.ids.isEmpty || decide (x.id ∈ f.ids)
def selQ (f : Fl) (x : Rv) : Bool := selK f x 0 && (selK f x 1 && (selK f x 2 && selK f x 3))
/-- A condition in memory. -/
def CndAt (f : Fl) (cb : Nat) (w : World) : Prop := ∃ g fb p q p' q', w.cell? ⟨cb, 0, none⟩ = some (.slice (some ⟨g, 0, none⟩) 4 4) ∧
  w.cell? ⟨g, 0, none⟩ = some (.func (.func 82) #[] #[.pointer (some ⟨p, 0, none⟩), .pointer (some ⟨q, 0, none⟩)]) ∧ w.cell? ⟨g, 1, none⟩ = some (.func (.func 66) #[] #[.pointer (some ⟨fb, 0, none⟩)]) ∧
  w.cell? ⟨g, 2, none⟩ = some (.func (.func 67) #[] #[.pointer (some ⟨fb, 0, none⟩)]) ∧ w.cell? ⟨g, 3, none⟩ = some (.func (.func 83) #[] #[.pointer (some ⟨p', 0, none⟩), .pointer (some ⟨q', 0, none⟩)]) ∧
  w.cell? ⟨fb, 1, none⟩ = some (.int .i64 f.frm) ∧ w.cell? ⟨fb, 2, none⟩ = some (.int .i64 f.to) ∧ CndS f.authors p q w ∧ CndI f.ids p' q' w
theorem CndAt.below {f : Fl} {cb : Nat} {w w' : World} (h : CndAt f cb w) (hb : Below w.heap.size w w') : CndAt f cb w' := by
  obtain ⟨g, fb, p, q, p', q', h0, h1, h2, h3, h4, h5, h6, h7, h8⟩ := h
  have k : ∀ a v, w.cell? a = some v → w'.cell? a = some v := fun a v hv => (hb.cell (p := a) (World.block_lt_of_cell? w a hv)).trans hv
  exact ⟨g, fb, p, q, p', q', k _ _ h0, k _ _ h1, k _ _ h2, k _ _ h3, k _ _ h4, k _ _ h5, k _ _ h6, h7.below hb, h8.below hb⟩
theorem CndAt.lt {f : Fl} {cb : Nat} {w : World} (h : CndAt f cb w) : cb < w.heap.size := by
  obtain ⟨g, fb, p, q, p', q', h0, _⟩ := h
  exact World.block_lt_of_cell? w ⟨cb, 0, none⟩ h0
def PreK (f : Fl) (x : Rv) (k : Nat) : Prop := ∀ j, j < k → selK f x j = true
theorem PreK.succ {f : Fl} {x : Rv} {k : Nat} (h : PreK f x k) (h1 : selK f x k = true) : PreK f x (k + 1) := fun j hj => if e : j = k then by rw [e]; exact h1 else h j (by omega)
theorem selQ_yes {f : Fl} {x : Rv} (h : PreK f x 4) : selQ f x = true := by
  unfold selQ
  rw [h 0 (by omega), h 1 (by omega), h 2 (by omega), h 3 (by omega)]; rfl
theorem selQ_no {f : Fl} {x : Rv} {k : Nat} (hk : k < 4) (h : PreK f x k) (h1 : selK f x k = false) : selQ f x = false := by
  unfold selQ
  rcases (by omega : k = 0 ∨ k = 1 ∨ k = 2 ∨ k = 3) with rfl | rfl | rfl | rfl <;> rw [h1] <;> simp
set_option maxRecDepth 100000 in
set_option maxHeartbeats 16000000 in
theorem cond_any (f : Fl) (cb : Nat) (x : Rv) (hx1 : I64 x.id) (hx2 : x.author.size ≤ maxLen) (w : World) (h : CndAt f cb w) :
    Calls Try.prog 80 #[rvV x, .pointer (some ⟨cb, 0, none⟩)] w fun e w' => e = .returned (.bool (selQ f x)) ∧ Below w.heap.size w w' := by
  have hcb := h.lt
  have b0 := (Below.refl w.heap.size w).alloc (Nat.le_refl _) (.cells #[.int .i64 x.id, .string x.author, .int .i64 x.time] 23)
  have O0 := ObjAt.new w #[.int .i64 x.id, .string x.author, .int .i64 x.time] 23
  have C0 := h.below b0
  generalize hW : w.alloc (.cells #[.int .i64 x.id, .string x.author, .int .i64 x.time] 23) = W at b0 O0 C0
  have HW := Lib.hid hW
  obtain ⟨g, fb, p, q, p', q', h0, h1, h2, h3, h4, h5, h6, h7, h8⟩ := C0
  have kf : ∀ a v, W.cell? a = some v → ∀ w', Below W.heap.size W w' → w'.cell? a = some v := fun a v hv w' hb => (hb.cell (p := a) (World.block_lt_of_cell? W a hv)).trans hv
  have KF := Lib.hid kf
  have F0 := Lib.hid h0
  have F1 := Lib.hid h1
  have F2 := Lib.hid h2
  have F3 := Lib.hid h3
  have F4 := Lib.hid h4
  have C1 := Lib.hid (fun w' (hb : Below W.heap.size W w') => (by
    obtain ⟨b, n, a1, a2, a3⟩ := h7.below hb
    exact ones_any x hx2 f.authors p q b n w' a1 a2 a3 : Calls Try.prog 82 #[rvV x, .pointer (some ⟨p, 0, none⟩), .pointer (some ⟨q, 0, none⟩)] w' fun e w'' => e = .returned (.bool (selK f x 0)) ∧ Below w'.heap.size w' w''))
  have C2 := Lib.hid (fun w' (hb : Below W.heap.size W w') => (show Calls Try.prog 66 #[rvV x, .pointer (some ⟨fb, 0, none⟩)] w' fun e w'' => e = .returned (.bool (selK f x 1)) ∧ Below w'.heap.size w' w'' from f66_any x fb f.frm w' (kf _ _ h5 w' hb)))
  have C3 := Lib.hid (fun w' (hb : Below W.heap.size W w') => (show Calls Try.prog 67 #[rvV x, .pointer (some ⟨fb, 0, none⟩)] w' fun e w'' => e = .returned (.bool (selK f x 2)) ∧ Below w'.heap.size w' w'' from f67_any x fb f.to w' (kf _ _ h6 w' hb)))
  have C4 := Lib.hid (fun w' (hb : Below W.heap.size W w') => (by
    obtain ⟨b, n, a1, a2, a3⟩ := h8.below hb
    exact onei_any x hx1 f.ids p' q' b n w' a1 a2 a3 : Calls Try.prog 83 #[rvV x, .pointer (some ⟨p', 0, none⟩), .pointer (some ⟨q', 0, none⟩)] w' fun e w'' => e = .returned (.bool (selK f x 3)) ∧ Below w'.heap.size w' w''))
  have OX := Lib.hid O0
  have HB0 := Lib.hid b0
  have HC := Lib.hid (h.below ((Below.refl w.heap.size w).alloc (Nat.le_refl _) (.cells #[.int .i64 x.id, .string x.author, .int .i64 x.time] 23)))
  have hc1 := F0.out
  have s0 := b0.size
  clear h0 h1 h2 h3 h4 h5 h6 h7 h8 kf O0 h b0 HC
  generalize hq : selQ f x = Q
  have HQ := Lib.hid hq
  clear hq
  go_enter Try.func80, Try.ntmps80
  go_wp2_with fail
  go_loopw [5, 8] (fun _ s8 wr => ∃ k : Nat, k ≤ 4 ∧ s8 = .int .i64 (k : Nat) ∧ Hid (PreK f x k) ∧ Hid (Below W.heap.size W wr)) (fun _ s8 _ => 4 - (intOf s8).toNat)
  case atStart => exact ⟨0, Nat.zero_le _, rfl, Lib.hid (fun j h => absurd h (Nat.not_lt_zero _)), Lib.hid (by first | exact Below.refl _ _ | (rw [HW.out]; exact Below.refl _ _))⟩
  case round =>
    clear hc1
    obtain ⟨k, hk, rfl, HP, HB⟩ := hrel
    have x0 := (OX.out.below HB.out).b0
    have x1 := (OX.out.below HB.out).b1
    have x2 := (OX.out.below HB.out).b2
    have sB := HB.out.size
    rcases (by omega : k = 0 ∨ k = 1 ∨ k = 2 ∨ k = 3 ∨ k = 4) with rfl | rfl | rfl | rfl | rfl
    · have y := KF.out _ _ F1.out wr HB.out
      have cc := C1.out wr HB.out
      have HN := Lib.hid (fun (e : selK f x 0 = false) => (HQ.out.symm.trans (selQ_no (by omega) HP.out e)))
      have HS := Lib.hid (fun (e : selK f x 0 = true) => HP.out.succ e)
      cases hv : selK f x 0 with
      | false =>
        have HE := Lib.hid (HN.out hv)
        rw [hv] at cc
        clear HN HS hv
        go_wp2_with fail
        (with_reducible refine cc.mono ?_)
        rintro e w7 ⟨rfl, k7⟩
        have K7 := Lib.hid (HB0.out.trans ((HB.out.trans (k7.mono sB)).mono s0))
        clear cc k7
        go_wp2
        go_ret
        exact ⟨by rw [HE.out]; rfl, K7.out⟩
      | true =>
        have HE := Lib.hid (HS.out hv)
        rw [hv] at cc
        clear HN HS hv
        go_wp2_with fail
        (with_reducible refine cc.mono ?_)
        rintro e w7 ⟨rfl, k7⟩
        have K7 := Lib.hid (HB.out.trans (k7.mono sB))
        clear cc k7 x0 x1 x2 y
        go_wp2
        go_roundw
        case rel => exact ⟨1, by omega, rfl, HE, K7⟩
        case measure => simp [intOf]
    · have y := KF.out _ _ F2.out wr HB.out
      have cc := C2.out wr HB.out
      have HN := Lib.hid (fun (e : selK f x 1 = false) => (HQ.out.symm.trans (selQ_no (by omega) HP.out e)))
      have HS := Lib.hid (fun (e : selK f x 1 = true) => HP.out.succ e)
      cases hv : selK f x 1 with
      | false =>
        have HE := Lib.hid (HN.out hv)
        rw [hv] at cc
        clear HN HS hv
        go_wp2_with fail
        (with_reducible refine cc.mono ?_)
        rintro e w7 ⟨rfl, k7⟩
        have K7 := Lib.hid (HB0.out.trans ((HB.out.trans (k7.mono sB)).mono s0))
        clear cc k7
        go_wp2
        go_ret
        exact ⟨by rw [HE.out]; rfl, K7.out⟩
      | true =>
        have HE := Lib.hid (HS.out hv)
        rw [hv] at cc
        clear HN HS hv
        go_wp2_with fail
        (with_reducible refine cc.mono ?_)
        rintro e w7 ⟨rfl, k7⟩
        have K7 := Lib.hid (HB.out.trans (k7.mono sB))
        clear cc k7 x0 x1 x2 y
        go_wp2
        go_roundw
        case rel => exact ⟨2, by omega, rfl, HE, K7⟩
        case measure => simp [intOf]
    · have y := KF.out _ _ F3.out wr HB.out
      have cc := C3.out wr HB.out
      have HN := Lib.hid (fun (e : selK f x 2 = false) => (HQ.out.symm.trans (selQ_no (by omega) HP.out e)))
      have HS := Lib.hid (fun (e : selK f x 2 = true) => HP.out.succ e)
      cases hv : selK f x 2 with
      | false =>
        have HE := Lib.hid (HN.out hv)
        rw [hv] at cc
        clear HN HS hv
        go_wp2_with fail
        (with_reducible refine cc.mono ?_)
        rintro e w7 ⟨rfl, k7⟩
        have K7 := Lib.hid (HB0.out.trans ((HB.out.trans (k7.mono sB)).mono s0))
        clear cc k7
        go_wp2
        go_ret
        exact ⟨by rw [HE.out]; rfl, K7.out⟩
      | true =>
        have HE := Lib.hid (HS.out hv)
        rw [hv] at cc
        clear HN HS hv
        go_wp2_with fail
        (with_reducible refine cc.mono ?_)
        rintro e w7 ⟨rfl, k7⟩
        have K7 := Lib.hid (HB.out.trans (k7.mono sB))
        clear cc k7 x0 x1 x2 y
        go_wp2
        go_roundw
        case rel => exact ⟨3, by omega, rfl, HE, K7⟩
        case measure => simp [intOf]
    · have y := KF.out _ _ F4.out wr HB.out
      have cc := C4.out wr HB.out
      have HN := Lib.hid (fun (e : selK f x 3 = false) => (HQ.out.symm.trans (selQ_no (by omega) HP.out e)))
      have HS := Lib.hid (fun (e : selK f x 3 = true) => HP.out.succ e)
      cases hv : selK f x 3 with
      | false =>
        have HE := Lib.hid (HN.out hv)
        rw [hv] at cc
        clear HN HS hv
        go_wp2_with fail
        (with_reducible refine cc.mono ?_)
        rintro e w7 ⟨rfl, k7⟩
        have K7 := Lib.hid (HB0.out.trans ((HB.out.trans (k7.mono sB)).mono s0))
        clear cc k7
        go_wp2
        go_ret
        exact ⟨by rw [HE.out]; rfl, K7.out⟩
      | true =>
        have HE := Lib.hid (HS.out hv)
        rw [hv] at cc
        clear HN HS hv
        go_wp2_with fail
        (with_reducible refine cc.mono ?_)
        rintro e w7 ⟨rfl, k7⟩
        have K7 := Lib.hid (HB.out.trans (k7.mono sB))
        clear cc k7 x0 x1 x2 y
        go_wp2
        go_roundw
        case rel => exact ⟨4, by omega, rfl, HE, K7⟩
        case measure => simp [intOf]
    · have HE := Lib.hid (HQ.out.symm.trans (selQ_yes HP.out))
      go_wp2
      go_ret
      exact ⟨by rw [HE.out]; rfl, HB0.out.trans (HB.out.mono s0)⟩
end Go.Proofs.Ytmpklkhjipclmaa

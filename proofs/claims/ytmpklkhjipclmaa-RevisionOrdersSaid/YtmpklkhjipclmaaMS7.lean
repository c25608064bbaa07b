/- Layer 22: symMergeCmpFunc (82): the general case. -/
import Derived.Test.YtmpklkhjipclmaaMS6
import Derived.Deep.Cut
import Derived.Deep.DeepCutAuto
namespace Go.Proofs.Ytmpklkhjipclmaa
open Go.RowKit Go.Shelf Go.Lib Go.Sort Sm
variable {α : Type} [Inhabited α] {enc : α → List Value} {k : Nat} {blk off : Nat} {d0 : Array α} {w0 : World} {lt : α → α → Prop} {cf : α → α → Int}
set_option maxRecDepth 1000000 in
set_option maxHeartbeats 60000000 in
theorem symMerge_rest (o : Ord lt) (zE : ∀ w, (Go.sizeOf 23).run Try.prog w = .ok k w) (g : Nat) (cb : Array Value) (cap a m b : Nat) (d : Array α) (w : World) (R : RowK enc k w0 blk off d0) (hs : d0.size = d.size) (S : SWK enc k w0 blk off d w) (hI : SymIn lt cf d a m b) (hma : a + 1 < m) (hmb1 : m + 1 < b) (hsz : d.size < 4611686018427387904)
    (eg : ∀ args w, (callFunc g args).run Try.prog w = .ok (.enter g args) w) (hC : CmpLays Try.prog g cb enc k cf blk off d0.size w0)
    (IH : ∀ (a' m' b' : Nat) (dk : Array α) (wr : World), b' - a' < b - a → dk.size = d.size → SWK enc k w0 blk off dk wr → SymIn lt cf dk a' m' b' →
      Calls Try.prog 88 #[.slice (some ⟨blk, off, none⟩) d.size cap, .int .i64 a', .int .i64 m', .int .i64 b', .func (.func g) #[] cb] wr (SymOut lt enc k w0 blk off dk a' b')) :
    Calls Try.prog 88 #[.slice (some ⟨blk, off, none⟩) d.size cap, .int .i64 a, .int .i64 m, .int .i64 b, .func (.func g) #[] cb] w (SymOut lt enc k w0 blk off d a b) := by
  have O : Aside (Ord lt) := o
  have S0 : Aside (SWK enc k w0 blk off d w) := S
  have HI : Aside (SymIn lt cf d a m b) := hI
  have HC : Aside (CmpLays Try.prog g cb enc k cf blk off d0.size w0) := hC
  obtain ⟨ham, hmb, hbd, _, _, _⟩ := hI
  clear S hC o
  have C82 : Aside (∀ (a' m' b' : Nat) (dk : Array α) (wr : World), b' - a' < b - a → dk.size = d.size → SWK enc k w0 blk off dk wr → SymIn lt cf dk a' m' b' →
      Calls Try.prog 88 #[.slice (some ⟨blk, off, none⟩) d.size cap, .int .i64 a', .int .i64 m', .int .i64 b', .func (.func g) #[] cb] wr (SymOut lt enc k w0 blk off dk a' b')) := IH
  have C87 : Aside (∀ (a' m' b' : Nat) (wr : World), SWK enc k w0 blk off d wr → a' < m' → m' < b' → b' ≤ d.size →
      Calls Try.prog 105 #[.slice (some ⟨blk, off, none⟩) d.size cap, .int .i64 a', .int .i64 m', .int .i64 b', .func (.func g) #[] cb] wr fun e w' => e = .returned (.tuple #[]) ∧ ∃ d', d'.size = d.size ∧ Ix d' = rot (Ix d) a' m' b' ∧ SWK enc k w0 blk off d' w') :=
    fun a' m' b' wr h1 h2 h3 h4 => rotate_any zE g cb cap a' m' b' d wr R hs h1 h2 h3 h4 hsz
  clear IH
  obtain ⟨x, hx, hne⟩ : ∃ x : Int, (m : Int) - (a : Int) = x ∧ ¬ x = 1 := ⟨_, rfl, by omega⟩
  have hb1 : (x == 1) = false := by simpa using hne
  obtain ⟨y, hy, hney⟩ : ∃ x : Int, (b : Int) - (m : Int) = x ∧ ¬ x = 1 := ⟨_, rfl, by omega⟩
  have hb2 : (y == 1) = false := by simpa using hney
  obtain ⟨c0, hc0⟩ : ∃ c, c = (a + b) / 2 := ⟨_, rfl⟩
  have ez0 : ((a : Int) + (b : Int)) / 2 = (c0 : Int) := by omega
  have HC0 : Aside (c0 = (a + b) / 2) := hc0
  have hlh := lo_hi (Nat.le_of_lt ham) (Nat.le_of_lt hmb)
  obtain ⟨l, hl⟩ : ∃ l, l = lo a m b := ⟨_, rfl⟩
  obtain ⟨h, hh⟩ : ∃ h, h = hi a m b := ⟨_, rfl⟩
  rw [← hl, ← hh] at hlh
  obtain ⟨hal, hlh, hhm⟩ := hlh
  have LH : Aside ((l : Int) = (if c0 < m then (c0 : Int) + (m : Int) - (b : Int) else (a : Int)) ∧ (h : Int) = (if c0 < m then (c0 : Int) else (m : Int))) := by
    rw [hl, hh, hc0]
    unfold lo hi
    constructor
    · by_cases hq : (a + b) / 2 < m
      · rw [if_pos hq, if_pos hq]; omega
      · rw [if_neg hq, if_neg hq]
    · by_cases hq : (a + b) / 2 < m
      · rw [if_pos hq, if_pos hq]
      · rw [if_neg hq, if_neg hq]
  have hc0a : a ≤ c0 := by omega
  have hc0b : c0 < b := by omega
  have LO : Aside (l = lo a m b ∧ h = hi a m b) := ⟨hl, hh⟩
  clear hc0 hl hh
  have mixed : Try.prog.follows .mixedOrders = true := rfl
  have aE := Try.isAgg23
  go_enter Try.func88, Try.ntmps88
  go_upto_if 140 with fail
  go_cut [20, 21] from 138 (fun s20 s21 wc => s20 = .int .i64 (l : Int) ∧ s21 = .int .i64 (h : Int) ∧ Aside (SWK enc k w0 blk off d wc))
  case first =>
    have q := LH.out
    by_cases hm : c0 < m
    · have hmz : (c0 : Int) < (m : Int) := by omega
      rw [if_pos hm, if_pos hm] at q
      have Q1 : Aside _ := q
      clear q
      go_wp2_with fail
      go_meet
      case rel => exact ⟨by rw [Q1.out.1], by rw [Q1.out.2], S0⟩
    · have hmz : ¬ ((c0 : Int) < (m : Int)) := by omega
      rw [if_neg hm, if_neg hm] at q
      have Q1 : Aside _ := q
      clear q
      go_wp2_with fail
      go_meet
      case rel => exact ⟨by rw [Q1.out.1], by rw [Q1.out.2], S0⟩
  case rest =>
    clear S0 LH
    obtain ⟨rfl, rfl, S0⟩ := hcut
    go_wp2
    go_loopg [20, 21] (h - l) (fun kx s20 s21 wr => ∃ (i j : Nat), s20 = .int .i64 i ∧ s21 = .int .i64 j ∧ l ≤ i ∧ i ≤ j ∧ j ≤ h ∧ j - i ≤ kx ∧ Aside (Fnd cf d a m b i j) ∧ Aside (SWK enc k w0 blk off d wr))
    case atStart => exact ⟨l, h, rfl, rfl, by omega, by omega, by omega, by omega, by rw [LO.out.1, LO.out.2]; exact Fnd.start, S0⟩
    case round =>
      clear S0
      obtain ⟨i, j, rfl, rfl, hli, hij, hjh, hkx, HL, S1⟩ := hrel
      by_cases hlt : i < j
      · have hltz : (i : Int) < (j : Int) := by omega
        obtain ⟨c, hc⟩ : ∃ c, c = (i + j) / 2 := ⟨_, rfl⟩
        have hic : i ≤ c := by omega
        have hcj : c < j := by omega
        have ez : ((i : Int) + (j : Int)) / 2 = (c : Int) := by omega
        have ec : ((c : Int)).toNat = c := by omega
        have pc : (0 : Int) ≤ (c : Int) := by omega
        have bc : (c : Int) < (d.size : Int) := by omega
        have rc : IntKind.i64.wrap ((c : Int)) = (c : Int) := by rw [IntKind.wrap_i64]; omega
        obtain ⟨q, hq⟩ : ∃ q, q = c0 + m - 1 - c := ⟨_, rfl⟩
        have hcr := mirror (a := a) (m := m) (b := b) (c := c) (by omega) (by rw [← LO.out.1]; omega) (by rw [← LO.out.2]; omega)
        rw [← HC0.out, ← hq] at hcr
        obtain ⟨_, hcm, hmq, hqb⟩ := hcr
        have eq0 : (c0 : Int) + (m : Int) - 1 - (c : Int) = (q : Int) := by omega
        have HQ : Aside (q = (a + b) / 2 + m - 1 - c) := by rw [← HC0.out]; exact hq
        clear hq
        have ea : ((q : Int)).toNat = q := by omega
        have pa : (0 : Int) ≤ (q : Int) := by omega
        have ba : (q : Int) < (d.size : Int) := by omega
        have ra : IntKind.i64.wrap ((q : Int)) = (q : Int) := by rw [IntKind.wrap_i64]; omega
        clear hc
        obtain ⟨xv, hxv⟩ : ∃ x, x = d[q]! := ⟨_, rfl⟩
        obtain ⟨yv, hyv⟩ : ∃ x, x = d[c]! := ⟨_, rfl⟩
        have l1 := S1.out.ld R (by omega) Try.prog (q) (by omega)
        have l2 := S1.out.ld R (by omega) Try.prog (c) (by omega)
        rw [← hxv] at l1
        rw [← hyv] at l2
        have hcg := S1.out.cmp HC.out (by omega) xv yv
        have HX : Aside (xv = d[q]! ∧ yv = d[c]!) := ⟨hxv, hyv⟩
        clear hxv hyv
        by_cases hv : cf xv yv < 0
        · have hd : decide (cf xv yv < 0) = true := decide_eq_true hv
          have NX : Aside (Fnd cf d a m b i c) := by
            have h := HX.out
            rw [h.1, h.2, HQ.out] at hv
            exact HL.out.down hv
          go_wp2_with fail
          go_quiet_grown (first | (go_at_fn g; refine Calls.grown_of (hcg _ _)))
          have S2 : Aside (SWK enc k w0 blk off d (grow (wr.drewN nq) osq)) := S1.out.grown nq osq
          clear l1 l2 hcg S1
          generalize grow (wr.drewN nq) osq = w2 at S2 ⊢
          clear nq osq
          go_wp2
          go_roundg (c - i)
          case measure => omega
          case rel => exact ⟨i, c, rfl, rfl, by omega, by omega, by omega, by omega, NX, S2⟩
        · have hd : decide (cf xv yv < 0) = false := decide_eq_false hv
          have NX : Aside (Fnd cf d a m b (c + 1) j) := by
            have h := HX.out
            rw [h.1, h.2, HQ.out] at hv
            exact HL.out.up hv
          go_wp2_with fail
          go_quiet_grown (first | (go_at_fn g; refine Calls.grown_of (hcg _ _)))
          have S2 : Aside (SWK enc k w0 blk off d (grow (wr.drewN nq) osq)) := S1.out.grown nq osq
          clear l1 l2 hcg S1
          generalize grow (wr.drewN nq) osq = w2 at S2 ⊢
          clear nq osq
          go_wp2
          go_roundg (j - (c + 1))
          case measure => omega
          case rel => exact ⟨c + 1, j, by first | rfl | go_num | simp, rfl, by omega, by omega, by omega, by omega, NX, S2⟩
      · have hltz : ¬ ((i : Int) < (j : Int)) := by omega
        obtain rfl : i = j := by omega
        have HF : Aside (Sm.Found (fun x y => cf x y < 0) (Ix d) a m b i) := HL.out.found (by rw [← LO.out.1]; omega) (by rw [← LO.out.2]; omega)
        clear HL
        have hrg := HF.out.range (Nat.le_of_lt ham) (Nat.le_of_lt hmb)
        obtain ⟨e, he⟩ : ∃ e, e = fin a m b i := ⟨_, rfl⟩
        rw [← he] at hrg
        have hee : (c0 : Int) + (m : Int) - (i : Int) = (e : Int) := by
          have h1 : fin a m b i = (a + b) / 2 + m - i := rfl
          have h2 := HC0.out
          omega
        have HE : Aside (e = fin a m b i) := he
        clear he
        obtain ⟨hai, him, hme, heb⟩ := hrg
        by_cases q1 : i < m
        · by_cases q2 : m < e
          · by_cases q3 : a < i
            · by_cases q4 : e < b
              · skip
                have z1 : (i : Int) < (m : Int) := by omega
                have z2 : (m : Int) < (e : Int) := by omega
                have z3 : (i : Int) < (c0 : Int) := by omega
                have z4 : (c0 : Int) < (e : Int) := by omega
                have z5 : (a : Int) < (i : Int) := by omega
                have z6 : (e : Int) < (b : Int) := by omega
                have c1 := C87.out i m e wr S1.out (by omega) (by omega) (by omega)
                clear S1
                go_upto_if 199 with (go_at_call 105; refine c1.mono ?_; rintro e1 w1 ⟨rfl, d1, hs1, hr1, hw1⟩)
                have S2 : Aside (SWK enc k w0 blk off d1 w1) := hw1
                have RT : Aside (Rotd lt cf d a m b i d1) := ⟨HI.out, HF.out, hs1, by rw [← HE.out]; exact hr1⟩
                clear hw1 hs1 hr1
                have c2 := C82.out a i c0 d1 _ (by omega) RT.out.sz S2.out (by have h := RT.out.left (by omega) (by rw [← HC0.out]; omega); rw [← HC0.out] at h; exact h)
                have c3 : Aside (∀ (d2 : Array α) (w2 : World), d2.size = d1.size → Merged lt (Ix d1) (Ix d2) a c0 → SWK enc k w0 blk off d2 w2 → Calls Try.prog 88 #[.slice (some ⟨blk, off, none⟩) d.size cap, .int .i64 c0, .int .i64 e, .int .i64 b, .func (.func g) #[] cb] w2 (SymOut lt enc k w0 blk off d2 c0 b)) :=
                  fun d2 w2 q1 q2 q3 => C82.out c0 e b d2 w2 (by omega) (q1.trans RT.out.sz) q3 (by have h := RT.out.right (by rw [← HC0.out]; exact q2) (q1.trans RT.out.sz) (by rw [← HC0.out, ← HE.out]; omega) (by rw [← HE.out]; omega); rw [← HC0.out, ← HE.out] at h; exact h)
                clear C82 C87 HF
                go_wp2_with (go_at_call 88; first | ((with_reducible refine c2.mono ?_); rintro e2 w2 ⟨rfl, d2, hs2, hm2, hw2⟩) | ((with_reducible refine (c3.out d2 w2 hs2 hm2 hw2).mono ?_); rintro e3 w3 ⟨rfl, d3, hs3, hm3, hw3⟩) | fail)
                go_end0
                exact ⟨rfl, d3, by rw [hs3, hs2, RT.out.sz], RT.out.done O.out (by rw [← HC0.out]; exact hm2) (by rw [← HC0.out]; exact hm3), hw3⟩
              · skip
                have z1 : (i : Int) < (m : Int) := by omega
                have z2 : (m : Int) < (e : Int) := by omega
                have z3 : (i : Int) < (c0 : Int) := by omega
                have z4 : (c0 : Int) < (e : Int) := by omega
                have z5 : (a : Int) < (i : Int) := by omega
                have z6 : ¬ (e : Int) < (b : Int) := by omega
                have c1 := C87.out i m e wr S1.out (by omega) (by omega) (by omega)
                clear S1
                go_upto_if 199 with (go_at_call 105; refine c1.mono ?_; rintro e1 w1 ⟨rfl, d1, hs1, hr1, hw1⟩)
                have S2 : Aside (SWK enc k w0 blk off d1 w1) := hw1
                have RT : Aside (Rotd lt cf d a m b i d1) := ⟨HI.out, HF.out, hs1, by rw [← HE.out]; exact hr1⟩
                clear hw1 hs1 hr1
                have c2 := C82.out a i c0 d1 _ (by omega) RT.out.sz S2.out (by have h := RT.out.left (by omega) (by rw [← HC0.out]; omega); rw [← HC0.out] at h; exact h)
                clear C82 C87 HF
                go_wp2_with (go_at_call 88; refine c2.mono ?_; rintro e2 w2 ⟨rfl, d2, hs2, hm2, hw2⟩)
                go_end0
                exact ⟨rfl, d2, by rw [hs2, RT.out.sz], RT.out.done O.out (by rw [← HC0.out]; exact hm2) (RT.out.right_same (by rw [← HC0.out]; exact hm2) (by rw [← HC0.out, ← HE.out]; omega)), hw2⟩
            · by_cases q4 : e < b
              · skip
                have z1 : (i : Int) < (m : Int) := by omega
                have z2 : (m : Int) < (e : Int) := by omega
                have z3 : (i : Int) < (c0 : Int) := by omega
                have z4 : (c0 : Int) < (e : Int) := by omega
                have z5 : ¬ (a : Int) < (i : Int) := by omega
                have z6 : (e : Int) < (b : Int) := by omega
                have c1 := C87.out i m e wr S1.out (by omega) (by omega) (by omega)
                clear S1
                go_upto_if 199 with (go_at_call 105; refine c1.mono ?_; rintro e1 w1 ⟨rfl, d1, hs1, hr1, hw1⟩)
                have S2 : Aside (SWK enc k w0 blk off d1 w1) := hw1
                have RT : Aside (Rotd lt cf d a m b i d1) := ⟨HI.out, HF.out, hs1, by rw [← HE.out]; exact hr1⟩
                clear hw1 hs1 hr1
                have M2 : Aside (Merged lt (Ix d1) (Ix d1) a c0) := by have h := RT.out.left_same (by rw [← HC0.out]; omega); rw [← HC0.out] at h; exact h
                have c3 := C82.out c0 e b d1 _ (by omega) RT.out.sz S2.out (by have h := RT.out.right (by rw [← HC0.out]; exact M2.out) RT.out.sz (by rw [← HC0.out, ← HE.out]; omega) (by rw [← HE.out]; omega); rw [← HC0.out, ← HE.out] at h; exact h)
                clear C82 C87 HF
                go_wp2_with (go_at_call 88; refine c3.mono ?_; rintro e3 w3 ⟨rfl, d3, hs3, hm3, hw3⟩)
                go_end0
                exact ⟨rfl, d3, by rw [hs3, RT.out.sz], RT.out.done O.out (by rw [← HC0.out]; exact M2.out) (by rw [← HC0.out]; exact hm3), hw3⟩
              · skip
                have z1 : (i : Int) < (m : Int) := by omega
                have z2 : (m : Int) < (e : Int) := by omega
                have z3 : (i : Int) < (c0 : Int) := by omega
                have z4 : (c0 : Int) < (e : Int) := by omega
                have z5 : ¬ (a : Int) < (i : Int) := by omega
                have z6 : ¬ (e : Int) < (b : Int) := by omega
                have c1 := C87.out i m e wr S1.out (by omega) (by omega) (by omega)
                clear S1
                go_upto_if 199 with (go_at_call 105; refine c1.mono ?_; rintro e1 w1 ⟨rfl, d1, hs1, hr1, hw1⟩)
                have S2 : Aside (SWK enc k w0 blk off d1 w1) := hw1
                have RT : Aside (Rotd lt cf d a m b i d1) := ⟨HI.out, HF.out, hs1, by rw [← HE.out]; exact hr1⟩
                clear hw1 hs1 hr1
                have M2 : Aside (Merged lt (Ix d1) (Ix d1) a c0) := by have h := RT.out.left_same (by rw [← HC0.out]; omega); rw [← HC0.out] at h; exact h
                clear C82 C87 HF
                go_wp2
                go_end0
                exact ⟨rfl, d1, RT.out.sz, RT.out.done O.out (by rw [← HC0.out]; exact M2.out) (RT.out.right_same (by rw [← HC0.out]; exact M2.out) (by rw [← HC0.out, ← HE.out]; omega)), S2.out⟩
          · by_cases q3 : a < i
            · skip
              have z1 : (i : Int) < (m : Int) := by omega
              have z2 : ¬ (m : Int) < (e : Int) := by omega
              have z3 : ¬ (i : Int) < (c0 : Int) := by omega
              have z4 : (c0 : Int) < (e : Int) := by omega
              have z6 : (e : Int) < (b : Int) := by omega
              have z5 : (a : Int) < (i : Int) := by omega
              have RT : Aside (Rotd lt cf d a m b i d) := Rotd.none HI.out HF.out (by rw [← HE.out]; omega)
              have M2 : Aside (Merged lt (Ix d) (Ix d) a c0) := by have h := RT.out.left_same (by rw [← HC0.out]; omega); rw [← HC0.out] at h; exact h
              have c3 := C82.out c0 e b d _ (by omega) RT.out.sz S1.out (by have h := RT.out.right (by rw [← HC0.out]; exact M2.out) RT.out.sz (by rw [← HC0.out, ← HE.out]; omega) (by rw [← HE.out]; omega); rw [← HC0.out, ← HE.out] at h; exact h)
              clear C82 C87 HF
              go_wp2_with (go_at_call 88; refine c3.mono ?_; rintro e3 w3 ⟨rfl, d3, hs3, hm3, hw3⟩)
              go_end0
              exact ⟨rfl, d3, by rw [hs3, RT.out.sz], RT.out.done O.out (by rw [← HC0.out]; exact M2.out) (by rw [← HC0.out]; exact hm3), hw3⟩
            · skip
              have z1 : (i : Int) < (m : Int) := by omega
              have z2 : ¬ (m : Int) < (e : Int) := by omega
              have z3 : ¬ (i : Int) < (c0 : Int) := by omega
              have z4 : (c0 : Int) < (e : Int) := by omega
              have z6 : (e : Int) < (b : Int) := by omega
              have z5 : ¬ (a : Int) < (i : Int) := by omega
              have RT : Aside (Rotd lt cf d a m b i d) := Rotd.none HI.out HF.out (by rw [← HE.out]; omega)
              have M2 : Aside (Merged lt (Ix d) (Ix d) a c0) := by have h := RT.out.left_same (by rw [← HC0.out]; omega); rw [← HC0.out] at h; exact h
              have c3 := C82.out c0 e b d _ (by omega) RT.out.sz S1.out (by have h := RT.out.right (by rw [← HC0.out]; exact M2.out) RT.out.sz (by rw [← HC0.out, ← HE.out]; omega) (by rw [← HE.out]; omega); rw [← HC0.out, ← HE.out] at h; exact h)
              clear C82 C87 HF
              go_wp2_with (go_at_call 88; refine c3.mono ?_; rintro e3 w3 ⟨rfl, d3, hs3, hm3, hw3⟩)
              go_end0
              exact ⟨rfl, d3, by rw [hs3, RT.out.sz], RT.out.done O.out (by rw [← HC0.out]; exact M2.out) (by rw [← HC0.out]; exact hm3), hw3⟩
        · by_cases q3 : i < c0
          · skip
            have z1 : ¬ (i : Int) < (m : Int) := by omega
            have z4 : ¬ (c0 : Int) < (e : Int) := by omega
            have z5 : (a : Int) < (i : Int) := by omega
            have z3 : (i : Int) < (c0 : Int) := by omega
            have RT : Aside (Rotd lt cf d a m b i d) := Rotd.none HI.out HF.out (by rw [← HE.out]; omega)
            have c2 := C82.out a i c0 d _ (by omega) RT.out.sz S1.out (by have h := RT.out.left (by omega) (by rw [← HC0.out]; omega); rw [← HC0.out] at h; exact h)
            clear C82 C87 HF
            go_wp2_with (go_at_call 88; refine c2.mono ?_; rintro e2 w2 ⟨rfl, d2, hs2, hm2, hw2⟩)
            go_end0
            exact ⟨rfl, d2, by rw [hs2, RT.out.sz], RT.out.done O.out (by rw [← HC0.out]; exact hm2) (RT.out.right_same (by rw [← HC0.out]; exact hm2) (by rw [← HC0.out, ← HE.out]; omega)), hw2⟩
          · skip
            have z1 : ¬ (i : Int) < (m : Int) := by omega
            have z4 : ¬ (c0 : Int) < (e : Int) := by omega
            have z5 : (a : Int) < (i : Int) := by omega
            have z3 : ¬ (i : Int) < (c0 : Int) := by omega
            have RT : Aside (Rotd lt cf d a m b i d) := Rotd.none HI.out HF.out (by rw [← HE.out]; omega)
            have M2 : Aside (Merged lt (Ix d) (Ix d) a c0) := by have h := RT.out.left_same (by rw [← HC0.out]; omega); rw [← HC0.out] at h; exact h
            clear C82 C87 HF
            go_wp2
            go_end0
            exact ⟨rfl, d, RT.out.sz, RT.out.done O.out (by rw [← HC0.out]; exact M2.out) (RT.out.right_same (by rw [← HC0.out]; exact M2.out) (by rw [← HC0.out, ← HE.out]; omega)), S1.out⟩
end Go.Proofs.Ytmpklkhjipclmaa

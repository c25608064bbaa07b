/- Layer 22: symMergeCmpFunc (82): a left piece of one element. -/
import Derived.Test.YtmpklkhjipclmaaMS3
namespace Go.Proofs.Ytmpklkhjipclmaa
open Go.RowKit Go.Shelf Go.Lib Go.Sort Sm
variable {α : Type} [Inhabited α] {enc : α → List Value} {k : Nat} {blk off : Nat} {d0 : Array α} {w0 : World} {lt : α → α → Prop} {cf : α → α → Int}
set_option maxRecDepth 1000000 in
set_option maxHeartbeats 8000000 in
theorem symMerge_left (o : Ord lt) (zE : ∀ w, (Go.sizeOf 23).run Try.prog w = .ok k w) (g : Nat) (cb : Array Value) (cap a m b : Nat) (d : Array α) (w : World) (R : RowK enc k w0 blk off d0) (hs : d0.size = d.size) (S : SWK enc k w0 blk off d w) (hI : SymIn lt cf d a m b) (hm : m = a + 1) (hsz : d.size < 4611686018427387904)
    (eg : ∀ args w, (callFunc g args).run Try.prog w = .ok (.enter g args) w) (hC : CmpLays Try.prog g cb enc k cf blk off d0.size w0) :
    Calls Try.prog 88 #[.slice (some ⟨blk, off, none⟩) d.size cap, .int .i64 a, .int .i64 m, .int .i64 b, .func (.func g) #[] cb] w (SymOut lt enc k w0 blk off d a b) := by
  have O : Aside (Ord lt) := o
  have S0 : Aside (SWK enc k w0 blk off d w) := S
  have HI : Aside (SymIn lt cf d a m b) := hI
  have HC : Aside (CmpLays Try.prog g cb enc k cf blk off d0.size w0) := hC
  obtain ⟨ham, hmb, hbd, _, _, _⟩ := hI
  clear S hC o
  have mixed : Try.prog.follows .mixedOrders = true := rfl
  have aE := Try.isAgg23
  go_enter Try.func88, Try.ntmps88
  have e1 : (m : Int) - (a : Int) = 1 := by omega
  have HM : Aside (m = a + 1) := hm
  clear hm
  go_wp2
  go_loopg [10, 11] (b - m) (fun kx s10 s11 wr => ∃ (i j : Nat), s10 = .int .i64 i ∧ s11 = .int .i64 j ∧ m ≤ i ∧ i ≤ j ∧ j ≤ b ∧ j - i ≤ kx ∧ Aside (SL lt d a m b i j) ∧ Aside (SWK enc k w0 blk off d wr))
  case atStart => exact ⟨m, b, rfl, rfl, by omega, by omega, by omega, by omega, SL.start, S0⟩
  case round =>
    clear S0
    obtain ⟨i, j, rfl, rfl, hai, hij, hjb, hkx, HL, S1⟩ := hrel
    by_cases hlt : i < j
    · have hltz : (i : Int) < (j : Int) := by omega
      obtain ⟨c, hc⟩ : ∃ c, c = (i + j) / 2 := ⟨_, rfl⟩
      have hic : i ≤ c := by omega
      have hcj : c < j := by omega
      have ez : ((i : Int) + (j : Int)) / 2 = (c : Int) := by omega
      have ec : ((c : Int)).toNat = c := by omega
      have pc : (0 : Int) ≤ (c : Int) := by omega
      have bc : (c : Int) < (d.size : Int) := by omega
      have rc : IntKind.i64.wrap ((c : Int)) = (c : Int) := by rw [IntKind.wrap_i64]; omega
      have ea : ((a : Int)).toNat = a := by omega
      have pa : (0 : Int) ≤ (a : Int) := by omega
      have ba : (a : Int) < (d.size : Int) := by omega
      have ra : IntKind.i64.wrap ((a : Int)) = (a : Int) := by rw [IntKind.wrap_i64]; omega
      clear hc
      obtain ⟨xv, hxv⟩ : ∃ x, x = d[c]! := ⟨_, rfl⟩
      obtain ⟨yv, hyv⟩ : ∃ x, x = d[a]! := ⟨_, rfl⟩
      have l1 := S1.out.ld R (by omega) Try.prog (c) (by omega)
      have l2 := S1.out.ld R (by omega) Try.prog (a) (by omega)
      rw [← hxv] at l1
      rw [← hyv] at l2
      have hcg := S1.out.cmp HC.out (by omega) xv yv
      have HX : Aside (xv = d[c]! ∧ yv = d[a]!) := ⟨hxv, hyv⟩
      clear hxv hyv
      by_cases hv : cf xv yv < 0
      · have hd : decide (cf xv yv < 0) = true := decide_eq_true hv
        have NX : Aside (SL lt d a m b (c + 1) j) := by
          have h := HX.out
          rw [h.1, h.2] at hv
          exact HL.out.up O.out HI.out.sr HI.out.cr HI.out.am (by omega) hic hcj (by omega) hv
        go_wp2_with fail
        go_quiet_grown (first | (go_at_fn g; refine Calls.grown_of (hcg _ _)))
        have S2 : Aside (SWK enc k w0 blk off d (grow (wr.drewN nq) osq)) := S1.out.grown nq osq
        clear l1 l2 hcg S1
        generalize grow (wr.drewN nq) osq = w2 at S2 ⊢
        clear nq osq
        go_wp2
        go_roundg (j - (c + 1))
        case measure => omega
        case rel => exact ⟨c + 1, j, by first | rfl | go_num | simp, rfl, by omega, by omega, by omega, by omega, NX, S2⟩
      · have hd : decide (cf xv yv < 0) = false := decide_eq_false hv
        have NX : Aside (SL lt d a m b i c) := by
          have h := HX.out
          rw [h.1, h.2] at hv
          exact HL.out.down O.out HI.out.sr HI.out.cr HI.out.am (by omega) hic hcj (by omega) hv
        go_wp2_with fail
        go_quiet_grown (first | (go_at_fn g; refine Calls.grown_of (hcg _ _)))
        have S2 : Aside (SWK enc k w0 blk off d (grow (wr.drewN nq) osq)) := S1.out.grown nq osq
        clear l1 l2 hcg S1
        generalize grow (wr.drewN nq) osq = w2 at S2 ⊢
        clear nq osq
        go_wp2
        go_roundg (c - i)
        case measure => omega
        case rel => exact ⟨i, c, rfl, rfl, by omega, by omega, by omega, by omega, NX, S2⟩
    · have hltz : ¬ ((i : Int) < (j : Int)) := by omega
      obtain rfl : i = j := by omega
      go_wp2
      go_loopg [13] (i - 1 - a) (fun kx s13 wr => ∃ (q : Nat) (dk : Array α), s13 = .int .i64 q ∧ a ≤ q ∧ q + 1 ≤ i ∧ i - 1 - q ≤ kx ∧ dk.size = d.size ∧ Aside (Ix dk = rot (Ix d) a m (q + 1)) ∧ Aside (SWK enc k w0 blk off dk wr))
      case atStart => exact ⟨a, d, rfl, Nat.le_refl _, by have := HM.out; omega, by omega, rfl, by rw [← HM.out]; exact (rot_none_right _ _ _).symm, S1⟩
      case round =>
        clear S1
        obtain ⟨q, dk, rfl, haq, hqi, hkx2, hds, HR, S1⟩ := hrel
        by_cases hlt2 : q + 1 < i
        · have hltz2 : (q : Int) < (i : Int) - 1 := by omega
          have ea : (((q : Int) : Int)).toNat = q := by omega
          have pa : (0 : Int) ≤ ((q : Int) : Int) := by omega
          have ba : ((q : Int) : Int) < (d.size : Int) := by omega
          have ra : IntKind.i64.wrap (((q : Int) : Int)) = ((q : Int) : Int) := by rw [IntKind.wrap_i64]; omega
          have eb : (((q : Int) + 1 : Int)).toNat = q + 1 := by omega
          have pb : (0 : Int) ≤ ((q : Int) + 1 : Int) := by omega
          have bb : ((q : Int) + 1 : Int) < (d.size : Int) := by omega
          have rb : IntKind.i64.wrap (((q : Int) + 1 : Int)) = ((q : Int) + 1 : Int) := by rw [IntKind.wrap_i64]; omega
          have S2 : Aside (SWK enc k w0 blk off (swp dk (q) (q + 1)) ((wr.drew.setCells blk (off + (q) * k) (enc dk[q + 1]!)).setCells blk (off + (q + 1) * k) (enc dk[q]!))) := S1.out.swapped R (q) (q + 1) (by omega) (by omega)
          have l1 := S1.out.ld1 R (by omega) Try.prog (q) (by omega)
          have l2 := S1.out.ld1 R (by omega) Try.prog (q + 1) (by omega)
          have s1 := S1.out.st1 R (by omega) Try.prog (q) (by omega) dk[q + 1]!
          have s2 := S1.out.st2 R (by omega) Try.prog (q) (q + 1) (by omega) (by omega) dk[q + 1]! dk[q]!
          have n1 : (enc dk[q]!).length = k := R.hk _
          have n2 : (enc dk[q + 1]!).length = k := R.hk _
          generalize enc dk[q]! = cI at S2 l1 s2 n1
          generalize enc dk[q + 1]! = cJ at S2 l2 s1 s2 n2
          clear S1
          go_wp2_with fail
          go_big_region_o
          clear l1 l2 s1 s2
          generalize (wr.drew.setCells blk (off + (q) * k) cJ).setCells blk (off + (q + 1) * k) cI = w2 at S2 ⊢
          go_wp2
          go_roundg (i - 1 - (q + 1))
          case measure => omega
          case rel => exact ⟨q + 1, swp dk q (q + 1), by first | rfl | go_num | simp, by omega, by omega, by omega, by rw [size_swp]; exact hds, by have h := HR.out; rw [HM.out] at h ⊢; exact rot_bubble_right d dk haq (by omega) h, S2⟩
        · have hltz2 : ¬ ((q : Int) < (i : Int) - 1) := by omega
          obtain rfl : i = q + 1 := by omega
          go_wp2
          go_end0
          refine ⟨rfl, dk, hds, ?_, S1.out⟩
          rw [HR.out]
          have h := HM.out
          subst h
          exact HL.out.merged hai hjb HI.out.sl HI.out.sr
end Go.Proofs.Ytmpklkhjipclmaa

/- Layer 22: symMergeCmpFunc (82): a right piece of one element. -/
import Derived.Test.YtmpklkhjipclmaaMS3
namespace Go.Proofs.Ytmpklkhjipclmaa
open Go.RowKit Go.Shelf Go.Lib Go.Sort Sm
variable {α : Type} [Inhabited α] {enc : α → List Value} {k : Nat} {blk off : Nat} {d0 : Array α} {w0 : World} {lt : α → α → Prop} {cf : α → α → Int}
set_option maxRecDepth 1000000 in
set_option maxHeartbeats 8000000 in
theorem symMerge_right (o : Ord lt) (zE : ∀ w, (Go.sizeOf 23).run Try.prog w = .ok k w) (g : Nat) (cb : Array Value) (cap a m b : Nat) (d : Array α) (w : World) (R : RowK enc k w0 blk off d0) (hs : d0.size = d.size) (S : SWK enc k w0 blk off d w) (hI : SymIn lt cf d a m b) (ham1 : a + 1 < m) (hb : b = m + 1) (hsz : d.size < 4611686018427387904)
    (eg : ∀ args w, (callFunc g args).run Try.prog w = .ok (.enter g args) w) (hC : CmpLays Try.prog g cb enc k cf blk off d0.size w0) :
    Calls Try.prog 88 #[.slice (some ⟨blk, off, none⟩) d.size cap, .int .i64 a, .int .i64 m, .int .i64 b, .func (.func g) #[] cb] w (SymOut lt enc k w0 blk off d a b) := by
  have O : Aside (Ord lt) := o
  have S0 : Aside (SWK enc k w0 blk off d w) := S
  have HI : Aside (SymIn lt cf d a m b) := hI
  have HC : Aside (CmpLays Try.prog g cb enc k cf blk off d0.size w0) := hC
  obtain ⟨ham, hmb, hbd, _, _, _⟩ := hI
  clear S hC o
  have mixed : Try.prog.follows .mixedOrders = true := rfl
  have aE := Try.isAgg23
  go_enter Try.func88, Try.ntmps88
  have e1 : (b : Int) - (m : Int) = 1 := by omega
  obtain ⟨x, hx, hne⟩ : ∃ x : Int, (m : Int) - (a : Int) = x ∧ ¬ x = 1 := ⟨_, rfl, by omega⟩
  have hb1 : (x == 1) = false := by simpa using hne
  have HB : Aside (b = m + 1) := hb
  clear hb
  go_wp2
  go_loopg [14, 15] (m - a) (fun kx s14 s15 wr => ∃ (i j : Nat), s14 = .int .i64 i ∧ s15 = .int .i64 j ∧ a ≤ i ∧ i ≤ j ∧ j ≤ m ∧ j - i ≤ kx ∧ Aside (SR lt d a m i j) ∧ Aside (SWK enc k w0 blk off d wr))
  case atStart => exact ⟨a, m, rfl, rfl, by omega, by omega, by omega, by omega, SR.start, S0⟩
  case round =>
    clear S0
    obtain ⟨i, j, rfl, rfl, hai, hij, hjb, hkx, HL, S1⟩ := hrel
    by_cases hlt : i < j
    · have hltz : (i : Int) < (j : Int) := by omega
      obtain ⟨c, hc⟩ : ∃ c, c = (i + j) / 2 := ⟨_, rfl⟩
      have hic : i ≤ c := by omega
      have hcj : c < j := by omega
      have ez : ((i : Int) + (j : Int)) / 2 = (c : Int) := by omega
      have ec : ((c : Int)).toNat = c := by omega
      have pc : (0 : Int) ≤ (c : Int) := by omega
      have bc : (c : Int) < (d.size : Int) := by omega
      have rc : IntKind.i64.wrap ((c : Int)) = (c : Int) := by rw [IntKind.wrap_i64]; omega
      have ea : ((m : Int)).toNat = m := by omega
      have pa : (0 : Int) ≤ (m : Int) := by omega
      have ba : (m : Int) < (d.size : Int) := by omega
      have ra : IntKind.i64.wrap ((m : Int)) = (m : Int) := by rw [IntKind.wrap_i64]; omega
      clear hc
      obtain ⟨xv, hxv⟩ : ∃ x, x = d[m]! := ⟨_, rfl⟩
      obtain ⟨yv, hyv⟩ : ∃ x, x = d[c]! := ⟨_, rfl⟩
      have l1 := S1.out.ld R (by omega) Try.prog (m) (by omega)
      have l2 := S1.out.ld R (by omega) Try.prog (c) (by omega)
      rw [← hxv] at l1
      rw [← hyv] at l2
      have hcg := S1.out.cmp HC.out (by omega) xv yv
      have HX : Aside (xv = d[m]! ∧ yv = d[c]!) := ⟨hxv, hyv⟩
      clear hxv hyv
      by_cases hv : cf xv yv < 0
      · have hd : decide (cf xv yv < 0) = true := decide_eq_true hv
        have NX : Aside (SR lt d a m i c) := by
          have h := HX.out
          rw [h.1, h.2] at hv
          exact HL.out.down O.out HI.out.sl HI.out.cr HI.out.mb (by omega) hic hcj (by omega) hv
        go_wp2_with fail
        go_quiet_grown (first | (go_at_fn g; refine Calls.grown_of (hcg _ _)))
        have S2 : Aside (SWK enc k w0 blk off d (grow (wr.drewN nq) osq)) := S1.out.grown nq osq
        clear l1 l2 hcg S1
        generalize grow (wr.drewN nq) osq = w2 at S2 ⊢
        clear nq osq
        go_wp2
        go_roundg (c - i)
        case measure => omega
        case rel => exact ⟨i, c, rfl, rfl, by omega, by omega, by omega, by omega, NX, S2⟩
      · have hd : decide (cf xv yv < 0) = false := decide_eq_false hv
        have NX : Aside (SR lt d a m (c + 1) j) := by
          have h := HX.out
          rw [h.1, h.2] at hv
          exact HL.out.up O.out HI.out.sl HI.out.cr HI.out.mb (by omega) hic hcj (by omega) hv
        go_wp2_with fail
        go_quiet_grown (first | (go_at_fn g; refine Calls.grown_of (hcg _ _)))
        have S2 : Aside (SWK enc k w0 blk off d (grow (wr.drewN nq) osq)) := S1.out.grown nq osq
        clear l1 l2 hcg S1
        generalize grow (wr.drewN nq) osq = w2 at S2 ⊢
        clear nq osq
        go_wp2
        go_roundg (j - (c + 1))
        case measure => omega
        case rel => exact ⟨c + 1, j, by first | rfl | go_num | simp, rfl, by omega, by omega, by omega, by omega, NX, S2⟩
    · have hltz : ¬ ((i : Int) < (j : Int)) := by omega
      obtain rfl : i = j := by omega
      go_wp2
      go_loopg [17] (m - i) (fun kx s17 wr => ∃ (q : Nat) (dk : Array α), s17 = .int .i64 q ∧ i ≤ q ∧ q ≤ m ∧ q - i ≤ kx ∧ dk.size = d.size ∧ Aside (Ix dk = rot (Ix d) q m (m + 1)) ∧ Aside (SWK enc k w0 blk off dk wr))
      case atStart => exact ⟨m, d, rfl, by omega, by omega, by omega, rfl, (rot_none_left _ _ _).symm, S1⟩
      case round =>
        clear S1
        obtain ⟨q, dk, rfl, hiq, hqm, hkx2, hds, HR, S1⟩ := hrel
        by_cases hlt2 : i < q
        · have hltz2 : (i : Int) < (q : Int) := by omega
          obtain ⟨p, rfl⟩ : ∃ p, q = p + 1 := ⟨q - 1, by omega⟩
          have ed : IntKind.i64.wrap (((p + 1 : Nat) : Int) - 1) = (p : Int) := by rw [IntKind.wrap_i64]; omega
          have ea : (((p : Int) + 1 : Int)).toNat = p + 1 := by omega
          have pa : (0 : Int) ≤ ((p : Int) + 1 : Int) := by omega
          have ba : ((p : Int) + 1 : Int) < (d.size : Int) := by omega
          have ra : IntKind.i64.wrap (((p : Int) + 1 : Int)) = ((p : Int) + 1 : Int) := by rw [IntKind.wrap_i64]; omega
          have eb : (((p : Int) : Int)).toNat = p := by omega
          have pb : (0 : Int) ≤ ((p : Int) : Int) := by omega
          have bb : ((p : Int) : Int) < (d.size : Int) := by omega
          have rb : IntKind.i64.wrap (((p : Int) : Int)) = ((p : Int) : Int) := by rw [IntKind.wrap_i64]; omega
          have S2 : Aside (SWK enc k w0 blk off (swp dk (p + 1) (p)) ((wr.drew.setCells blk (off + (p + 1) * k) (enc dk[p]!)).setCells blk (off + (p) * k) (enc dk[p + 1]!))) := S1.out.swapped R (p + 1) (p) (by omega) (by omega)
          have l1 := S1.out.ld1 R (by omega) Try.prog (p + 1) (by omega)
          have l2 := S1.out.ld1 R (by omega) Try.prog (p) (by omega)
          have s1 := S1.out.st1 R (by omega) Try.prog (p + 1) (by omega) dk[p]!
          have s2 := S1.out.st2 R (by omega) Try.prog (p + 1) (p) (by omega) (by omega) dk[p]! dk[p + 1]!
          have n1 : (enc dk[p + 1]!).length = k := R.hk _
          have n2 : (enc dk[p]!).length = k := R.hk _
          generalize enc dk[p + 1]! = cI at S2 l1 s2 n1
          generalize enc dk[p]! = cJ at S2 l2 s1 s2 n2
          clear S1
          go_wp2_with fail
          go_big_region_o
          clear l1 l2 s1 s2
          generalize (wr.drew.setCells blk (off + (p + 1) * k) cJ).setCells blk (off + (p) * k) cI = w2 at S2 ⊢
          go_wp2
          go_roundg (p - i)
          case measure => omega
          case rel => exact ⟨p, swp dk (p + 1) p, by first | rfl | go_num | simp, by omega, by omega, by omega, by rw [size_swp]; exact hds, rot_bubble_left d dk (by omega) (by omega) HR.out, S2⟩
        · have hltz2 : ¬ ((i : Int) < (q : Int)) := by omega
          obtain rfl : q = i := by omega
          go_wp2
          go_end0
          refine ⟨rfl, dk, hds, ?_, S1.out⟩
          rw [HR.out]
          have h := HB.out
          subst h
          exact HL.out.merged hai (by omega) HI.out.sl HI.out.sr
end Go.Proofs.Ytmpklkhjipclmaa

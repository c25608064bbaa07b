/- Layer 22: stableCmpFunc (68) and SortStableFunc (43) at no more than forty elements. -/
import Derived.Test.YtmpklkhjipclmaaMSA
namespace Go.Proofs.Ytmpklkhjipclmaa
open Go.RowKit Go.Shelf Go.Lib Go.Sort Sm
variable {α : Type} [Inhabited α] {enc : α → List Value} {k : Nat} {blk off : Nat} {d0 : Array α} {w0 : World} {lt : α → α → Prop} {cf : α → α → Int} 

set_option maxRecDepth 1000000 in
set_option maxHeartbeats 8000000 in
theorem stable_any (o : Ord lt) (zE : ∀ w, (Go.sizeOf 23).run Try.prog w = .ok k w) (g : Nat) (cb : Array Value) (cap n : Nat) (d : Array α) (w : World) (R : RowK enc k w0 blk off d0) (hn : d0.size = n) (h40 : n ≤ 40)
    (eg : ∀ args w, (callFunc g args).run Try.prog w = .ok (.enter g args) w) (hC : CmpLays Try.prog g cb enc k cf blk off d0.size w0) (hs : d.size = d0.size) (S : SWK enc k w0 blk off d w) (hT : Tot lt cf d 0 n) :
    Calls Try.prog 73 #[.slice (some ⟨blk, off, none⟩) n cap, .int .i64 n, .func (.func g) #[] cb] w (SymOut lt enc k w0 blk off d 0 n) := by
  have S0 : Aside (SWK enc k w0 blk off d w) := S
  have T : Aside (Tot lt cf d 0 n) := hT
  have C81 : Aside (∀ (a b : Nat) (dk : Array α) (wr : World), dk.size = n → SWK enc k w0 blk off dk wr → a ≤ b → b ≤ n → Tot lt cf dk a b →
      Calls Try.prog 87 #[.slice (some ⟨blk, off, none⟩) n cap, .int .i64 a, .int .i64 b, .func (.func g) #[] cb] wr (SymOut lt enc k w0 blk off dk a b)) :=
    fun a b dk wr h1 h2 h3 h4 h5 => by
      have := insertion_any o zE g cb cap a b dk wr R (by omega) eg hC (by omega) h2 h3 (by omega) h5
      rw [hn] at this
      exact this
  have C82 : Aside (∀ (dk : Array α) (wr : World), dk.size = n → SWK enc k w0 blk off dk wr → SymIn lt cf dk 0 20 n →
      Calls Try.prog 88 #[.slice (some ⟨blk, off, none⟩) n cap, .int .i64 0, .int .i64 20, .int .i64 n, .func (.func g) #[] cb] wr (SymOut lt enc k w0 blk off dk 0 n)) :=
    fun dk wr h1 h2 h3 => by
      have := symMerge_any o zE g cb cap R (by omega) eg hC (n + 1) 0 20 n dk wr (by omega) (by omega) h2 h3
      rw [hn] at this
      exact this
  have hds0 : d.size = n := by omega
  clear S hT R hC hs hn zE eg o
  go_enter Try.func73, Try.ntmps73
  go_wp2
  go_loopg [7, 8] 40 (fun kx s7 s8 wr => ∃ (p q : Nat) (dk : Array α), s7 = .int .i64 p ∧ s8 = .int .i64 q ∧ q = p + 20 ∧ p ≤ n ∧ 40 - p ≤ kx ∧ dk.size = n ∧ Aside (Pre lt d dk p) ∧ Aside (SWK enc k w0 blk off dk wr))
  case atStart => exact ⟨0, 20, d, rfl, rfl, rfl, by omega, by omega, hds0, .inl ⟨rfl, rfl⟩, S0⟩
  case round =>
    clear S0
    obtain ⟨p, q, dk, rfl, rfl, hq, hpn, hkx, hds, HP, S1⟩ := hrel
    by_cases hlt : q ≤ n
    · have hltz : (q : Int) ≤ (n : Int) := by omega
      have c := C81.out p q dk wr hds S1.out (by omega) hlt (HP.out.tot T.out hlt)
      have HQ : Aside (q = p + 20 ∧ dk.size = n ∧ q ≤ n ∧ 40 - p ≤ gk) := ⟨hq, hds, hlt, hkx⟩
      clear S1 hq hds
      go_wp2_with (go_at_call 87; refine c.mono ?_; rintro e w1 ⟨rfl, dn, hs1, hm1, hw1⟩)
      go_roundg (40 - q)
      case measure => have := HQ.out; omega
      case rel =>
        have h := HQ.out
        exact ⟨q, q + 20, dn, rfl, by first | rfl | go_num | simp, rfl, h.2.2.1, by omega, by omega, HP.out.round h.1 (by omega) hm1, hw1⟩
    · have hltz : ¬ ((q : Int) ≤ (n : Int)) := by omega
      have c := C81.out p n dk wr hds S1.out (by omega) (Nat.le_refl _) (HP.out.tot T.out (Nat.le_refl _))
      have HQ : Aside (n < p + 20 ∧ dk.size = n) := ⟨by omega, hds⟩
      clear S1 hq hds
      go_wp2_with (go_at_call 87; refine c.mono ?_; rintro e w1 ⟨rfl, dn, hs1, hm1, hw1⟩)
      have HH : Aside (Half lt d dn n) := HP.out.exit hpn h40 HQ.out.1 hm1
      have S1 : Aside (SWK enc k w0 blk off dn w1) := hw1
      have hdn : dn.size = n := by have := HQ.out; omega
      clear hw1 hm1 HP hs1 c HQ
      have HD : Aside (dn.size = n) := hdn
      clear hdn
      go_loopg [6] 1 (fun kx s6 wr => ∃ (b : Nat) (dm : Array α), s6 = .int .i64 b ∧ Aside (dm.size = n ∧ (b = 20 ∧ 1 ≤ kx ∧ dm = dn ∨ b = 40 ∧ Merged lt (Ix d) (Ix dm) 0 n)) ∧ Aside (SWK enc k w0 blk off dm wr))
      case atStart => exact ⟨20, dn, rfl, ⟨HD.out, .inl ⟨rfl, Nat.le_refl _, rfl⟩⟩, S1⟩
      case round =>
        clear S1
        obtain ⟨b, dm, rfl, hcase, S1⟩ := hrel
        by_cases hb : b < n
        · obtain ⟨hb2, hk1, hdm⟩ : b = 20 ∧ 1 ≤ gk ∧ dm = dn := by
            rcases hcase.out.2 with h | h
            · exact h
            · omega
          subst hb2
          subst hdm
          have hbz : (20 : Int) < (n : Int) := by omega
          have HI : Aside (SymIn lt cf dm 0 20 n) := HH.out.symIn T.out hb (by have := hcase.out.1; omega)
          have HX : Aside (dm.size = n ∧ 1 ≤ gk ∧ n ≤ 40 ∧ 20 < n) := ⟨hcase.out.1, hk1, h40, hb⟩
          clear hcase hk1
          go_wp2
          go_loopg [7, 8] 1 (fun kx s7 s8 wr => ∃ (a b : Nat) (dq : Array α), s7 = .int .i64 a ∧ s8 = .int .i64 b ∧ Aside (dq.size = n ∧ (a = 0 ∧ b = 40 ∧ 1 ≤ kx ∧ dq = dm ∨ a = n ∧ b = n + 40 ∧ Merged lt (Ix d) (Ix dq) 0 n)) ∧ Aside (SWK enc k w0 blk off dq wr))
          case atStart => exact ⟨0, 40, dm, rfl, rfl, ⟨HX.out.1, .inl ⟨rfl, rfl, Nat.le_refl _, rfl⟩⟩, S1⟩
          case round =>
            clear S1
            obtain ⟨a, b2, dq, rfl, rfl, hq, S1⟩ := hrel
            by_cases hb2 : b2 ≤ n
            · obtain ⟨rfl, rfl, hkx, rfl⟩ : a = 0 ∧ b2 = n ∧ 1 ≤ gk ∧ dq = dm := by
                rcases hq.out.2 with h | h
                · exact ⟨h.1, by omega, h.2.2.1, h.2.2.2⟩
                · omega
              have c := C82.out dq wr HX.out.1 S1.out HI.out
              have HK : Aside (1 ≤ gk) := hkx
              clear S1 hq hb2 hkx
              go_wp2_with (go_at_call 88; refine c.mono ?_; rintro e w1 ⟨rfl, dr, hs1, hm1, hw1⟩)
              go_roundg 0
              case measure => have := HK.out; omega
              case rel => exact ⟨b2, b2 + 40, dr, rfl, by first | rfl | go_num | simp, ⟨by rw [hs1]; exact HX.out.1, .inr ⟨rfl, rfl, HH.out.done HX.out.2.2.2 hm1⟩⟩, hw1⟩
            · have hbz2 : ¬ ((b2 : Int) ≤ (n : Int)) := by omega
              by_cases ha : a = 0
              · subst ha
                have hdq : dq = dm := by
                  rcases hq.out.2 with h | h
                  · exact h.2.2.2
                  · omega
                subst hdq
                have c := C82.out dq wr HX.out.1 S1.out HI.out
                clear S1 hq hb2
                go_wp2_with (go_at_call 88; refine c.mono ?_; rintro e w1 ⟨rfl, dr, hs1, hm1, hw1⟩)
                go_roundg 0
                case measure => have := HX.out; omega
                case rel => exact ⟨40, dr, by first | rfl | go_num | simp, ⟨by rw [hs1]; exact HX.out.1, .inr ⟨rfl, HH.out.done HX.out.2.2.2 hm1⟩⟩, hw1⟩
              · have h : a = n ∧ Merged lt (Ix d) (Ix dq) 0 n := by
                  rcases hq.out.2 with h | h
                  · exact absurd h.1 ha
                  · exact ⟨h.1, h.2.2⟩
                obtain ⟨rfl, hm⟩ := h
                have HM : Aside (dq.size = a ∧ Merged lt (Ix d) (Ix dq) 0 a) := ⟨hq.out.1, hm⟩
                clear hq hm hb2
                have hz3 : ¬ ((a : Int) + 20 < (a : Int)) := by omega
                go_wp2
                go_roundg 0
                case measure => have := HX.out; omega
                case rel => exact ⟨40, dq, by first | rfl | go_num | simp, ⟨HM.out.1, .inr ⟨rfl, HM.out.2⟩⟩, S1⟩
        · have hbz : ¬ ((b : Int) < (n : Int)) := by omega
          have HM : Aside (dm.size = n ∧ Merged lt (Ix d) (Ix dm) 0 n) := by
            refine ⟨hcase.out.1, ?_⟩
            rcases hcase.out.2 with ⟨h1, h2, h3⟩ | h
            · rw [h3]; exact HH.out.small (by omega)
            · exact h.2
          clear hcase
          go_wp2
          go_end0
          exact ⟨rfl, dm, by rw [hds0]; exact HM.out.1, HM.out.2, S1.out⟩
end Go.Proofs.Ytmpklkhjipclmaa

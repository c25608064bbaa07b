import Derived.Test.YthjooopppidcfaaDoorMK
import Derived.Deep.QuietTactic
import Derived.BigQuiet
import Derived.Lib.Strings
import Derived.Deep.RegionWith
import Derived.Deep.RegionHeld3
namespace Go.Proofs.YthjooopppidcfaaDoor.Cp
open Go.RowKit
open U

def DecRet (l : List UInt8) (w : World) (e : Ending) (w' : World) : Prop := e = .returned (.tuple #[.int .i64 ((dec l).1 : Nat), .int .i64 ((dec l).2 : Nat)]) ∧ Below w.heap.size w w'
theorem decRet_of {l : List UInt8} {w w' : World} {p n : Nat} {e : Ending} (h : dec l = (p, n)) (he : e = .returned (.tuple #[.int .i64 (p : Nat), .int .i64 (n : Nat)])) (hw : Below w.heap.size w w') : DecRet l w e w' := by
  unfold DecRet; rw [h]; exact ⟨he, hw⟩

theorem rn_cases (a : Nat) : (rn a = 0 ∧ (a < 192 ∨ 248 ≤ a)) ∨ (rn a = 2 ∧ (rp a : Nat) = (a : Int) - 192 ∧ 192 ≤ a ∧ a < 224) ∨ (rn a = 3 ∧ (rp a : Nat) = (a : Int) - 224 ∧ 224 ≤ a ∧ a < 240) ∨ (rn a = 4 ∧ (rp a : Nat) = (a : Int) - 240 ∧ 240 ≤ a ∧ a < 248) := by
  unfold rn rp
  by_cases h1 : a < 192
  · rw [if_pos h1]; exact .inl ⟨rfl, .inl h1⟩
  rw [if_neg h1]
  by_cases h2 : a < 224
  · rw [if_pos h2, if_pos h2]; exact .inr (.inl ⟨rfl, by omega, by omega, h2⟩)
  rw [if_neg h2, if_neg h2]
  by_cases h3 : a < 240
  · rw [if_pos h3, if_pos h3]; exact .inr (.inr (.inl ⟨rfl, by omega, by omega, h3⟩))
  rw [if_neg h3, if_neg h3]
  by_cases h4 : a < 248
  · rw [if_pos h4]; exact .inr (.inr (.inr ⟨rfl, by omega, by omega, h4⟩))
  · rw [if_neg h4]; exact .inl ⟨rfl, .inr (by omega)⟩

theorem ref_pt (p : Nat) (h : isPt p) (w : World) : Calls Tryd.prog 92 #[.int .i64 (p : Nat)] w fun e w' => e = .returned (.bool true) ∧ w = w' := by
  have := refIsPoint_any p w
  rw [ptB_true (by obtain ⟨h1, h2⟩ := h; omega)] at this; exact this
theorem ref_npt (p : Nat) (h : ¬ isPt p) (w : World) : Calls Tryd.prog 92 #[.int .i64 (p : Nat)] w fun e w' => e = .returned (.bool false) ∧ w' = w := by
  have := refIsPoint_any p w
  rw [ptB_false (by unfold isPt at h; omega)] at this; exact this.mono fun e w' ⟨h1, h2⟩ => ⟨h1, h2.symm⟩

theorem rdec_short (l : List UInt8) (a : UInt8) (t : List UInt8) (h : l = a :: t) (h1 : ¬ a.toNat < 128) (h2 : rn a.toNat = 0 ∨ l.length < rn a.toNat) : dec l = (0, 0) := by
  rw [← rdec_eq]; subst h; unfold rdec; simp only []; rw [if_neg h1, if_pos h2]
theorem rdec_none (l : List UInt8) (a : UInt8) (t : List UInt8) (h : l = a :: t) (h1 : ¬ a.toNat < 128) (h2 : ¬ (rn a.toNat = 0 ∨ l.length < rn a.toNat)) (h3 : cgo ((l.take (rn a.toNat)).drop 1) (rp a.toNat) = none) : dec l = (0, 0) := by
  rw [← rdec_eq]; subst h; unfold rdec; simp only []; rw [if_neg h1, if_neg h2, h3]
theorem rdec_some (l : List UInt8) (a : UInt8) (t : List UInt8) (q : Nat) (h : l = a :: t) (h1 : ¬ a.toNat < 128) (h2 : ¬ (rn a.toNat = 0 ∨ l.length < rn a.toNat)) (h3 : cgo ((l.take (rn a.toNat)).drop 1) (rp a.toNat) = some q) : dec l = if isPt q ∧ enc q = l.take (rn a.toNat) then (q, rn a.toNat) else (0, 0) := by
  rw [← rdec_eq]; subst h; unfold rdec; simp only []; rw [if_neg h1, if_neg h2, h3]
theorem take_drop_cons (s : ByteArray) (k n : Nat) (h : k < s.size) (hn : k < n) : (s.data.toList.take n).drop k = s[k] :: (s.data.toList.take n).drop (k + 1) := by
  rw [List.drop_eq_getElem_cons (by simp; omega), List.getElem_take]; rfl

theorem extract_take (s : ByteArray) (n : Nat) : (s.extract 0 n).toList = s.data.toList.take n := by
  rw [Lib.extract_toList]; simp
theorem close_ne {s : ByteArray} {P n : Nat} (h : dec s.data.toList = if isPt P ∧ enc P = s.data.toList.take n then (P, n) else (0, 0)) (hq : (!enc P == (s.extract 0 n).toList) = true) : dec s.data.toList = (0, 0) := by
  rw [h, if_neg]
  rintro ⟨_, q⟩
  rw [extract_take, q] at hq
  simp at hq
theorem close_eq {s : ByteArray} {P n : Nat} (hp : isPt P) (h : dec s.data.toList = if isPt P ∧ enc P = s.data.toList.take n then (P, n) else (0, 0)) (hq : (!enc P == (s.extract 0 n).toList) = false) : dec s.data.toList = (P, n) := by
  rw [h, if_pos]
  refine ⟨hp, ?_⟩
  rw [extract_take] at hq
  simpa using hq
def CgoAt (l : List UInt8) (a Z P : Nat) : Prop := cgo ((l.take (rn a)).drop 1) (rp a) = cgo ((l.take (rn a)).drop Z) P
set_option maxRecDepth 100000 in
set_option maxHeartbeats 2000000 in
theorem decode_multi (s : ByteArray) (hs : s.size ≤ 1000000) (h0 : 0 < s.size) (hr : 2 ≤ rn s[0].toNat) (w : World) :
    Calls Tryd.prog 68 #[.string s] w (DecRet s.data.toList w) := by
  have hh : s.data.toList = s[0] :: s.data.toList.drop 1 := scan_head s 0 h0
  have h8 := s[0].toNat_lt
  have hlen : s.data.toList.length = s.size := by simp
  rcases rn_cases s[0].toNat with ⟨q, _⟩ | ⟨e1, e2, g1, g2⟩ | ⟨e1, e2, g1, g2⟩ | ⟨e1, e2, g1, g2⟩
  · omega
  all_goals
    have hsh := Lib.hid (rdec_short s.data.toList _ _ hh (by omega))
    have hno := Lib.hid (rdec_none s.data.toList _ _ hh (by omega))
    have hso := Lib.hid (fun q => rdec_some s.data.toList _ _ q hh (by omega))
    have HL := Lib.hid hlen
    have HR := Lib.hid e2
    have HN := Lib.hid e1
    have hrb : rp s[0].toNat < pb 1 := by unfold pb; simp only [if_pos]; omega
    have HB := Lib.hid hrb
    by_cases hlt : s.size < rn s[0].toNat
    · rw [e1] at hlt
      clear hh hlen e1 e2 hr hrb
      go_enter Tryd.func68, Tryd.ntmps68
      go_wp2
      go_ret2
      exact decRet_of (hsh.out (.inr (by rw [HL.out, HN.out]; exact hlt))) rfl (Below.refl _ _)
    · have hshort := Lib.hid (show ¬ (rn s[0].toNat = 0 ∨ s.data.toList.length < rn s[0].toNat) by omega)
      rw [e1] at hlt
      clear hh hlen e1 e2 hr hrb
      go_enter Tryd.func68, Tryd.ntmps68
      go_wp2
      go_loop [2, 3, 5, 7] (fun _ _ p z => ∃ P Z : Nat, p = .int .i64 P ∧ z = .int .i64 Z ∧ 1 ≤ Z ∧ Z ≤ rn s[0].toNat ∧ P < pb Z ∧ CgoAt s.data.toList s[0].toNat Z P) (fun _ _ _ z => 4 - (intOf z).toNat)
      case atStart => exact ⟨rp s[0].toNat, 1, by rw [HR.out], rfl, by omega, by rw [HN.out]; omega, HB.out, rfl⟩
      case round =>
        obtain ⟨P, Z, rfl, rfl, hz1, hz2, hP, hg⟩ := hrel
        rw [HN.out] at hz2
        unfold CgoAt at hg
        have HG := Lib.hid hg
        have HPb := Lib.hid hP
        have hP2 := pb_le hP
        clear hg hP
        by_cases hzn : Z = rn s[0].toNat
        · have hfin := hso.out P hshort.out (by rw [HG.out, hzn, List.drop_eq_nil_of_le (by rw [List.length_take]; omega)]; rfl)
          rw [HN.out] at hzn hfin
          subst hzn
          by_cases hpt : isPt P
          · have HF := Lib.hid hfin
            clear hfin
            go_wp2
            go_region_with (first | (go_at_call 92; refine (ref_pt P hpt _).mono ?_; rintro e w' ⟨rfl, rfl⟩) | (go_at_call 69; refine (encode_any P hpt.1 _).mono ?_; rintro e w' ⟨rfl, hb⟩))
            have hb2 : Below w.heap.size w w' := (Below.refl _ w).drew.trans hb
            clear hb
            go_wp2
            · go_ret2
              exact decRet_of (close_ne HF.out (by assumption)) rfl hb2
            · go_ret2
              exact decRet_of (close_eq hpt HF.out (by assumption)) rfl hb2
          · have HF := Lib.hid (hfin.trans (if_neg fun q => hpt q.1))
            clear hfin
            go_wp2
            go_quiet ((go_at_call 92; exact Calls.quiet_of_same (ref_npt P hpt _)))
            go_wp2
            go_ret2
            exact decRet_of HF.out rfl (below_drewN (Below.refl _ _) _)
        · rw [HN.out] at hzn
          have hZs : Z < s.size := by omega
          have hc8 := s[Z].toNat_lt
          have hnext := Lib.hid (take_drop_cons s Z (rn s[0].toNat) hZs (by rw [HN.out]; omega))
          by_cases hc1 : s[Z].toNat < 128
          · go_wp2
            go_ret2
            refine decRet_of (hno.out hshort.out ?_) rfl (Below.refl _ _)
            rw [HG.out, hnext.out, cgo, if_pos (.inl hc1)]
          · by_cases hc2 : 191 < s[Z].toNat
            · go_wp2
              go_ret2
              refine decRet_of (hno.out hshort.out ?_) rfl (Below.refl _ _)
              rw [HG.out, hnext.out, cgo, if_pos (.inr hc2)]
            · have hst := Lib.hid (pb_step (c := s[Z].toNat - 128) hz1 (by omega) HPb.out)
              go_wp2
              go_round
              case rel =>
                refine ⟨_, _, .int .i64 ((P * 64 + s[Z].toNat - 128 : Nat) : Int), .int .i64 ((Z + 1 : Nat) : Int), ⟨P * 64 + s[Z].toNat - 128, rfl, Z + 1, rfl, by omega, by rw [HN.out]; omega, ?_, ?_⟩, rfl, rfl, ?_, by go_num⟩
                · have := hst.out; rw [Nat.mod_eq_of_lt (by omega)] at this; omega
                · unfold CgoAt; rw [HG.out, hnext.out, cgo, if_neg (by omega)]
                · congr 1; omega
              case measure => simp [intOf]; omega
end Go.Proofs.YthjooopppidcfaaDoor.Cp

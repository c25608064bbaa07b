/- Layer 8: the law of checks (3). -/
import Derived.Test.YtbkpokipibgdfaaTJ
import Derived.Test.YtbkpokipibgdfaaNK
namespace Go.Proofs.Ytbkpokipibgdfaa
open Go.RowKit Go.Lib Go.Maps
set_option linter.unusedVariables false

/-- Styles without properties as cells. -/
def rowS (l : List St) : List Value := l.flatMap fun x => [.int .i64 x.id, .int .i64 x.kind, .string x.name, .int .i64 x.base, .int .i64 x.next, .slice none 0 0]
theorem rowS_snoc (l : List St) (x : St) : rowS (l ++ [x]) = rowS l ++ [.int .i64 x.id, .int .i64 x.kind, .string x.name, .int .i64 x.base, .int .i64 x.next, .slice none 0 0] := by simp [rowS]
theorem info28 : (Try.prog.info? 28).map (fun i => (i.zero, i.size, i.bytes)) = some (some (.agg #[.int .i64 0, .int .i64 0, .string ⟨#[]⟩, .int .i64 0, .int .i64 0, .slice none 0 0]), 6, 72) := by kernel_rfl
/-- One style without properties as cells. -/
def rowS1 (x : St) : List Value := [.int .i64 x.id, .int .i64 x.kind, .string x.name, .int .i64 x.base, .int .i64 x.next, .slice none 0 0]
theorem rowS_get (l : List St) : ∀ k (h : k < l.length) j, j < 6 → (rowS l)[k * 6 + j]? = (rowS1 l[k])[j]? := by
  induction l with
  | nil => intro k h; exact absurd h (Nat.not_lt_zero _)
  | cons x l ih =>
    intro k h j hj
    have e : rowS (x :: l) = rowS1 x ++ rowS l := rfl
    rw [e]
    cases k with
    | zero =>
      rw [List.getElem?_append_left (by simp [rowS1]; omega)]
      simp
    | succ k =>
      rw [List.getElem?_append_right (by simp [rowS1]; omega)]
      have : (k + 1) * 6 + j - (rowS1 x).length = k * 6 + j := by simp [rowS1]; omega
      rw [this, ih k (by simpa using h) j hj]
      rfl
theorem rows_at {w : World} {base n cb : Nat} {B : Option Addr} {l : List St} (h : w.ownsRow base 28 6 (.slice B n cb) n (rowS l)) (hn : l.length = n) (hp : ∀ x ∈ l, x.props = []) : LsAt w B l := by
  by_cases h0 : n = 0
  · exact .inl (List.eq_nil_of_length_eq_zero (by omega))
  obtain ⟨g, cap, e, hg, hc⟩ := own_cells h (by omega)
  injection e with e1 _ _
  subst e1
  refine .inr ⟨g, 0, rfl, hg, fun k hk => ⟨none, 0, ?_, ?_, ?_, ?_, ?_, ?_, ?_, by decide, ?_⟩⟩
  · rw [Nat.zero_add, hc (k * 6) (by omega), show k * 6 = k * 6 + 0 from rfl, rowS_get l k hk 0 (by omega)]; rfl
  · rw [Nat.zero_add, hc (k * 6 + 1) (by omega), rowS_get l k hk 1 (by omega)]; rfl
  · rw [Nat.zero_add, hc (k * 6 + 2) (by omega), rowS_get l k hk 2 (by omega)]; rfl
  · rw [Nat.zero_add, hc (k * 6 + 3) (by omega), rowS_get l k hk 3 (by omega)]; rfl
  · rw [Nat.zero_add, hc (k * 6 + 4) (by omega), rowS_get l k hk 4 (by omega)]; rfl
  · rw [Nat.zero_add, hc (k * 6 + 5) (by omega), rowS_get l k hk 5 (by omega), hp _ (List.getElem_mem hk)]; rfl
  · rw [hp _ (List.getElem_mem hk)]; exact Nat.le_refl _
  · rw [hp _ (List.getElem_mem hk)]; exact .inl rfl
theorem cell_new6 (w : World) (a b c d e f : Value) (t : TypeId) : ∀ j u, [a, b, c, d, e, f][j]? = some u → (w.alloc (.cells #[a, b, c, d, e, f] t)).cell? ((⟨w.heap.size, 0, none⟩ : Addr).add j) = some u := by
  intro j u hj
  have ho := ObjAt.new w #[a, b, c, d, e, f] t
  rw [show ((⟨w.heap.size, 0, none⟩ : Addr).add j) = ⟨w.heap.size, j, none⟩ by unfold Addr.add; split <;> simp_all]
  exact ho.get (by simpa using hj)
theorem two_bytes (w : World) (q d : Nat) (hq : q ≤ 6) (hd : d < 26) : (convert 25 9 (.slice (some ⟨w.heap.size, 0, none⟩) 2 2)).run Try.prog (w.alloc (.cells #[.int .u8 (65 + (q : Int)), .int .u8 (97 + (d : Int))] 5)) = .ok (.string ⟨#[UInt8.ofNat (65 + q), UInt8.ofNat (97 + d)]⟩) (w.alloc (.cells #[.int .u8 (65 + (q : Int)), .int .u8 (97 + (d : Int))] 5)) := by
  have h := run_convert_bytes_back (P := Try.prog) (w.alloc (.cells #[.int .u8 (65 + (q : Int)), .int .u8 (97 + (d : Int))] 5)) 25 9 5 ⟨w.heap.size, 0, none⟩ 2 [UInt8.ofNat (65 + q), UInt8.ofNat (97 + d)] Try.underlying25 Try.underlying5 Try.underlying9 (fun j hj => by
    have ho := ObjAt.new w #[.int .u8 (65 + (q : Int)), .int .u8 (97 + (d : Int))] 5
    rw [show ((⟨w.heap.size, 0, none⟩ : Addr).add j) = ⟨w.heap.size, j, none⟩ by unfold Addr.add; split <;> simp_all]
    have hj2 : j < 2 := hj
    rcases (by omega : j = 0 ∨ j = 1) with rfl | rfl
    · rw [ho.get (k := 0) rfl]; simp; omega
    · rw [ho.get (k := 1) rfl]; simp; omega)
  exact h
set_option maxRecDepth 100000 in
set_option maxHeartbeats 8000000 in
theorem law_checks (A : Option Addr) (n c : Nat) (l : List St) (hn : l.length = n) (hc : n ≤ c ∧ c ≤ maxLen) (hin : ∀ x ∈ l, StIn x) (m : Int) (hm : 0 ≤ m ∧ m ≤ 255) (w : World) (hA : LsAt w A l) :
    Calls Try.prog 3 #[.slice A n c, .int .u8 m] w (TrueW w) := by
  obtain ⟨i0, hi, hz0, hz1, hz2⟩ := info_parts info28
  have cK := Go.Lib.hid (fun w' => known_any w')
  have cS := Go.Lib.hid (fun w' (hb : Below w.heap.size w w') => small_any l A n c hn hc w' (hA.below hb))
  have HA := Go.Lib.hid hA
  have HN := Go.Lib.hid hn
  have HOK := Go.Lib.hid (ls_ok hin)
  clear hA hn hc hin
  have K0 := Go.Lib.hid (Below.refl w.heap.size w)
  have s0 := K0.out.size
  go_enter Try.func3, Try.ntmps3
  have cc := cK.out w
  go_wp2_with fail
  (with_reducible refine cc.mono ?_)
  rintro e w1 ⟨rfl, k1⟩
  have K1 := Go.Lib.hid (K0.out.trans (k1.mono s0))
  have s1 := K1.out.size
  clear cc k1
  have cc := cS.out w1 K1.out
  go_wp2_with fail
  (with_reducible refine cc.mono ?_)
  rintro e w2 ⟨⟨b, rfl, hb⟩, k2⟩
  have K2 := Go.Lib.hid (K1.out.trans (k2.mono s1))
  have s2 := K2.out.size
  clear cc k2
  cases b with
  | false =>
    clear hb
    have cc := cK.out w2
    go_wp2_with fail
    (with_reducible refine cc.mono ?_)
    rintro e w3 ⟨rfl, k3⟩
    have K3 := Go.Lib.hid (K2.out.trans (k3.mono s2))
    have s3 := K3.out.size
    clear cc k3
    go_wp2
    go_ret
    exact ⟨by simp, K3.out⟩
  | true =>
    have HT := Go.Lib.hid (hb rfl)
    clear hb
    have q1 : n ≤ 1000 := by rw [← HN.out]; exact Nat.le_trans HT.out.1 (by omega)
    have e1 := Go.Lib.hid (fun w' (hb : Below w.heap.size w w') => Check_any l HOK.out (sml_nms HT.out) A n c HN.out q1 w' (HA.out.below hb))
    have e2 := Go.Lib.hid (fun w' (hb : Below w.heap.size w w') => rcheck_any l HOK.out (sml_nms HT.out) n HN.out q1 A c w' (HA.out.below hb))
    obtain ⟨r, hr⟩ : ∃ r : Nat, m.tmod 16 = (r : Int) := ⟨(m.tmod 16).toNat, by have := Int.tmod_nonneg 16 hm.1; omega⟩
    have hr16 : r < 16 := by have := Int.tmod_lt_of_pos m (show (0 : Int) < 16 by decide); omega
    go_wp2_with fail
    go_loopw [5, 6] (fun s5 s6 wr => ∃ (i : Nat) (B : Option Addr) (cb : Nat) (L : List St), i ≤ 120 + r ∧ s6 = .int .i64 (i : Nat) ∧ s5 = .slice B i cb ∧ wr.ownsRow w2.heap.size 28 6 (.slice B i cb) i (rowS L) ∧ Below w2.heap.size w2 wr ∧ Hid (L.length = i) ∧ Hid (∀ x ∈ L, x.props = [] ∧ I64 x.id ∧ I64 x.kind ∧ I64 x.base ∧ I64 x.next ∧ x.name.size ≤ 1000000)) (fun _ s6 _ => 120 + r - (intOf s6).toNat)
    case atStart => exact ⟨0, none, 0, [], Nat.zero_le _, rfl, rfl, World.ownsRow_nil _ _ _ _, Below.refl _ _, Go.Lib.hid rfl, Go.Lib.hid (fun x hx => by cases hx)⟩
    case round =>
      obtain ⟨i, B, cb, L, hi9, rfl, rfl, hown, hbw, HL, HX⟩ := hrel
      have hw0 := hbw.size
      by_cases hlt : i < 120 + r
      · obtain ⟨a, ha⟩ : ∃ a : Nat, (i : Int).tmod 2 = (a : Int) := ⟨i % 2, by rw [Int.tmod_eq_emod_of_nonneg (by omega)]; omega⟩
        have ha2 : a < 2 := by have := Int.tmod_lt_of_pos (i : Int) (show (0 : Int) < 2 by decide); omega
        obtain ⟨d, hd⟩ : ∃ d : Nat, (i : Int).tmod 26 = (d : Int) := ⟨i % 26, by rw [Int.tmod_eq_emod_of_nonneg (by omega)]; omega⟩
        have hd2 : d < 26 := by have := Int.tmod_lt_of_pos (i : Int) (show (0 : Int) < 26 by decide); omega
        obtain ⟨q, hq⟩ : ∃ q : Nat, (i : Int).tdiv 26 = (q : Int) := ⟨i / 26, by rw [Int.tdiv_eq_ediv_of_nonneg (by omega)]; omega⟩
        have hq2 : q ≤ 6 := by have : (i : Int).tdiv 26 ≤ 6 := by (have : (i:Int) ≤ 135 := by omega); rw [Int.tdiv_eq_ediv_of_nonneg (by omega)]; omega
                               omega
        have v0 : (i : Int) < 120 + (r : Int) := by omega
        have hcv := two_bytes wr q d hq2 hd2
        have HXX := Go.Lib.hid (show ∀ x ∈ L ++ [(⟨(i : Int) + 1, 1 + (a : Int), ⟨#[UInt8.ofNat (65 + q), UInt8.ofNat (97 + d)]⟩, 0, 0, []⟩ : St)], x.props = [] ∧ I64 x.id ∧ I64 x.kind ∧ I64 x.base ∧ I64 x.next ∧ x.name.size ≤ 1000000 from by
          intro x hx
          rcases List.mem_append.1 hx with h | h
          · exact HX.out x h
          · rw [List.mem_singleton] at h
            subst h
            unfold I64
            refine ⟨rfl, ?_, ?_, ?_, ?_, ?_⟩
            · dsimp only; omega
            · dsimp only; omega
            · dsimp only; omega
            · dsimp only; omega
            · show 2 ≤ 1000000
              omega)
        generalize (⟨#[UInt8.ofNat (65 + q), UInt8.ofNat (97 + d)]⟩ : ByteArray) = nm at hcv HXX
        go_wp2_with (at_builtin; refine wpList_append_own _ rfl _ _ 22 rfl w2.heap.size 28 i0 _ 6 72 Try.underlying22 hi hz0 hz1 hz2 rfl (by decide) _ _ _ rfl ((hown.alloc _).alloc _) ⟨wr.heap.size + 1, 0, none⟩ 1 1 [.int .i64 ((i : Int) + 1), .int .i64 (1 + (a : Int)), .string nm, .int .i64 0, .int .i64 0, .slice none 0 0] rfl rfl (by intro j u hj; have := cell_new6 (wr.alloc (.cells #[.int .u8 (65 + (q : Int)), .int .u8 (97 + (d : Int))] 5)) (.int .i64 ((i : Int) + 1)) (.int .i64 (1 + (a : Int))) (.string nm) (.int .i64 0) (.int .i64 0) (.slice none 0 0) 28 j u hj; rw [World.size_alloc] at this; exact this) (by intro u hu; simp at hu; rcases hu with rfl | rfl | rfl | rfl | rfl | rfl <;> rfl) (by unfold maxLen; omega) (by omega) (by simp; omega) ?_; intro v1 w1 hown1 hgrow1 _; obtain ⟨g1, cap1, rfl⟩ := ownsRow_succ hown1)
        go_roundw
        case rel =>
          exact ⟨i + 1, some ⟨g1, 0, none⟩, cap1, L ++ [⟨(i : Int) + 1, 1 + (a : Int), nm, 0, 0, []⟩], by omega, by go_num, rfl, by rw [rowS_snoc]; exact hown1, ((hbw.alloc hw0 _).alloc (by simp; omega) _).grown hgrow1 (by simp; omega) (fun j e => (hown.lt j e).1), Go.Lib.hid (by rw [List.length_append, HL.out]; rfl), HXX⟩
        case measure => simp [intOf]; omega
      · have hi0 : i = 120 + r := by omega
        have v0 : ¬ (i : Int) < 120 + (r : Int) := by omega
        have hown2 := rows_at hown HL.out (fun x hx => (HX.out x hx).1)
        have cb0 := hown
        have q2 : i ≤ 1000 := by omega
        have KL := Go.Lib.hid (K2.out.trans (hbw.mono s2))
        have sL := KL.out.size
        have f1 := Go.Lib.hid (fun w' (hb : Below wr.heap.size wr w') => Check_any L (fun x hx => ⟨(HX.out x hx).2.1, (HX.out x hx).2.2.1, (HX.out x hx).2.2.2.1, (HX.out x hx).2.2.2.2.1⟩) (fun x hx => (HX.out x hx).2.2.2.2.2) B i cb HL.out q2 w' (hown2.below hb))
        have f2 := Go.Lib.hid (fun w' (hb : Below wr.heap.size wr w') => rcheck_any L (fun x hx => ⟨(HX.out x hx).2.1, (HX.out x hx).2.2.1, (HX.out x hx).2.2.2.1, (HX.out x hx).2.2.2.2.1⟩) (fun x hx => (HX.out x hx).2.2.2.2.2) i HL.out q2 B cb w' (hown2.below hb))
        clear hown hown2 cb0 hbw hw0 hlt hi0
        generalize chkA l = E at e1 e2
        generalize chkA L = E' at f1 f2
        have eE : (E == E) = true := by simp
        have eE' : (E' == E') = true := by simp
        have cc := e1.out wr KL.out
        go_wp2_with fail
        (with_reducible refine cc.mono ?_)
        rintro e w4 ⟨rfl, k4⟩
        have B4 := Go.Lib.hid k4
        have t4 := B4.out.size
        clear cc k4
        have cc := e2.out w4 (KL.out.trans (B4.out.mono sL))
        go_wp2_with fail
        (with_reducible refine cc.mono ?_)
        rintro e w5 ⟨rfl, k5⟩
        have B5 := Go.Lib.hid (B4.out.trans (k5.mono t4))
        have t5 := B5.out.size
        clear cc k5
        have cc := f1.out w5 B5.out
        go_wp2_with fail
        (with_reducible refine cc.mono ?_)
        rintro e w6 ⟨rfl, k6⟩
        have B6 := Go.Lib.hid (B5.out.trans (k6.mono t5))
        have t6 := B6.out.size
        clear cc k6
        have cc := f2.out w6 B6.out
        go_wp2_with fail
        (with_reducible refine cc.mono ?_)
        rintro e w7 ⟨rfl, k7⟩
        have B7 := Go.Lib.hid (B6.out.trans (k7.mono t6))
        clear cc k7
        go_wp2
        go_ret
        exact ⟨by simp, KL.out.trans (B7.out.mono sL)⟩
theorem law_checksC (A : Option Addr) (n c : Nat) (l : List St) (hn : l.length = n) (hc : n ≤ c ∧ c ≤ maxLen) (hin : ∀ x ∈ l, StIn x) (m : Int) (hm : (Lit.int .u8 m).wf = true) (w : World) (hA : LsAt w A l) :
    Calls Try.prog 3 #[.slice A n c, .int .u8 m] w (TrueW w) :=
  law_checks A n c l hn hc hin m (by simp [Lit.wf, IntKind.bits, IntKind.signed, IntKind.min, IntKind.max] at hm; omega) w hA
end Go.Proofs.Ytbkpokipibgdfaa

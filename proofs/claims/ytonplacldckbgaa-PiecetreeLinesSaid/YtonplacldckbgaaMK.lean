/- Layer 4: run (14). -/
import Derived.Test.YtonplacldckbgaaMJ
namespace Go.Proofs.Ytonplacldckbgaa
open Go.RowKit Go.Shelf Go.Lib Pt

/-- An operation as it comes in. -/
abbrev Op4 := Nat × Int × Int × List UInt8
def OpsAt (w : World) (A : Option Addr) (ops : List Op4) : Prop := ops = [] ∨ ∃ g off, A = some ⟨g, off, none⟩ ∧ g < w.heap.size ∧ ∀ k (hk : k < ops.length),
  w.cell? ⟨g, off + k * 4, none⟩ = some (.int .u8 (ops[k].1 : Nat)) ∧ w.cell? ⟨g, off + k * 4 + 1, none⟩ = some (.int .i64 ops[k].2.1) ∧ w.cell? ⟨g, off + k * 4 + 2, none⟩ = some (.int .i64 ops[k].2.2.1) ∧ w.cell? ⟨g, off + k * 4 + 3, none⟩ = some (.string (bs ops[k].2.2.2))
def OpsB (ops : List Op4) : Prop := ∀ k (hk : k < ops.length), ops[k].1 < 256 ∧ I64 ops[k].2.1 ∧ I64 ops[k].2.2.1 ∧ ops[k].2.2.2.length ≤ maxLen
theorem OpsAt.below {w w' : World} {A : Option Addr} {ops : List Op4} (h : OpsAt w A ops) (hb : Below w.heap.size w w') : OpsAt w' A ops := by
  rcases h with h | ⟨g, off, h1, h2, h3⟩
  · exact .inl h
  · refine .inr ⟨g, off, h1, Nat.lt_of_lt_of_le h2 hb.size, fun k hk => ?_⟩
    obtain ⟨a, b, c, d⟩ := h3 k hk
    exact ⟨(hb.cell h2).trans a, (hb.cell h2).trans b, (hb.cell h2).trans c, (hb.cell h2).trans d⟩
/-- What run hands back. -/
def RunR (w : World) (e : Ending) (w' : World) : Prop := ∃ (g : Nat) (T : Tr) (ed : Nat), e = .returned (.tuple #[.pointer (some ⟨g, 0, none⟩), .string (bs T.bytes), .int .i64 (ed : Nat), .bool true]) ∧ TAt w' g T ∧ T.ok ∧ T.pcs ≤ 2 * ed + 1 ∧ ed ≤ 60 ∧ T.bytes.length ≤ 12300 ∧ w.heap.size ≤ g ∧ Below w.heap.size w w'
/-- An edit's tree, the reference's string, and what both are bounded by. -/
theorem ed_facts {T : Tr} (x y : Int) (s : List UInt8) (h : T.ok) : ∃ (T' : Tr) (cd : Int), T' = edT T x y s ∧ cd = codR x y T.bytes.length s.length ∧ edB T.bytes x y s = T'.bytes ∧ T'.ok ∧ T'.pcs ≤ T.pcs + (if cd = 0 then 2 else 0) ∧ T'.bytes.length ≤ T.bytes.length + s.length ∧ (cd = 0 ∨ cd = 2 ∨ cd = 10) := by
  refine ⟨_, _, rfl, rfl, (edT_B T x y s).symm, (edT_spec x y s h).1, (edT_spec x y s h).2, ?_, ?_⟩
  · rw [edT_B]; exact edB_len _ _ _ _
  · unfold codR; split
    · exact .inr (.inl rfl)
    · split
      · exact .inr (.inr rfl)
      · exact .inl rfl
theorem ext_min (s : List UInt8) : (bs s).extract 0 (min (s.length : Int) 200).toNat = bs (s.take 200) := by
  rw [show (min (s.length : Int) 200).toNat = min 200 s.length by omega, ext_take, ← List.take_take, List.take_length]
theorem i64_near (n : Int) (len : Nat) (h : len ≤ 200000) : I64 (nearI n len) := by
  have h1 := nearI_lo n len
  have h2 := nearI_hi n len
  exact ⟨by omega, by omega⟩
set_option maxRecDepth 100000 in
set_option maxHeartbeats 32000000 in
theorem run_any (s : List UInt8) (A : Option Addr) (no c : Nat) (ops : List Op4) (hs : s.length ≤ 300) (hno : ops.length = no) (w : World) (hA : OpsAt w A ops) (hB : OpsB ops) (hnm : no ≤ maxLen) :
    Calls Try.prog 14 #[.string (bs s), .slice A no c] w (RunR w) := by
  have HA := Go.Lib.hid hA
  have HB := Go.Lib.hid hB
  have HNO := Go.Lib.hid hno
  unfold maxLen at hnm
  clear hA hB hno
  have c1 := new_any s w (by omega)
  obtain ⟨n1, n2, n3⟩ := newT_spec s
  obtain ⟨T0, hT0⟩ : ∃ T, T = newT s := ⟨_, rfl⟩
  rw [← hT0] at c1 n1 n2 n3
  clear hT0
  rw [← n1]
  rw [← n1] at c1
  have hl0 : T0.bytes.length ≤ 300 := by rw [n1]; exact hs
  clear n1 hs
  go_enter Try.func14, Try.ntmps14
  go_wp2_with fail
  refine c1.mono ?_
  rintro e w1 ⟨g0, rfl, hg0, t1, k1⟩
  clear c1
  have HP1 : Hid (TAt w1 g0 T0 ∧ Below w.heap.size w w1) := Go.Lib.hid ⟨t1, k1⟩
  have N2 := Go.Lib.hid n2
  clear t1 k1 n2
  go_wp2_with fail
  go_loopw [4, 5, 6, 9] (fun tv wv ev iv wr => ∃ (k g : Nat) (T : Tr) (ed : Nat), k ≤ no ∧ k ≤ 60 ∧ iv = .int .i64 k ∧ tv = .pointer (some ⟨g, 0, none⟩) ∧ wv = .string (bs T.bytes) ∧ ev = .int .i64 (ed : Nat) ∧ ed ≤ k ∧ T.bytes.length ≤ 300 + 200 * k ∧ T.pcs ≤ 2 * ed + 1 ∧ w.heap.size ≤ g ∧ Hid T.ok ∧ Hid (TAt wr g T ∧ Below w.heap.size w wr)) (fun _ _ _ iv _ => 60 - (RowKit.intOf iv).toNat)
  case atStart => exact ⟨0, g0, T0, 0, Nat.zero_le _, by omega, rfl, rfl, rfl, rfl, by omega, by omega, by omega, hg0, N2, HP1⟩
  case round =>
    clear HP1 N2 hg0 n3 hl0
    obtain ⟨k, g, T, ed, hk, hk60, rfl, rfl, rfl, rfl, hek, hTl, hTp, hg, HO, HP⟩ := hrel
    have hz := bs_size T.bytes
    by_cases hlt : k < no
    · by_cases hlt2 : k < 60
      · have hkl : k < ops.length := by rw [HNO.out]; exact hlt
        rcases HA.out with hA0 | ⟨gA, oA, rfl, hgA, hcl⟩
        · rw [hA0] at hkl; exact absurd hkl (Nat.not_lt_zero _)
        obtain ⟨e0, e1, e2, e3⟩ := hcl k hkl
        obtain ⟨hB1, hB2, hB3, hB4⟩ := HB.out k hkl
        have hbw := HP.out.2
        have d0 := (hbw.cell (p := ⟨gA, oA + k * 4, none⟩) hgA).trans e0
        have d1 := (hbw.cell (p := ⟨gA, oA + k * 4 + 1, none⟩) hgA).trans e1
        have d2 := (hbw.cell (p := ⟨gA, oA + k * 4 + 2, none⟩) hgA).trans e2
        have d3 := (hbw.cell (p := ⟨gA, oA + k * 4 + 3, none⟩) hgA).trans e3
        clear hcl e0 e1 e2 e3 hgA hbw
        generalize ops[k] = y at d0 d1 d2 d3 hB1 hB2 hB3 hB4
        obtain ⟨yk, yf, yt, yx⟩ := y
        dsimp only at d0 d1 d2 d3 hB1 hB2 hB3 hB4
        unfold maxLen at hB4
        have q1 : (0 : Int) ≤ (k : Int) := by omega
        have q2 : (k : Int) < (no : Int) := by omega
        have hzx := bs_size yx
        have hex := ext_min yx
        have HP2 : Hid (TAt (wr.alloc (.cells #[.int .u8 (yk : Nat), .int .i64 yf, .int .i64 yt, .string (bs (yx.take 200))] 57)) g T ∧ Below w.heap.size w (wr.alloc (.cells #[.int .u8 (yk : Nat), .int .i64 yf, .int .i64 yt, .string (bs (yx.take 200))] 57))) := Go.Lib.hid ⟨HP.out.1.below ((Below.refl _ wr).alloc (Nat.le_refl _) _), HP.out.2.alloc HP.out.2.size _⟩
        have oop := ObjAt.new wr #[.int .u8 (yk : Nat), .int .i64 yf, .int .i64 yt, .string (bs (yx.take 200))] 57
        have hgN : wr.heap.size ≠ g := by have := HP.out.1; obtain ⟨_, _, _, _, h9, _⟩ := this; omega
        have hbs2 : wr.heap.size < (wr.alloc (.cells #[.int .u8 (yk : Nat), .int .i64 yf, .int .i64 yt, .string (bs (yx.take 200))] 57)).heap.size := by rw [World.size_alloc]; exact Nat.lt_succ_self _
        obtain ⟨fx, hfx⟩ : ∃ fx, nearI yf T.bytes.length = fx := ⟨_, rfl⟩
        obtain ⟨tx, htx⟩ : ∃ tx, nearI yt T.bytes.length = tx := ⟨_, rfl⟩
        have cF : ∀ w', Calls Try.prog 16 #[.int .i64 yf, .int .i64 (T.bytes.length : Nat)] w' (fun e w'' => e = .returned (.int .i64 fx) ∧ w'' = w') := fun w' => by rw [← hfx]; exact near_any _ _ w' hB2 (by omega)
        have cT : ∀ w', Calls Try.prog 16 #[.int .i64 yt, .int .i64 (T.bytes.length : Nat)] w' (fun e w'' => e = .returned (.int .i64 tx) ∧ w'' = w') := fun w' => by rw [← htx]; exact near_any _ _ w' hB3 (by omega)
        have If : I64 fx := by rw [← hfx]; exact i64_near _ _ (by omega)
        have It : I64 tx := by rw [← htx]; exact i64_near _ _ (by omega)
        have IF := Go.Lib.hid If
        have IT := Go.Lib.hid It
        have CF := Go.Lib.hid cF
        have CT := Go.Lib.hid cT
        have hxl : (yx.take 200).length ≤ 200 := by rw [List.length_take]; omega
        clear hfx htx If It cF cT hB2 hB3
        go_wp2_with fail
        generalize wr.alloc (.cells #[.int .u8 (yk : Nat), .int .i64 yf, .int .i64 yt, .string (bs (yx.take 200))] 57) = W2 at HP2 hbs2 oop ⊢
        clear d0 d1 d2 d3 hex hzx HP
        generalize yx.take 200 = x at oop hxl ⊢
        have z0 := oop.get (k := 0) (v := .int .u8 (yk : Nat)) rfl
        have z1 := oop.get (k := 1) (v := .int .i64 yf) rfl
        have z2 := oop.get (k := 2) (v := .int .i64 yt) rfl
        have z3 := oop.get (k := 3) (v := .string (bs x)) rfl
        generalize wr.heap.size = N at z0 z1 z2 z3 oop hbs2 hgN ⊢
        clear hB4 oop
        go_region_held3 (fun w' => w'.cell? ⟨N, 1, none⟩ = some (.int .i64 yf) ∧ w'.cell? ⟨N, 2, none⟩ = some (.int .i64 yt)) (first | go_keep | exact ⟨z1, z2⟩)
          (first
            | (go_at_call 16; with_reducible refine (CF.out _).mono ?_; rintro e w3 ⟨rfl, rfl⟩)
            | (go_at_call 16; with_reducible refine (CT.out _).mono ?_; rintro e w4 ⟨rfl, rfl⟩))
        have HP3 : Hid (TAt W2.drew g T ∧ Below w.heap.size w W2.drew) := Go.Lib.hid ⟨HP2.out.1.drew, HP2.out.2.drew⟩
        have z0 : W2.drew.cell? ⟨N, 0, none⟩ = some (.int .u8 (yk : Nat)) := z0
        have z3 : W2.drew.cell? ⟨N, 3, none⟩ = some (.string (bs x)) := z3
        have hbs3 : N < W2.drew.heap.size := hbs2
        clear HP2 z1 z2 hbs2 CF CT
        rename_i hHeld
        clear hHeld
        generalize W2.drew = W3 at HP3 z0 z3 hbs3 ⊢
        have hTL : T.bytes.length ≤ 65536 := by omega
        have hkk : yk % 4 = 0 ∨ yk % 4 = 1 ∨ yk % 4 = 2 ∨ yk % 4 = 3 := by omega
        rcases hkk with hkk | hkk | hkk | hkk
        · have FK : (yk : Int) % 4 = 0 := by omega
          obtain ⟨T', cd, hT', hcd, hEB, ok', pc', len', cd3⟩ := ed_facts fx fx x HO.out
          have cE := insert_any fx x W3 HP3.out.1 hTL (by omega) (by omega)
          unfold Edit at cE
          rw [← hT', ← hcd] at cE
          have cR : ∀ w', Calls Try.prog 31 #[.string (bs T.bytes), .int .i64 fx, .int .i64 fx, .string (bs x)] w' (fun e w'' => e = .returned (.tuple #[.string (bs T'.bytes), .int .i64 cd]) ∧ Below w'.heap.size w' w'') := fun w' => by rw [← hEB, hcd]; exact ref_any T.bytes fx fx x w' hTL (by first | omega | simp) IF.out IF.out
          have OK' := Go.Lib.hid ok'
          have CR := Go.Lib.hid cR
          have hz' := bs_size T'.bytes
          have hl2 : T'.bytes.length ≤ 300 + 200 * (k + 1) := by omega
          clear hT' hcd hEB ok' cR len'
          go_wp2_with fail
          (with_reducible refine cE.mono ?_)
          rintro e w4 ⟨rfl, t4, k4⟩
          have y3 := (k4.cell (p := ⟨N, 3, none⟩) hbs3 hgN).trans z3
          have HP4 : Hid (TAt w4 g T' ∧ Below w.heap.size w w4) := Go.Lib.hid ⟨t4, HP3.out.2.trans (k4.below hg HP3.out.2.size)⟩
          clear cE t4 k4 z3 z0
          go_wp2_with fail
          (with_reducible refine (CR.out _).mono ?_)
          rintro e w5 ⟨rfl, k5⟩
          have HP5 : Hid (TAt w5 g T' ∧ Below w.heap.size w w5) := Go.Lib.hid ⟨HP4.out.1.below k5, chain HP4.out.2 k5⟩
          clear k5 HP4 y3
          go_wp2_with fail
          (with_reducible refine (len_any w5 HP5.out.1).mono ?_)
          rintro e w6 ⟨rfl, k6⟩
          have HP6 : Hid (TAt w6 g T' ∧ Below w.heap.size w w6) := Go.Lib.hid ⟨HP5.out.1.below k6, chain HP5.out.2 k6⟩
          clear k6 HP5
          rcases cd3 with rfl | rfl | rfl
          · have pc2 : T'.pcs ≤ 2 * (ed + 1) + 1 := by simp at pc'; omega
            go_wp2
            go_roundw
            case rel => exact ⟨k + 1, g, T', ed + 1, by omega, by omega, by go_num, rfl, rfl, by go_num, by omega, hl2, pc2, hg, OK', HP6⟩
            case measure => simp [RowKit.intOf]; omega
          · have pc2 : T'.pcs ≤ 2 * ed + 1 := by simp at pc'; omega
            go_wp2
            go_roundw
            case rel => exact ⟨k + 1, g, T', ed, by omega, by omega, by go_num, rfl, rfl, rfl, by omega, hl2, pc2, hg, OK', HP6⟩
            case measure => simp [RowKit.intOf]; omega
          · have pc2 : T'.pcs ≤ 2 * ed + 1 := by simp at pc'; omega
            go_wp2
            go_roundw
            case rel => exact ⟨k + 1, g, T', ed, by omega, by omega, by go_num, rfl, rfl, rfl, by omega, hl2, pc2, hg, OK', HP6⟩
            case measure => simp [RowKit.intOf]; omega
        · have FK : (yk : Int) % 4 = 1 := by omega
          obtain ⟨T', cd, hT', hcd, hEB, ok', pc', len', cd3⟩ := ed_facts fx tx [] HO.out
          have cE := delete_any fx tx W3 HP3.out.1 hTL (by omega)
          unfold Edit at cE
          rw [← hT', ← hcd] at cE
          have cR : ∀ w', Calls Try.prog 31 #[.string (bs T.bytes), .int .i64 fx, .int .i64 tx, .string { data := #[] }] w' (fun e w'' => e = .returned (.tuple #[.string (bs T'.bytes), .int .i64 cd]) ∧ Below w'.heap.size w' w'') := fun w' => by rw [← hEB, hcd]; exact ref_any T.bytes fx tx [] w' hTL (by first | omega | simp) IF.out IT.out
          have OK' := Go.Lib.hid ok'
          have CR := Go.Lib.hid cR
          have hz' := bs_size T'.bytes
          have hl2 : T'.bytes.length ≤ 300 + 200 * (k + 1) := by simp at len'; omega
          clear hT' hcd hEB ok' cR len'
          go_wp2_with fail
          (with_reducible refine cE.mono ?_)
          rintro e w4 ⟨rfl, t4, k4⟩
          have y3 := (k4.cell (p := ⟨N, 3, none⟩) hbs3 hgN).trans z3
          have HP4 : Hid (TAt w4 g T' ∧ Below w.heap.size w w4) := Go.Lib.hid ⟨t4, HP3.out.2.trans (k4.below hg HP3.out.2.size)⟩
          clear cE t4 k4 z3 z0
          go_wp2_with fail
          (with_reducible refine (CR.out _).mono ?_)
          rintro e w5 ⟨rfl, k5⟩
          have HP5 : Hid (TAt w5 g T' ∧ Below w.heap.size w w5) := Go.Lib.hid ⟨HP4.out.1.below k5, chain HP4.out.2 k5⟩
          clear k5 HP4 y3
          go_wp2_with fail
          (with_reducible refine (len_any w5 HP5.out.1).mono ?_)
          rintro e w6 ⟨rfl, k6⟩
          have HP6 : Hid (TAt w6 g T' ∧ Below w.heap.size w w6) := Go.Lib.hid ⟨HP5.out.1.below k6, chain HP5.out.2 k6⟩
          clear k6 HP5
          rcases cd3 with rfl | rfl | rfl
          · have pc2 : T'.pcs ≤ 2 * (ed + 1) + 1 := by simp at pc'; omega
            go_wp2
            go_roundw
            case rel => exact ⟨k + 1, g, T', ed + 1, by omega, by omega, by go_num, rfl, rfl, by go_num, by omega, hl2, pc2, hg, OK', HP6⟩
            case measure => simp [RowKit.intOf]; omega
          · have pc2 : T'.pcs ≤ 2 * ed + 1 := by simp at pc'; omega
            go_wp2
            go_roundw
            case rel => exact ⟨k + 1, g, T', ed, by omega, by omega, by go_num, rfl, rfl, rfl, by omega, hl2, pc2, hg, OK', HP6⟩
            case measure => simp [RowKit.intOf]; omega
          · have pc2 : T'.pcs ≤ 2 * ed + 1 := by simp at pc'; omega
            go_wp2
            go_roundw
            case rel => exact ⟨k + 1, g, T', ed, by omega, by omega, by go_num, rfl, rfl, rfl, by omega, hl2, pc2, hg, OK', HP6⟩
            case measure => simp [RowKit.intOf]; omega
        · have FK : (yk : Int) % 4 = 2 := by omega
          obtain ⟨T', cd, hT', hcd, hEB, ok', pc', len', cd3⟩ := ed_facts fx tx x HO.out
          have cE := rep_any fx tx x W3 HP3.out.1 hTL (by omega) (by omega)
          unfold Edit at cE
          rw [← hT', ← hcd] at cE
          have cR : ∀ w', Calls Try.prog 31 #[.string (bs T.bytes), .int .i64 fx, .int .i64 tx, .string (bs x)] w' (fun e w'' => e = .returned (.tuple #[.string (bs T'.bytes), .int .i64 cd]) ∧ Below w'.heap.size w' w'') := fun w' => by rw [← hEB, hcd]; exact ref_any T.bytes fx tx x w' hTL (by first | omega | simp) IF.out IT.out
          have OK' := Go.Lib.hid ok'
          have CR := Go.Lib.hid cR
          have hz' := bs_size T'.bytes
          have hl2 : T'.bytes.length ≤ 300 + 200 * (k + 1) := by omega
          clear hT' hcd hEB ok' cR len'
          go_wp2_with fail
          (with_reducible refine cE.mono ?_)
          rintro e w4 ⟨rfl, t4, k4⟩
          have y3 := (k4.cell (p := ⟨N, 3, none⟩) hbs3 hgN).trans z3
          have HP4 : Hid (TAt w4 g T' ∧ Below w.heap.size w w4) := Go.Lib.hid ⟨t4, HP3.out.2.trans (k4.below hg HP3.out.2.size)⟩
          clear cE t4 k4 z3 z0
          go_wp2_with fail
          (with_reducible refine (CR.out _).mono ?_)
          rintro e w5 ⟨rfl, k5⟩
          have HP5 : Hid (TAt w5 g T' ∧ Below w.heap.size w w5) := Go.Lib.hid ⟨HP4.out.1.below k5, chain HP4.out.2 k5⟩
          clear k5 HP4 y3
          go_wp2_with fail
          (with_reducible refine (len_any w5 HP5.out.1).mono ?_)
          rintro e w6 ⟨rfl, k6⟩
          have HP6 : Hid (TAt w6 g T' ∧ Below w.heap.size w w6) := Go.Lib.hid ⟨HP5.out.1.below k6, chain HP5.out.2 k6⟩
          clear k6 HP5
          rcases cd3 with rfl | rfl | rfl
          · have pc2 : T'.pcs ≤ 2 * (ed + 1) + 1 := by simp at pc'; omega
            go_wp2
            go_roundw
            case rel => exact ⟨k + 1, g, T', ed + 1, by omega, by omega, by go_num, rfl, rfl, by go_num, by omega, hl2, pc2, hg, OK', HP6⟩
            case measure => simp [RowKit.intOf]; omega
          · have pc2 : T'.pcs ≤ 2 * ed + 1 := by simp at pc'; omega
            go_wp2
            go_roundw
            case rel => exact ⟨k + 1, g, T', ed, by omega, by omega, by go_num, rfl, rfl, rfl, by omega, hl2, pc2, hg, OK', HP6⟩
            case measure => simp [RowKit.intOf]; omega
          · have pc2 : T'.pcs ≤ 2 * ed + 1 := by simp at pc'; omega
            go_wp2
            go_roundw
            case rel => exact ⟨k + 1, g, T', ed, by omega, by omega, by go_num, rfl, rfl, rfl, by omega, hl2, pc2, hg, OK', HP6⟩
            case measure => simp [RowKit.intOf]; omega
        · have FK : (yk : Int) % 4 = 3 := by omega
          have hc0 : codR 0 0 T.bytes.length [(115 : UInt8), 112, 111, 105, 108, 116].length = 0 := by unfold codR; rw [if_neg (by omega), if_neg (by simp; omega)]
          have cI : ∀ w4, TAt w4 g T → Calls Try.prog 23 #[.pointer (some ⟨g, 0, none⟩), .int .i64 0, .string { data := #[115, 112, 111, 105, 108, 116] }] w4 (fun e w' => e = .returned (.int .i64 0) ∧ But g w4 w') := fun w4 h4 => by
            have := insert_any 0 [115, 112, 111, 105, 108, 116] w4 h4 hTL (by omega) (by decide)
            unfold Edit at this
            rw [hc0] at this
            exact this.mono (fun e w' q => ⟨q.1, q.2.2⟩)
          have CI := Go.Lib.hid cI
          clear cI hc0
          go_wp2_with fail
          (with_reducible refine (snap_any W3 HP3.out.1).mono ?_)
          rintro e w4 ⟨g2, rfl, hg2, t4, k4⟩
          have tg := HP3.out.1.below k4
          have hg3 : g2 ≠ g := by obtain ⟨_, _, _, _, h9, _⟩ := HP3.out.1; omega
          have hg4 : w.heap.size ≤ g2 := by have := HP3.out.2.size; omega
          have HB4 : Hid (Below w.heap.size w w4) := Go.Lib.hid (chain HP3.out.2 k4)
          clear k4 z0 z3
          go_wp2_with fail
          (with_reducible refine (CI.out w4 tg).mono ?_)
          rintro e w5 ⟨rfl, k5⟩
          have HP5 : Hid (TAt w5 g2 T ∧ Below w.heap.size w w5) := Go.Lib.hid ⟨TAt.but k5 (by obtain ⟨_, _, h9, _⟩ := tg; exact h9) hg3 t4, HB4.out.trans (k5.below hg HB4.out.size)⟩
          clear k5 tg t4 HB4 CI
          go_wp2_with fail
          (with_reducible refine (len_any w5 HP5.out.1).mono ?_)
          rintro e w6 ⟨rfl, k6⟩
          have HP6 : Hid (TAt w6 g2 T ∧ Below w.heap.size w w6) := Go.Lib.hid ⟨HP5.out.1.below k6, chain HP5.out.2 k6⟩
          clear k6 HP5
          go_wp2
          go_roundw
          case rel => exact ⟨k + 1, g2, T, ed, by omega, by omega, by go_num, rfl, rfl, by go_num, by omega, by omega, by omega, hg4, HO, HP6⟩
          case measure => simp [RowKit.intOf]; omega
      · obtain rfl : k = 60 := by omega
        have hf : Fine T := fine_ok HO.out (by omega)
        go_wp2_with fail
        (with_reducible refine (str_any wr HP.out.1 hf).mono ?_)
        intro e w3 h3
        unfold TextR at h3
        obtain ⟨rfl, k3⟩ := h3
        go_wp2
        refine bodyPost_ret (v := .tuple #[.pointer (some ⟨g, 0, none⟩), .string (bs T.bytes), .int .i64 (ed : Nat), .bool true]) ?_ rfl ⟨g, T, ed, rfl, HP.out.1.below k3, HO.out, hTp, by omega, by omega, hg, chain HP.out.2 k3⟩
        simp [results, Try.results14, go_sem]
    · obtain rfl : k = no := by omega
      have hf : Fine T := fine_ok HO.out (by omega)
      go_wp2_with fail
      (with_reducible refine (str_any wr HP.out.1 hf).mono ?_)
      intro e w3 h3
      unfold TextR at h3
      obtain ⟨rfl, k3⟩ := h3
      go_wp2
      refine bodyPost_ret (v := .tuple #[.pointer (some ⟨g, 0, none⟩), .string (bs T.bytes), .int .i64 (ed : Nat), .bool true]) ?_ rfl ⟨g, T, ed, rfl, HP.out.1.below k3, HO.out, hTp, by omega, by omega, hg, chain HP.out.2 k3⟩
      simp [results, Try.results14, go_sem]
end Go.Proofs.Ytonplacldckbgaa

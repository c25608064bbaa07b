/- Layer 8: the texts SE SF. -/
import Derived.Test.YtbkpokipibgdfaaNE
import Derived.Test.YtbkpokipibgdfaaNF
import Derived.Test.YtbkpokipibgdfaaNI

/- Layer 8: EqualProps (28), Value (73), of a list with sorted keys. -/
namespace Go.Proofs.Ytbkpokipibgdfaa
open Go.RowKit Go.Lib
set_option linter.unusedVariables false

set_option maxRecDepth 100000 in
set_option maxHeartbeats 8000000 in
theorem eqprops_any (A B : Option Addr) (n m c d : Nat) (l l' : List Pr) (hl : l.length = n) (hl' : l'.length = m) (hc : n ≤ c ∧ c ≤ maxLen) (hd : m ≤ d ∧ d ≤ maxLen) (w : World) (hA : PrAt w A l) (hB : PrAt w B l') :
    Calls Try.prog 28 #[.slice A n c, .slice B m d] w fun e w' => e = .returned (.bool (decide (l = l'))) ∧ Below w.heap.size w w' := by
  have HL := Go.Lib.hid hl
  have HL' := Go.Lib.hid hl'
  obtain ⟨hc1, hc2⟩ := hc
  obtain ⟨hd1, hd2⟩ := hd
  unfold maxLen at hc2 hd2
  have HA := Go.Lib.hid hA
  have HB := Go.Lib.hid hB
  clear hl hl' hA hB
  by_cases hnm : n = m
  · subst hnm
    go_enter Try.func28, Try.ntmps28
    go_wp2
    go_loopw [5] (fun i wr => ∃ k : Nat, k ≤ n ∧ i = .int .i64 k ∧ Hid (Below w.heap.size w wr) ∧ Hid (∀ j (h : j < l.length) (h' : j < l'.length), j < k → l[j] = l'[j])) (fun i _ => n - (intOf i).toNat)
    case atStart => exact ⟨0, Nat.zero_le _, rfl, Go.Lib.hid (Below.refl _ _), Go.Lib.hid fun j _ _ h => by omega⟩
    case round =>
      obtain ⟨k, hk, rfl, HW, HN⟩ := hrel
      by_cases hlt : k < n
      · have hkl : k < l.length := by rw [HL.out]; exact hlt
        have hkl' : k < l'.length := by rw [HL'.out]; exact hlt
        rcases HA.out with hA0 | ⟨g, o, rfl, hg, hcl⟩
        · rw [hA0] at hkl; exact absurd hkl (Nat.not_lt_zero _)
        rcases HB.out with hB0 | ⟨g', o', rfl, hg', hcl'⟩
        · rw [hB0] at hkl'; exact absurd hkl' (Nat.not_lt_zero _)
        obtain ⟨a0, a1⟩ := hcl k hkl
        obtain ⟨b0, b1⟩ := hcl' k hkl'
        have c0 := (HW.out.cell (p := ⟨g, o + k * 2, none⟩) hg).trans a0
        have c1 := (HW.out.cell (p := ⟨g, o + k * 2 + 1, none⟩) hg).trans a1
        have d0 := (HW.out.cell (p := ⟨g', o' + k * 2, none⟩) hg').trans b0
        have d1 := (HW.out.cell (p := ⟨g', o' + k * 2 + 1, none⟩) hg').trans b1
        have HS := Go.Lib.hid (fun (he : l[k] = l'[k]) j (h : j < l.length) (h' : j < l'.length) (hj : j < k + 1) => if e : j = k then by subst e; exact he else HN.out j h h' (by omega))
        have HD := Go.Lib.hid (fun (he : l[k] ≠ l'[k]) => show decide (l = l') = false from decide_eq_false fun h => he (by subst h; rfl))
        clear hcl hcl' a0 a1 b0 b1
        generalize l[k] = x at c0 c1 HS HD
        generalize l'[k] = y at d0 d1 HS HD
        obtain ⟨xa, xb⟩ := x
        obtain ⟨ya, yb⟩ := y
        dsimp only at c0 c1 d0 d1
        by_cases h1 : xa = ya
        · by_cases h2 : xb = yb
          · have e1 : (xa == ya) = true := by simpa using h1
            have e2 : (xb == yb) = true := by simpa using h2
            have HE := Go.Lib.hid (show (xa, xb) = (ya, yb) by rw [h1, h2])
            clear h1 h2
            go_wp2
            go_quiet (fail)
            go_wp2
            go_roundw
            case rel => exact ⟨k + 1, by omega, by go_num, Go.Lib.hid (bdrew HW.out _), Go.Lib.hid (HS.out HE.out)⟩
            case measure => simp [intOf]; omega
          · have e1 : (xa == ya) = true := by simpa using h1
            have e2 : (xb == yb) = false := by simpa using h2
            have HE := Go.Lib.hid (show (xa, xb) ≠ (ya, yb) from fun h => h2 (congrArg Prod.snd h))
            clear h1 h2
            go_wp2
            go_quiet (fail)
            go_wp2
            go_ret
            exact ⟨ret_bool' (HD.out HE.out).symm, bdrew HW.out _⟩
        · have e1 : (xa == ya) = false := by simpa using h1
          have HE := Go.Lib.hid (show (xa, xb) ≠ (ya, yb) from fun h => h1 (congrArg Prod.fst h))
          clear h1
          go_wp2
          go_quiet (fail)
          go_wp2
          go_ret
          exact ⟨ret_bool' (HD.out HE.out).symm, bdrew HW.out _⟩
      · obtain rfl : k = n := by omega
        go_wp2
        go_ret
        exact ⟨ret_bool' (decide_eq_true (List.ext_getElem (HL.out.trans HL'.out.symm) fun j h h' => HN.out j h h' (by rw [← HL.out]; exact h))).symm, HW.out⟩
  · have HF := Go.Lib.hid (show decide (l = l') = false from decide_eq_false fun h => hnm (by rw [← HL.out, ← HL'.out, h]))
    have e1 : decide ((n : Int) = (m : Int)) = false := decide_eq_false (by omega)
    have e2 : ((n : Int) == (m : Int)) = false := by rw [beq_eq_false_iff_ne]; omega
    have e3 : ((n : Int) != (m : Int)) = true := by rw [bne_iff_ne]; omega
    clear hnm
    go_enter Try.func28, Try.ntmps28
    go_wp2
    go_ret
    exact ⟨ret_bool' HF.out.symm, Below.refl _ _⟩

theorem preset_anyB (p : Int) (w : World) : Calls Try.prog 82 #[.int .i64 p] w fun e w' => (∃ e0, e = .returned (.tuple #[.int .i64 (rowZ p).2.2.2.2.2, .int .i64 e0])) ∧ Below w.heap.size w w' := by
  by_cases h : ∃ r ∈ tabP, r.1 = p
  · refine (preset_yes p h w).mono ?_
    rintro e w' ⟨⟨r, hr, rfl, rfl⟩, hb⟩
    refine ⟨⟨0, ?_⟩, hb⟩
    unfold rowZ
    rw [rowOf_mem hr]
    rfl
  · refine (preset_no p h w).mono ?_
    rintro e w' ⟨rfl, hb⟩
    refine ⟨⟨4, ?_⟩, hb⟩
    unfold rowZ
    rw [rowOf_none h]
    rfl
/-- The value of a key: its default where the list lacks it. -/
def valP (o : List Pr) (p : Int) : Int := if getB o p = true then getV o p else (rowZ p).2.2.2.2.2
set_option maxRecDepth 100000 in
set_option maxHeartbeats 4000000 in
theorem value_any (o : List Pr) (hs : SortP o) (B : Option Addr) (n cb : Nat) (ho : o.length = n) (hn : n ≤ 1000) (hc : n ≤ cb ∧ cb ≤ maxLen) (p : Int) (w : World) (hB : PrAt w B o) :
    Calls Try.prog 73 #[.slice B n cb, .int .i64 p] w fun e w' => e = .returned (.int .i64 (valP o p)) ∧ Below w.heap.size w w' := by
  unfold valP
  by_cases hb : getB o p = true
  · rw [if_pos hb]
    exact value_yes o hs B n cb ho hn hc p hb w hB
  · rw [if_neg hb]
    have hb' : getB o p = false := by simpa using hb
    have cG := fun w' hB => get_any o hs B n cb ho hn hc p w' hB
    have cD := fun w' => preset_anyB p w'
    rw [hb'] at cG
    clear hb hb' ho
    go_enter Try.func73, Try.ntmps73
    go_wp2_with (first
      | (go_at_call 90; (with_reducible refine (cG _ hB).mono ?_); rintro e w1 ⟨rfl, hb1⟩)
      | (go_at_call 82; (with_reducible refine (cD _).mono ?_); rintro e w2 ⟨⟨e0, rfl⟩, hb2⟩))
    go_ret
    exact ⟨rfl, hb1.trans (hb2.mono hb1.size)⟩
end Go.Proofs.Ytbkpokipibgdfaa

/- Layer 8: chainsEnd (86). -/
namespace Go.Proofs.Ytbkpokipibgdfaa
open Go.RowKit Go.Shelf Go.Lib Go.Maps
set_option linter.unusedVariables false
attribute [local go_sem] Oper.semAt_some

def wsA (ws : List Nat) : Array Value := (ws.map fun x => Value.int .i64 (x : Nat)).toArray
/-- No two styles have one id. -/
def Uni (l : List St) : Prop := ∀ k (h : k < l.length), plc l l[k].id = some k
theorem info3' : (Try.prog.info? 3).map (fun i => (i.zero, i.size, i.bytes)) = some (some (.int .i64 0), 1, 8) := by kernel_rfl
theorem make_ints (n : Nat) (h : n ≤ 1000) (w : World) : (Instr.makeSlice 38 (.int .i64 (n : Nat)) (.int .i64 (n : Nat))).run Try.prog w = .ok (.slice (some ⟨w.heap.size, 0, none⟩) n n) (w.alloc (.cells (madeCells #[.int .i64 0] n) 3)) := by
  obtain ⟨i, hi, hzz⟩ := Option.map_eq_some_iff.1 info3'
  simp only [Prod.mk.injEq] at hzz
  obtain ⟨hz, hs, hb⟩ := hzz
  have hr := run_make (P := Try.prog) w 38 3 i _ Try.underlying38 hi hz .i64 .i64 n n (by omega) (Int.le_refl _) (by rw [hb]; omega) (by omega)
  simp only [Int.toNat_natCast, hs, Nat.mul_one] at hr
  exact hr
theorem made_ws (n : Nat) : madeCells #[.int .i64 0] n = wsA (List.replicate n 0) := by
  unfold wsA madeCells
  apply Array.ext
  · simp
  · intro i h1 h2
    simp [Nat.mod_one]
theorem wsA_set (ws : List Nat) (x : Nat) (v : Nat) : (wsA ws).modify x (fun _ => .int .i64 (v : Nat)) = wsA (ws.set x v) := by
  unfold wsA
  apply Array.ext
  · simp
  · intro i h1 h2
    simp only [List.modify_toArray, List.getElem_toArray, List.getElem_modify, List.getElem_map, List.getElem_set]
    by_cases e : x = i
    · rw [if_pos e, if_pos e]
    · rw [if_neg e, if_neg e]
theorem first_mem {l : List St} {k : Nat} {pre : List Nat} (h : ChP l (some k) pre) (hne : pre ≠ []) : k ∈ pre := by
  cases pre with
  | nil => exact absurd rfl hne
  | cons y t =>
    have := h [] y t rfl
    rw [nxt_nil] at this
    cases this
    exact List.mem_cons_self ..
/-- What has come is not empty, or the walk's first style has been seen ahead of it. -/
theorem hit_or {l : List St} {k x : Nat} {ws pre ws' : List Nat} (hin : Inn l k ws pre ws') (hc : ChP l (some k) pre) (hn : nxt l (some k) pre = some x) (hx : x < ws'.length) (e0 : ws'[x] ≠ 0) : k ∈ pre ∨ ∀ h : k < ws.length, ws[k] ≠ 0 := by
  by_cases hp : pre = []
  · subst hp
    rw [nxt_nil] at hn
    cases hn
    exact .inr fun h => by rw [← hin.old k hx h (by simp)]; exact e0
  · exact .inl (first_mem hc hp)
/-- What a round of chainsEnd starts with. -/
def CZ (l : List St) (A : Option Addr) (m d b : Nat) (w : World) (n : Nat) (fr : Act) (W : World) : Prop :=
  ∃ (u4 u5 u6 u7 u16 u17 u18 u19 u20 u21 u22 u23 u24 u25 u26 u27 u28 u29 u30 u31 u32 u33 u34 u35 u36 u37 u38 u39 u40 u41 u42 : Value) (Ds : List Nat) (k : Nat) (ws : List Nat), fr = { tmps := #[.agg #[.slice A m d, .map (some b)], .pointer (some ⟨w.heap.size, 0, none⟩), .pointer (some ⟨w.heap.size + 1, 0, none⟩), .pointer (some ⟨w.heap.size + 1 + 1 + 1, 0, none⟩), u4, u5, u6, u7, .pointer (some ⟨w.heap.size, 0, none⟩), .slice A m d, .int .i64 (m : Nat), .slice (some ⟨w.heap.size + 1 + 1, 0, none⟩) m m, .pointer (some ⟨w.heap.size, 0, none⟩), .slice A m d, .int .i64 (m : Nat), .int .i64 (k : Nat), u16, u17, u18, u19, u20, u21, u22, u23, u24, u25, u26, u27, u28, u29, u30, u31, u32, u33, u34, u35, u36, u37, u38, u39, u40, u41, u42], defers := Ds.map mkD } ∧ n + k = m ∧
    ObjAt W w.heap.size #[.slice A m d, .map (some b)] 73 ∧ Boxed W (w.heap.size + 1) 4 (.bool false) ∧ ObjAt W (w.heap.size + 1 + 1) (wsA ws) 3 ∧ Boxed W (w.heap.size + 1 + 1 + 1) 38 (.slice (some ⟨w.heap.size + 1 + 1, 0, none⟩) m m) ∧
    WInv l k ws ∧ Below w.heap.size w W ∧ Marks w.heap.size Ds W
/-- What a round of the walk keeps. -/
def CI (l : List St) (A : Option Addr) (m d b : Nat) (w : World) (k : Nat) (ws Ds : List Nat) (G : Nat) (i : Int) (pre : List Nat) (V : World) : Prop :=
  (∃ ws', ObjAt V (w.heap.size + 1 + 1) (wsA ws') 3 ∧ Inn l k ws pre ws') ∧ ObjAt V w.heap.size #[.slice A m d, .map (some b)] 73 ∧ Boxed V (w.heap.size + 1) 4 (.bool false) ∧
    Boxed V (w.heap.size + 1 + 1 + 1) 38 (.slice (some ⟨w.heap.size + 1 + 1, 0, none⟩) m m) ∧ Boxed V (G + 1) 3 (.int .i64 ((k : Int) + 1)) ∧ ChP l (plc l i) pre ∧ Below w.heap.size w V ∧ Marks w.heap.size Ds V
/-- How a walk is left. -/
def CX (l : List St) (A : Option Addr) (m d b : Nat) (w : World) (k : Nat) (Ds : List Nat) (c : Code) (pre : List Nat) (V : World) : Prop :=
  ObjAt V w.heap.size #[.slice A m d, .map (some b)] 73 ∧ Boxed V (w.heap.size + 1) 4 (.bool false) ∧
    Boxed V (w.heap.size + 1 + 1 + 1) 38 (.slice (some ⟨w.heap.size + 1 + 1, 0, none⟩) m m) ∧ Below w.heap.size w V ∧ Marks w.heap.size Ds V ∧
    ((c = .ret ∧ endB l = false) ∨ (c = .exit 2 ∧ ∃ ws', ObjAt V (w.heap.size + 1 + 1) (wsA ws') 3 ∧ WInv l (k + 1) ws'))
theorem own_ws {B g : Nat} {β : Type} (R : β → List Nat → Prop) : OwnT TZ B (fun (s : β) V => ∃ ws', ObjAt V g (wsA ws') 3 ∧ R s ws') := by
  rintro s A C row ⟨ws', h, hi⟩ hg hr
  exact ⟨ws', h.kept hg (not_turned h rfl hr), hi⟩
theorem own_ci {l : List St} {A : Option Addr} {m d b : Nat} {w : World} {k : Nat} {ws Ds : List Nat} {G : Nat} {i : Int} {B : Nat} (hB : w.heap.size ≤ B) (hD : ∀ D ∈ Ds, D < B) : OwnT TZ B (CI l A m d b w k ws Ds G i) :=
  OwnT.and (own_ws (fun pre ws' => Inn l k ws pre ws')) (OwnT.and (OwnT.obj rfl (fun _ => _)) (OwnT.and (OwnT.boxed rfl (fun _ => _)) (OwnT.and (OwnT.boxed rfl (fun _ => _)) (OwnT.and (OwnT.boxed rfl (fun _ => _)) (OwnT.and OwnT.pure (OwnT.and (OwnT.below (Nat.le_refl _) hB) (own_marks hD)))))))
theorem own_cx {l : List St} {A : Option Addr} {m d b : Nat} {w : World} {k : Nat} {Ds : List Nat} {B : Nat} (hB : w.heap.size ≤ B) (hD : ∀ D ∈ Ds, D < B) (c : Code) : OwnT TZ B (CX l A m d b w k Ds c) := by
  refine OwnT.and (OwnT.obj rfl (fun _ => _)) (OwnT.and (OwnT.boxed rfl (fun _ => _)) (OwnT.and (OwnT.boxed rfl (fun _ => _)) (OwnT.and (OwnT.below (Nat.le_refl _) hB) (OwnT.and (own_marks hD) ?_))))
  rintro s A' C row (h | ⟨h1, ws', h, hi⟩) hg hr
  · exact .inl h
  · exact .inr ⟨h1, ws', h.kept hg (not_turned h rfl hr), hi⟩
set_option maxRecDepth 100000 in
set_option maxHeartbeats 16000000 in
theorem chainsend_in (l : List St) (hok : LsOk l) (hun : Uni l) (A : Option Addr) (m d b : Nat) (w : World) (h : ShAt w A m d b l) :
    CallsIn Fence.wide 7 Try.prog 86 #[.agg #[.slice A m d, .map (some b)]] w fun e w' => e = .returned (.bool (endB l)) ∧ Below w.heap.size w w' := by
  have HH := Go.Lib.hid h
  have HO := Go.Lib.hid hok
  have HU := Go.Lib.hid hun
  have hsm := h.small
  have hmk := fun w' => make_ints m hsm w'
  clear h hok hun
  refine callsIn_of_wp_marks Try.func86 rfl trivial ?_ rfl
  simp only [Try.ntmps86, List.size_toArray, List.length_cons, List.length_nil, Nat.reduceAdd, Nat.reduceSub, Array.replicate_succ, Array.replicate_zero, List.push_toArray, List.append_toArray, List.nil_append, List.cons_append]
  refine wpIn_wide.2 ?_
  go_wp2_with fail
  have HB0 := Go.Lib.hid (((((Below.refl w.heap.size w).alloc (Nat.le_refl _) (.cells #[.slice A m d, .map (some b)] 73)).alloc (by simp) (.cells #[.bool false] 4)).alloc (by simp; omega) (.cells (madeCells #[.int .i64 0] m) 3)).alloc (by simp; omega) (.cells #[.slice (some ⟨w.heap.size + 1 + 1, 0, none⟩) m m] 38))
  have o1 := (((ObjAt.new w #[.slice A m d, .map (some b)] 73).alloc (.cells #[.bool false] 4)).alloc (.cells (madeCells #[.int .i64 0] m) 3)).alloc (.cells #[.slice (some ⟨w.heap.size + 1 + 1, 0, none⟩) m m] 38)
  have o2 := ((Boxed.new (w.alloc (.cells #[.slice A m d, .map (some b)] 73)) 4 (.bool false)).alloc (.cells (madeCells #[.int .i64 0] m) 3)).alloc (.cells #[.slice (some ⟨w.heap.size + 1 + 1, 0, none⟩) m m] 38)
  rw [World.size_alloc] at o2
  have o3 := (ObjAt.new ((w.alloc (.cells #[.slice A m d, .map (some b)] 73)).alloc (.cells #[.bool false] 4)) (madeCells #[.int .i64 0] m) 3).alloc (.cells #[.slice (some ⟨w.heap.size + 1 + 1, 0, none⟩) m m] 38)
  rw [World.size_alloc, World.size_alloc] at o3
  have o4 := Boxed.new (((w.alloc (.cells #[.slice A m d, .map (some b)] 73)).alloc (.cells #[.bool false] 4)).alloc (.cells (madeCells #[.int .i64 0] m) 3)) 38 (.slice (some ⟨w.heap.size + 1 + 1, 0, none⟩) m m)
  rw [World.size_alloc, World.size_alloc, World.size_alloc] at o4
  have O3 := Go.Lib.hid (show ObjAt _ (w.heap.size + 1 + 1) (wsA (List.replicate l.length 0)) 3 from by rw [HH.out.len, ← made_ws]; exact o3)
  have O1 := Go.Lib.hid o1
  have O2 := Go.Lib.hid o2
  have O4 := Go.Lib.hid o4
  clear o1 o2 o3 o4 hmk
  refine (wpIn_wide (n := 7)).1 ?_
  refine wpIn_loop_ghost (CZ l A m d b w) m ?start ?round
  case start =>
    exact ⟨_, _, _, _, _, _, _, _, _, _, _, _, _, _, _, _, _, _, _, _, _, _, _, _, _, _, _, _, _, _, _, [], 0, _, rfl, rfl, O1.out, O2.out, O3.out, O4.out, WInv.start l, HB0.out, ⟨List.nodup_nil, fun D h => by cases h⟩⟩
  case round =>
    clear O1 O2 O3 O4 HB0
    rintro n fr W ⟨u4, u5, u6, u7, u16, u17, u18, u19, u20, u21, u22, u23, u24, u25, u26, u27, u28, u29, u30, u31, u32, u33, u34, u35, u36, u37, u38, u39, u40, u41, u42, Ds, k, ws, rfl, hnk, h1, h2, h3, h4, h5, h6, h7⟩
    refine wpIn_wide.2 ?_
    have H1 := Go.Lib.hid h1
    have H2 := Go.Lib.hid h2
    have H3 := Go.Lib.hid h3
    have H4 := Go.Lib.hid h4
    have H5 := Go.Lib.hid h5
    have H6 := Go.Lib.hid h6
    have H7 := Go.Lib.hid h7
    clear h1 h2 h3 h4 h5 h6 h7
    by_cases hlt : k < m
    · have hkl : k < l.length := by rw [HH.out.len]; exact hlt
      obtain ⟨g, o, rfl, hg, hcl⟩ := HH.out.list.pos (by omega)
      obtain ⟨B, cc, z0, z1, z2, z3, z4, z5, z6⟩ := (hcl k hkl)
      replace z0 := (H6.out.cell (p := ⟨g, o + k * 6, none⟩) hg).trans z0
      replace z1 := (H6.out.cell (p := ⟨g, o + k * 6 + 1, none⟩) hg).trans z1
      replace z2 := (H6.out.cell (p := ⟨g, o + k * 6 + 2, none⟩) hg).trans z2
      replace z3 := (H6.out.cell (p := ⟨g, o + k * 6 + 3, none⟩) hg).trans z3
      replace z4 := (H6.out.cell (p := ⟨g, o + k * 6 + 4, none⟩) hg).trans z4
      replace z5 := (H6.out.cell (p := ⟨g, o + k * 6 + 5, none⟩) hg).trans z5
      have HUk := Go.Lib.hid (HU.out k hkl)
      have HI := Go.Lib.hid (HO.out l[k] (List.getElem_mem hkl)).1
      clear hcl z6
      generalize l[k] = x at z0 z1 z2 z3 z4 z5 HUk HI
      obtain ⟨a1, a2, a3, a4, a5, ps⟩ := x
      dsimp only at z0 z1 z2 z3 z4 z5 HUk HI
      have cF := fun i w' => chainF_any (some ⟨g, o, none⟩) m d b i w'
      have b0 := H1.out.a0
      have b1 := H1.out.a1
      obtain ⟨G, hG⟩ : ∃ G, W.heap.size = G := ⟨_, rfl⟩
      obtain ⟨W4, hW4⟩ : ∃ W4, W4 = (((W.alloc (.cells #[.int .i64 a1, .int .i64 a2, .string a3, .int .i64 a4, .int .i64 a5, .slice B ps.length cc] 28)).alloc (.cells #[.int .i64 ((k : Int) + 1)] 3)).alloc (.cells #[.slice (some ⟨g, o, none⟩) m d, .map (some b)] 73)).alloc (.cells #[.int .i64 a1] 3) := ⟨_, rfl⟩
      have q0 := ((H1.out.alloc (.cells #[.int .i64 a1, .int .i64 a2, .string a3, .int .i64 a4, .int .i64 a5, .slice B ps.length cc] 28)).alloc (.cells #[.int .i64 ((k : Int) + 1)] 3)).a0
      have q1 := ((H1.out.alloc (.cells #[.int .i64 a1, .int .i64 a2, .string a3, .int .i64 a4, .int .i64 a5, .slice B ps.length cc] 28)).alloc (.cells #[.int .i64 ((k : Int) + 1)] 3)).a1
      go_wp2_with fail
      (with_reducible refine (cF _ _).mono ?_)
      rintro e w2 ⟨rfl, rfl⟩
      clear cF
      go_wp2_with fail
      clear q0 q1 b0 b1 z0 z1 z2 z3 z4 z5
      have C1 := Go.Lib.hid (show ObjAt W4 w.heap.size #[.slice (some ⟨g, o, none⟩) m d, .map (some b)] 73 from by rw [hW4]; exact (((H1.out.alloc _).alloc _).alloc _).alloc _)
      have C2 := Go.Lib.hid (show Boxed W4 (w.heap.size + 1) 4 (.bool false) from by rw [hW4]; exact (((Boxed.alloc H2.out _).alloc _).alloc _).alloc _)
      have C3 := Go.Lib.hid (show ObjAt W4 (w.heap.size + 1 + 1) (wsA ws) 3 from by rw [hW4]; exact (((H3.out.alloc _).alloc _).alloc _).alloc _)
      have C4 := Go.Lib.hid (show Boxed W4 (w.heap.size + 1 + 1 + 1) 38 (.slice (some ⟨w.heap.size + 1 + 1, 0, none⟩) m m) from by rw [hW4]; exact (((Boxed.alloc H4.out _).alloc _).alloc _).alloc _)
      have C5 := Go.Lib.hid (show Boxed W4 (G + 1) 3 (.int .i64 ((k : Int) + 1)) from by
        rw [hW4]
        have := ((Boxed.new (W.alloc (.cells #[.int .i64 a1, .int .i64 a2, .string a3, .int .i64 a4, .int .i64 a5, .slice B ps.length cc] 28)) 3 (.int .i64 ((k : Int) + 1))).alloc (.cells #[.slice (some ⟨g, o, none⟩) m d, .map (some b)] 73)).alloc (.cells #[.int .i64 a1] 3)
        rw [World.size_alloc, hG] at this; exact this)
      have C6 := Go.Lib.hid (show ObjAt W4 (G + 1 + 1) #[.slice (some ⟨g, o, none⟩) m d, .map (some b)] 73 from by
        rw [hW4]
        have := (ObjAt.new ((W.alloc (.cells #[.int .i64 a1, .int .i64 a2, .string a3, .int .i64 a4, .int .i64 a5, .slice B ps.length cc] 28)).alloc (.cells #[.int .i64 ((k : Int) + 1)] 3)) #[.slice (some ⟨g, o, none⟩) m d, .map (some b)] 73).alloc (.cells #[.int .i64 a1] 3)
        rw [World.size_alloc, World.size_alloc, hG] at this; exact this)
      have C7 := Go.Lib.hid (show Boxed W4 (G + 1 + 1 + 1) 3 (.int .i64 a1) from by
        rw [hW4]
        have := Boxed.new (((W.alloc (.cells #[.int .i64 a1, .int .i64 a2, .string a3, .int .i64 a4, .int .i64 a5, .slice B ps.length cc] 28)).alloc (.cells #[.int .i64 ((k : Int) + 1)] 3)).alloc (.cells #[.slice (some ⟨g, o, none⟩) m d, .map (some b)] 73)) 3 (.int .i64 a1)
        rw [World.size_alloc, World.size_alloc, World.size_alloc, hG] at this; exact this)
      have hs6 := H6.out.size
      rw [hG] at hs6
      have h3lt := H4.out.lt
      rw [hG] at h3lt
      have C8 := Go.Lib.hid (show Below w.heap.size w W4 from by rw [hW4]; exact (((H6.out.alloc (by omega) _).alloc (by simp; omega) _).alloc (by simp; omega) _).alloc (by simp; omega) _)
      have C9 := Go.Lib.hid (show Marks w.heap.size Ds W4 from by rw [hW4]; exact (((H7.out.alloc _).alloc _).alloc _).alloc _)
      have s4 : W4.heap.size = G + 1 + 1 + 1 + 1 := by rw [hW4]; simp [hG]
      have hDs : ∀ D ∈ Ds, D < G := fun D hD => by have := H7.out.lt D hD; rw [hG] at this; exact this
      rw [← hW4]
      clear hW4
      have NXT := Go.Lib.hid (fun (D : Nat) (V : World) (ws' : List Nat) (hD : W4.heap.size ≤ D) (c1 : ObjAt V w.heap.size #[.slice (some ⟨g, o, none⟩) m d, .map (some b)] 73) (c2 : Boxed V (w.heap.size + 1) 4 (.bool false)) (c0 : ObjAt V (w.heap.size + 1 + 1) (wsA ws') 3) (c3 : Boxed V (w.heap.size + 1 + 1 + 1) 38 (.slice (some ⟨w.heap.size + 1 + 1, 0, none⟩) m m)) (hw : WInv l (k + 1) ws') (c6 : Below w.heap.size w V) (c7 : Marks w.heap.size Ds V) (hK : V.heap[D]? = some (.deferred (some []))) =>
        (⟨c1, c2, c0, c3, hw, c6, c7.snoc (by omega) hK (fun h => by have := hDs D h; omega)⟩ : ObjAt V w.heap.size #[.slice (some ⟨g, o, none⟩) m d, .map (some b)] 73 ∧ Boxed V (w.heap.size + 1) 4 (.bool false) ∧ ObjAt V (w.heap.size + 1 + 1) (wsA ws') 3 ∧ Boxed V (w.heap.size + 1 + 1 + 1) 38 (.slice (some ⟨w.heap.size + 1 + 1, 0, none⟩) m m) ∧ WInv l (k + 1) ws' ∧ Below w.heap.size w V ∧ Marks w.heap.size (D :: Ds) V))
      refine (wpIn_wide (n := 7)).1 ?_
      refine rangeH1 (T := TZ) (Bs := G + 1 + 1) (G := fun pre V => pre.length < m + 1 ∧ Below w.heap.size w V) rfl (by decide) (gf := 69) (lb := #[.pointer (some ⟨G + 1 + 1, 0, none⟩), .pointer (some ⟨G + 1 + 1 + 1, 0, none⟩)]) rfl trivial (enters_of Try.func69 (by kernel_rfl) rfl)
        (by omega) (chain_any 6 (by decide) (G + 1 + 1) (G + 1 + 1 + 1) (some ⟨g, o, none⟩) m d b (m + 1) l a1 HI.out HO.out w.heap.size w W4 rfl HH.out C6.out C7.out)
        (CI l (some ⟨g, o, none⟩) m d b w k ws Ds G a1) (CX l (some ⟨g, o, none⟩) m d b w k Ds) ?hig (own_ci (by omega) (fun D hD => by have := hDs D hD; omega)) (own_cx (by omega) (fun D hD => by have := hDs D hD; omega))
        ⟨⟨ws, C3.out, Inn.start H5.out.1⟩, C1.out, C2.out, C4.out, C5.out, ChP.nil _ _, C8.out, C9.out⟩ ?inner ?done ?stop
      case hig =>
        rintro pre V ⟨⟨ws', _, hi⟩, _, _, _, _, hch, hbl, _⟩
        have := nodup_le m pre hi.nod (fun x hx => by have := ChP.lt hch x hx; rw [HH.out.len] at this; exact this)
        exact ⟨by omega, hbl⟩
      case inner =>
        clear C1 C2 C3 C4 C5 C6 C7 C8 C9
        rintro L pre x V hI hlt' hsp hl hlV
        rw [s4] at hl
        gi_wp2
        refine ⟨KeepsFrom.refl _ _, Kpt.refl _, hI, ?_⟩
        rintro V' hg ⟨⟨ws', hw', hin⟩, hsh, hres, hwb, hwk, hch, hbl, hmk⟩
        have hVs := hg.size
        have hxl := nxt_lt (hsp pre x [] rfl)
        have hxm : x < m := by rw [← HH.out.len]; exact hxl
        have hxw : x < ws'.length := by rw [hin.len]; exact hxl
        have f0 : (0 : Int) ≤ (x : Int) := by omega
        have f1 : (x : Int) < (m : Int) := by omega
        have y0 := hw'.get (k := x) (v := .int .i64 (ws'[x] : Nat)) (by unfold wsA; simp [hxw])
        have y1 := hwb.cell
        have y2 := hwk.cell
        have y3 := hres.cell
        have y4 := hres.frozen
        have HIN := Go.Lib.hid hin
        have HCI := Go.Lib.hid (show CI l (some ⟨g, o, none⟩) m d b w k ws Ds G a1 pre V' from ⟨⟨ws', hw', hin⟩, hsh, hres, hwb, hwk, hch, hbl, hmk⟩)
        clear hI hg hin
        by_cases e1 : ws'[x] = k + 1
        · have d1 : ((ws'[x] : Int) == (k : Int) + 1) = true := by rw [beq_iff_eq]; omega
          have HX := Go.Lib.hid (HIN.out.seen H5.out hxw e1)
          have HNE := Go.Lib.hid (show endB l = false from by
            obtain ⟨q1, q2⟩ := hsp.init
            have := not_ends q1 q2 HX.out
            rw [HUk.out] at this
            exact endB_no hkl this)
          have HFIN := Go.Lib.hid (show KeepsFrom W4.heap.size V' (V'.setCell ⟨w.heap.size + 1, 0, none⟩ (.bool false)).drew ∧ CX l (some ⟨g, o, none⟩) m d b w k Ds .ret (pre ++ [x]) (V'.setCell ⟨w.heap.size + 1, 0, none⟩ (.bool false)).drew from by
            obtain ⟨_, c1, c2, c3, _, _, c6, c7⟩ := HCI.out
            have kf := KeepsFrom.of_grownBy (B := W4.heap.size) (grownBy_setCell' V' (w.heap.size + 1) (.bool false)) (fun j e => by cases e; omega)
            exact ⟨⟨kf.size, kf.same⟩, (c1.other (by omega) 0 _).drew, c2.set _, boxed_other c3 (by omega) _, bdrew1 (c6.grown (grownBy_setCell' _ _ _) c6.size (fun j e => by cases e; omega)), marks_set c7 (show ObjAt V' (w.heap.size + 1) #[.bool false] 4 from c2) 0 _, .inl ⟨rfl, HNE.out⟩⟩)
          clear hw' hsh hres hwb hwk hch hbl hmk e1
          gi_wp2
          gi_region
          all_goals gi_wp2
          all_goals exact HFIN.out
        · have d1 : ((ws'[x] : Int) == (k : Int) + 1) = false := by rw [beq_eq_false_iff_ne]; omega
          by_cases e2 : ws'[x] = 0
          · have d2 : ((ws'[x] : Int) != 0) = false := by simp; omega
            have y5 := hw'.frozen x
            have HFIN := Go.Lib.hid (show KeepsFrom W4.heap.size V' (V'.setCell ⟨w.heap.size + 1 + 1, x, none⟩ (.int .i64 ((k : Int) + 1))).drew ∧ Kpt TZ (G + 1 + 1) V' (V'.setCell ⟨w.heap.size + 1 + 1, x, none⟩ (.int .i64 ((k : Int) + 1))).drew ∧ CI l (some ⟨g, o, none⟩) m d b w k ws Ds G a1 (pre ++ [x]) (V'.setCell ⟨w.heap.size + 1 + 1, x, none⟩ (.int .i64 ((k : Int) + 1))).drew from by
              obtain ⟨_, c1, c2, c3, c4, c5, c6, c7⟩ := HCI.out
              have kf := KeepsFrom.of_grownBy (B := W4.heap.size) (grown_set V' (w.heap.size + 1 + 1) x (.int .i64 ((k : Int) + 1))) (fun j e => by cases e; omega)
              have kp := Kpt.of_grownBy (T := TZ) (Bs := G + 1 + 1) (by omega) (grown_set V' (w.heap.size + 1 + 1) x (.int .i64 ((k : Int) + 1))) (fun r e => by cases e; exact ⟨by omega, _, hw', rfl⟩)
              have hset := hw'.set x (.int .i64 ((k : Int) + 1))
              have e9 : ((k : Int) + 1) = ((k + 1 : Nat) : Int) := by omega
              have d2' := Boxed.kept c2 (grown_set V' (w.heap.size + 1 + 1) x (.int .i64 ((k : Int) + 1))) (by simp)
              have d3' := Boxed.kept c3 (grown_set V' (w.heap.size + 1 + 1) x (.int .i64 ((k : Int) + 1))) (by simp)
              have d4' := Boxed.kept c4 (grown_set V' (w.heap.size + 1 + 1) x (.int .i64 ((k : Int) + 1))) (by simp; omega)
              refine ⟨⟨kf.size, kf.same⟩, ⟨kp.size, kp.str, kp.same⟩, ⟨ws'.set x (k + 1), ?_, HIN.out.step hxw e2⟩, (c1.other (by omega) x _).drew, ?_, ?_, ?_, hsp, bdrew1 (c6.grown (grown_set _ _ _ _) c6.size (fun j e => by cases e; omega)), marks_set c7 hw' x _⟩
              · rw [e9, wsA_set] at hset
                rw [e9]
                exact hset
              · exact d2'
              · exact d3'
              · exact d4')
            clear hw' hsh hres hwb hwk hch hbl hmk e1 e2
            gi_wp2
            gi_region
            all_goals gi_wp2
            all_goals exact HFIN.out
          · have d2 : ((ws'[x] : Int) != 0) = true := by rw [bne_iff_ne]; omega
            have HFIN := Go.Lib.hid (show KeepsFrom W4.heap.size V' V'.drew ∧ CX l (some ⟨g, o, none⟩) m d b w k Ds (.exit 2) (pre ++ [x]) V'.drew from by
              obtain ⟨_, c1, c2, c3, _, _, c6, c7⟩ := HCI.out
              obtain ⟨q1, q2⟩ := hsp.init
              have hel := HIN.out.elder H5.out hxw e1 e2
              have hen := (ends_back pre q1 (by rw [q2]; exact hel)).2
              rw [HUk.out] at q1 q2
              exact ⟨⟨Nat.le_refl _, fun _ _ _ h _ => h⟩, c1.drew, c2, c3, bdrew1 c6, c7, .inr ⟨rfl, ws', hw'.drew, HIN.out.done H5.out hen (hit_or HIN.out q1 q2 hxw e2)⟩⟩)
            clear hw' hsh hres hwb hwk hch hbl hmk e1 e2
            gi_wp2
            gi_region
            all_goals gi_wp2
            all_goals exact HFIN.out
      case done =>
        clear C1 C2 C3 C4 C5 C6 C7 C8 C9
        rintro D xs V hD hxs ⟨⟨ws', hw', hin⟩, c1, c2, c3, c4, c5, c6, c7⟩ hK
        have hch := hxs.1
        have hen := (ends_back xs hch (by rw [hxs.2]; exact Ends.none l)).2
        have hki : k ∈ xs := by
          rw [HUk.out] at hch hxs
          refine first_mem hch (fun e => ?_)
          have := hxs.2
          rw [e, nxt_nil] at this
          cases this
        have HF := Go.Lib.hid (NXT.out D V ws' hD c1 c2 hw' c3 (hin.done H5.out hen (.inl hki)) c6 c7 hK)
        clear hw' hin c1 c2 c3 c4 c5 c6 c7 hch hen hki hxs
        go_wp2_with fail
        obtain ⟨k1, k2, k3, k4, k5, k6, k7⟩ := HF.out
        exact ⟨m - (k + 1), by omega, _, _, _, _, _, _, _, _, _, _, _, _, _, _, _, _, _, _, _, _, _, _, _, _, _, _, _, _, _, _, _, D :: Ds, k + 1, ws', rfl, by omega, k1, k2, k3, k4, k5, k6, k7⟩
      case stop =>
        clear C1 C2 C3 C4 C5 C6 C7 C8 C9
        rintro D c pre V hD hSp ⟨c1, c2, c3, c6, c7, hcx⟩ hK
        rcases hcx with ⟨rfl, hne⟩ | ⟨rfl, ws', hw', hwi⟩
        · have HNE := Go.Lib.hid hne
          have HMK := Go.Lib.hid (c7.snoc (by omega) hK (fun h => by have := hDs D h; omega))
          have K2 := Go.Lib.hid c2
          have K6 := Go.Lib.hid c6
          clear c1 c2 c3 c6 c7 hSp hK hne
          gi_wp2
          refine leaves_marks (lo := w.heap.size) (fun U => Below w.heap.size w U ∧ ObjAt U (w.heap.size + 1) #[.bool false] 4) ?_ ?_ (D :: Ds) _ ⟨K6.out, K2.out⟩ HMK.out
          · rintro U D' ⟨k1, k2⟩ hD' hK'
            exact ⟨below_putM k1 hD' _, obj_putM k2 hK' rfl⟩
          · rintro U ⟨k1, k2⟩
            have t0 := Boxed.cell (show Boxed U (w.heap.size + 1) 4 (.bool false) from k2)
            exact ⟨.bool false, by simp [results, Try.results86, go_sem, t0], by rw [HNE.out], k1⟩
        · have HF := Go.Lib.hid (NXT.out D V ws' hD c1 c2 hw' c3 hwi c6 c7 hK)
          clear hw' hwi c1 c2 c3 c6 c7 hSp
          gi_wp2
          go_wp2_with fail
          obtain ⟨k1, k2, k3, k4, k5, k6, k7⟩ := HF.out
          exact ⟨m - (k + 1), by omega, _, _, _, _, _, _, _, _, _, _, _, _, _, _, _, _, _, _, _, _, _, _, _, _, _, _, _, _, _, _, _, D :: Ds, k + 1, ws', rfl, by omega, k1, k2, k3, k4, k5, k6, k7⟩
    · obtain rfl : k = m := by omega
      have y0 := Boxed.cell H2.out
      have y1 := Boxed.frozen H2.out
      have HE := Go.Lib.hid (show endB l = true from endB_yes (WInv.all (ws := ws) (by rw [HH.out.len]; exact H5.out)))
      have HMK := Go.Lib.hid (marks_set H7.out (show ObjAt W (w.heap.size + 1) #[.bool false] 4 from H2.out) 0 (.bool true))
      have K2 := Go.Lib.hid (show ObjAt (W.setCell ⟨w.heap.size + 1, 0, none⟩ (.bool true)) (w.heap.size + 1) #[.bool true] 4 from Boxed.set _ H2.out)
      have K6 := Go.Lib.hid (H6.out.grown (grownBy_setCell' W (w.heap.size + 1) (.bool true)) H6.out.size (fun j e => by cases e; omega))
      go_wp2_with fail
      refine leaves_marks (lo := w.heap.size) (fun U => Below w.heap.size w U ∧ ObjAt U (w.heap.size + 1) #[.bool true] 4) ?_ ?_ Ds _ ⟨K6.out, K2.out⟩ HMK.out
      · rintro U D' ⟨k1, k2⟩ hD' hK'
        exact ⟨below_putM k1 hD' _, obj_putM k2 hK' rfl⟩
      · rintro U ⟨k1, k2⟩
        have t0 := Boxed.cell (show Boxed U (w.heap.size + 1) 4 (.bool true) from k2)
        exact ⟨.bool true, by simp [results, Try.results86, go_sem, t0], by rw [HE.out], k1⟩
theorem chainsend_any (l : List St) (hok : LsOk l) (hun : Uni l) (A : Option Addr) (m d b : Nat) (w : World) (h : ShAt w A m d b l) :
    Calls Try.prog 86 #[.agg #[.slice A m d, .map (some b)]] w fun e w' => e = .returned (.bool (endB l)) ∧ Below w.heap.size w w' := callsIn_wide.1 (chainsend_in l hok hun A m d b w h)
end Go.Proofs.Ytbkpokipibgdfaa

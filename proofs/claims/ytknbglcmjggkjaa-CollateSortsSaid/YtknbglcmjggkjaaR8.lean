/- Layer 6: the reference's Weights (30), Order (41), Bytes (25). -/
import Derived.Test.YtknbglcmjggkjaaR7
import Derived.Deep.RegionHeld3
namespace Go.Proofs.Ytknbglcmjggkjaa
open Go.RowKit Go.Shelf Go.Lib Co

/-- The weight of an element on a level. -/
def wOf : Nat → El → Nat
  | 0, _ => 0
  | 1, e => e.1
  | 2, e => e.2.1
  | _, e => e.2.2
theorem lev_step {f : El → Nat} {l : List El} {k : Nat} (hk : k < l.length) : lev f (l.take (k + 1)) = lev f (l.take k) ++ (if f l[k] = 0 then [] else [f l[k]]) := lev_take hk
theorem lev_all {f : El → Nat} {l : List El} : lev f (l.take l.length) = lev f l := by rw [List.take_length]
/-- Numbers that a call hands back. -/
def IntsR (P : List Nat) (w : World) (e : Ending) (w' : World) : Prop := ∃ v, e = .returned v ∧ Cp.IntsAt w' v P ∧ Below w.heap.size w w'
/-- Numbers that a call hands back in a row of its own. -/
def IntsOwn (P : List Nat) (w : World) (e : Ending) (w' : World) : Prop := ∃ v, e = .returned v ∧ w'.ownsRow w.heap.size 3 1 v P.length (Cp.ints P) ∧ Below w.heap.size w w'
theorem ElsIn.take0 {w : World} {v : Value} {l : List El} (h : ElsIn w v l) (hl : l = []) : v = .slice none 0 0 ∨ ∃ g c, v = .slice (some ⟨g, 0, none⟩) 0 c := by
  rcases h with ⟨_, hv⟩ | ⟨g, c, hv, _⟩
  · exact .inl hv
  · exact .inr ⟨g, c, by rw [hv, hl]; rfl⟩
set_option maxRecDepth 100000 in
set_option maxHeartbeats 8000000 in
theorem weights1_any {l : List El} {A : Option Addr} {m d : Nat} (w : World) (h : ElsIn w (.slice A m d) l) (hlm : l.length = m) (hl : m ≤ 100000) (hok : ∀ e ∈ l, ElOk e) :
    Calls Try.prog 30 #[.slice A m d, .int .i64 1] w (IntsOwn (lev (fun e => wOf 1 e) l) w) := by
  obtain ⟨i0, hi, hz0, hz1, hz2⟩ := info_parts Cp.intInfo
  go_enter Try.func30, Try.ntmps30
  go_wp2_with fail
  go_loopw [5, 6] (fun v i wr => ∃ k : Nat, k ≤ m ∧ i = .int .i64 (k : Nat) ∧ wr.ownsRow w.heap.size 3 1 v (lev (fun e => wOf 1 e) (l.take k)).length (Cp.ints (lev (fun e => wOf 1 e) (l.take k))) ∧ Below w.heap.size w wr) (fun _ i _ => m - (RowKit.intOf i).toNat)
  case atStart => exact ⟨0, Nat.zero_le _, rfl, World.ownsRow_nil _ _ _ _, Below.refl _ _⟩
  case round =>
    obtain ⟨k, hk, rfl, hown, hb⟩ := hrel
    have hs := hb.size
    by_cases hlt : k < m
    · have hkl : k < l.length := by omega
      rcases h with ⟨h0, _⟩ | ⟨g, cap, hv, hg, hc⟩
      · rw [h0] at hkl; simp at hkl
      injection hv with hv1 hv2 hv3
      subst hv1 hv3
      clear hv2
      obtain ⟨q0, q1, q2⟩ := hc k hkl
      have c0 := (hb.cell (p := ⟨g, k * 3, none⟩) hg).trans q0
      have c1 := (hb.cell (p := ⟨g, k * 3 + 1, none⟩) hg).trans q1
      have c2 := (hb.cell (p := ⟨g, k * 3 + 2, none⟩) hg).trans q2
      have j0 : (0 : Int) ≤ (k : Int) := by omega
      have j1 : (k : Int) < (m : Int) := by omega
      have HT := Go.Lib.hid (lev_step (f := fun e => wOf 1 e) hkl)
      have hle := Go.Lib.hid (Nat.le_trans (lev_len (fun e => wOf 1 e) (l.take k)) (by rw [List.length_take]; omega : (l.take k).length ≤ k))
      obtain ⟨o1, o2, o3⟩ := hok l[k] (List.getElem_mem hkl)
      clear q0 q1 q2 hc
      generalize l[k] = x at *
      obtain ⟨x1, x2, x3⟩ := x
      simp only at c0 c1 c2 o1 o2 o3
      have HT := Go.Lib.hid (show lev (fun e => wOf 1 e) (l.take (k + 1)) = lev (fun e => wOf 1 e) (l.take k) ++ (if x1 = 0 then [] else [x1]) from HT.out)
      go_wp2_with fail
      go_region
      have hown7 := World.ownsRow.drew (hown.alloc (.cells #[.int .i64 0, .int .i64 (x1 : Nat), .int .i64 (x2 : Nat), .int .i64 (x3 : Nat)] 3))
      have hb7 := (hb.alloc hs (.cells #[.int .i64 0, .int .i64 (x1 : Nat), .int .i64 (x2 : Nat), .int .i64 (x3 : Nat)] 3)).drew
      generalize (wr.alloc (.cells #[.int .i64 0, .int .i64 (x1 : Nat), .int .i64 (x2 : Nat), .int .i64 (x3 : Nat)] 3)).drew = W7 at *
      have hs7 := hb7.size
      clear hown hb c0 c1 c2
      by_cases hx : x1 = 0
      · have HT2 := Go.Lib.hid (HT.out.trans (by rw [if_pos hx, List.append_nil]))
        subst hx
        go_wp2
        go_roundw
        case rel => exact ⟨k + 1, by omega, by go_num, by rw [HT2.out]; exact hown7, hb7⟩
        case measure => simp [RowKit.intOf]; omega
      · have HT2 := Go.Lib.hid (HT.out.trans (by rw [if_neg hx]))
        have hx0 : (0 : Int) < (x1 : Int) := by omega
        have hl2 := hle.out
        clear HT hx
        generalize lev (fun e => wOf 1 e) (l.take k) = T at *
        go_wp2_with (at_builtin; go_loud (refine wpList_append_own _ rfl _ _ 51 rfl w.heap.size 3 i0 (.int .i64 0) 1 8 Try.underlying51 hi hz0 hz1 hz2 rfl (by decide) _ _ _ rfl (hown7.alloc _) ⟨W7.heap.size, 0, none⟩ 1 1 [.int .i64 ((x1 : Nat) : Int)] rfl rfl (cell_one_new _ _ _) (by intro u hu; simp at hu; subst hu; rfl) (by unfold maxLen; omega) (by omega) (by simp; omega) ?_; intro v1 w1 hown1 hgrow1 _))
        have HW1 := Go.Lib.hid (show w1.ownsRow w.heap.size 3 1 v1 (T ++ [x1]).length (Cp.ints (T ++ [x1])) by rw [Cp.ints_snoc, List.length_append]; exact hown1)
        have HB1 := Go.Lib.hid ((hb7.alloc hs7 _).grown hgrow1 (by simp; omega) (fun j e => (hown7.lt j e).1))
        clear hown1 hgrow1 hown7 hb7
        go_wp2
        go_roundw
        case rel => exact ⟨k + 1, by omega, by go_num, by rw [HT2.out]; exact HW1.out, HB1.out⟩
        case measure => simp [RowKit.intOf]; omega
    · obtain rfl : k = m := by omega
      have j1 : ¬ (k : Int) < (k : Int) := by omega
      have HO := Go.Lib.hid (show lev (fun e => wOf 1 e) (l.take k) = lev (fun e => wOf 1 e) l by rw [← hlm, List.take_length])
      rw [HO.out] at hown
      have HW := Go.Lib.hid hown
      clear hown
      go_wp2
      go_ret
      exact ⟨_, rfl, HW.out, hb⟩
set_option maxRecDepth 100000 in
set_option maxHeartbeats 8000000 in
theorem weights2_any {l : List El} {A : Option Addr} {m d : Nat} (w : World) (h : ElsIn w (.slice A m d) l) (hlm : l.length = m) (hl : m ≤ 100000) (hok : ∀ e ∈ l, ElOk e) :
    Calls Try.prog 30 #[.slice A m d, .int .i64 2] w (IntsOwn (lev (fun e => wOf 2 e) l) w) := by
  obtain ⟨i0, hi, hz0, hz1, hz2⟩ := info_parts Cp.intInfo
  go_enter Try.func30, Try.ntmps30
  go_wp2_with fail
  go_loopw [5, 6] (fun v i wr => ∃ k : Nat, k ≤ m ∧ i = .int .i64 (k : Nat) ∧ wr.ownsRow w.heap.size 3 1 v (lev (fun e => wOf 2 e) (l.take k)).length (Cp.ints (lev (fun e => wOf 2 e) (l.take k))) ∧ Below w.heap.size w wr) (fun _ i _ => m - (RowKit.intOf i).toNat)
  case atStart => exact ⟨0, Nat.zero_le _, rfl, World.ownsRow_nil _ _ _ _, Below.refl _ _⟩
  case round =>
    obtain ⟨k, hk, rfl, hown, hb⟩ := hrel
    have hs := hb.size
    by_cases hlt : k < m
    · have hkl : k < l.length := by omega
      rcases h with ⟨h0, _⟩ | ⟨g, cap, hv, hg, hc⟩
      · rw [h0] at hkl; simp at hkl
      injection hv with hv1 hv2 hv3
      subst hv1 hv3
      clear hv2
      obtain ⟨q0, q1, q2⟩ := hc k hkl
      have c0 := (hb.cell (p := ⟨g, k * 3, none⟩) hg).trans q0
      have c1 := (hb.cell (p := ⟨g, k * 3 + 1, none⟩) hg).trans q1
      have c2 := (hb.cell (p := ⟨g, k * 3 + 2, none⟩) hg).trans q2
      have j0 : (0 : Int) ≤ (k : Int) := by omega
      have j1 : (k : Int) < (m : Int) := by omega
      have HT := Go.Lib.hid (lev_step (f := fun e => wOf 2 e) hkl)
      have hle := Go.Lib.hid (Nat.le_trans (lev_len (fun e => wOf 2 e) (l.take k)) (by rw [List.length_take]; omega : (l.take k).length ≤ k))
      obtain ⟨o1, o2, o3⟩ := hok l[k] (List.getElem_mem hkl)
      clear q0 q1 q2 hc
      generalize l[k] = x at *
      obtain ⟨x1, x2, x3⟩ := x
      simp only at c0 c1 c2 o1 o2 o3
      have HT := Go.Lib.hid (show lev (fun e => wOf 2 e) (l.take (k + 1)) = lev (fun e => wOf 2 e) (l.take k) ++ (if x2 = 0 then [] else [x2]) from HT.out)
      go_wp2_with fail
      go_region
      have hown7 := World.ownsRow.drew (hown.alloc (.cells #[.int .i64 0, .int .i64 (x1 : Nat), .int .i64 (x2 : Nat), .int .i64 (x3 : Nat)] 3))
      have hb7 := (hb.alloc hs (.cells #[.int .i64 0, .int .i64 (x1 : Nat), .int .i64 (x2 : Nat), .int .i64 (x3 : Nat)] 3)).drew
      generalize (wr.alloc (.cells #[.int .i64 0, .int .i64 (x1 : Nat), .int .i64 (x2 : Nat), .int .i64 (x3 : Nat)] 3)).drew = W7 at *
      have hs7 := hb7.size
      clear hown hb c0 c1 c2
      by_cases hx : x2 = 0
      · have HT2 := Go.Lib.hid (HT.out.trans (by rw [if_pos hx, List.append_nil]))
        subst hx
        go_wp2
        go_roundw
        case rel => exact ⟨k + 1, by omega, by go_num, by rw [HT2.out]; exact hown7, hb7⟩
        case measure => simp [RowKit.intOf]; omega
      · have HT2 := Go.Lib.hid (HT.out.trans (by rw [if_neg hx]))
        have hx0 : (0 : Int) < (x2 : Int) := by omega
        have hl2 := hle.out
        clear HT hx
        generalize lev (fun e => wOf 2 e) (l.take k) = T at *
        go_wp2_with (at_builtin; go_loud (refine wpList_append_own _ rfl _ _ 51 rfl w.heap.size 3 i0 (.int .i64 0) 1 8 Try.underlying51 hi hz0 hz1 hz2 rfl (by decide) _ _ _ rfl (hown7.alloc _) ⟨W7.heap.size, 0, none⟩ 1 1 [.int .i64 ((x2 : Nat) : Int)] rfl rfl (cell_one_new _ _ _) (by intro u hu; simp at hu; subst hu; rfl) (by unfold maxLen; omega) (by omega) (by simp; omega) ?_; intro v1 w1 hown1 hgrow1 _))
        have HW1 := Go.Lib.hid (show w1.ownsRow w.heap.size 3 1 v1 (T ++ [x2]).length (Cp.ints (T ++ [x2])) by rw [Cp.ints_snoc, List.length_append]; exact hown1)
        have HB1 := Go.Lib.hid ((hb7.alloc hs7 _).grown hgrow1 (by simp; omega) (fun j e => (hown7.lt j e).1))
        clear hown1 hgrow1 hown7 hb7
        go_wp2
        go_roundw
        case rel => exact ⟨k + 1, by omega, by go_num, by rw [HT2.out]; exact HW1.out, HB1.out⟩
        case measure => simp [RowKit.intOf]; omega
    · obtain rfl : k = m := by omega
      have j1 : ¬ (k : Int) < (k : Int) := by omega
      have HO := Go.Lib.hid (show lev (fun e => wOf 2 e) (l.take k) = lev (fun e => wOf 2 e) l by rw [← hlm, List.take_length])
      rw [HO.out] at hown
      have HW := Go.Lib.hid hown
      clear hown
      go_wp2
      go_ret
      exact ⟨_, rfl, HW.out, hb⟩
set_option maxRecDepth 100000 in
set_option maxHeartbeats 8000000 in
theorem weights3_any {l : List El} {A : Option Addr} {m d : Nat} (w : World) (h : ElsIn w (.slice A m d) l) (hlm : l.length = m) (hl : m ≤ 100000) (hok : ∀ e ∈ l, ElOk e) :
    Calls Try.prog 30 #[.slice A m d, .int .i64 3] w (IntsOwn (lev (fun e => wOf 3 e) l) w) := by
  obtain ⟨i0, hi, hz0, hz1, hz2⟩ := info_parts Cp.intInfo
  go_enter Try.func30, Try.ntmps30
  go_wp2_with fail
  go_loopw [5, 6] (fun v i wr => ∃ k : Nat, k ≤ m ∧ i = .int .i64 (k : Nat) ∧ wr.ownsRow w.heap.size 3 1 v (lev (fun e => wOf 3 e) (l.take k)).length (Cp.ints (lev (fun e => wOf 3 e) (l.take k))) ∧ Below w.heap.size w wr) (fun _ i _ => m - (RowKit.intOf i).toNat)
  case atStart => exact ⟨0, Nat.zero_le _, rfl, World.ownsRow_nil _ _ _ _, Below.refl _ _⟩
  case round =>
    obtain ⟨k, hk, rfl, hown, hb⟩ := hrel
    have hs := hb.size
    by_cases hlt : k < m
    · have hkl : k < l.length := by omega
      rcases h with ⟨h0, _⟩ | ⟨g, cap, hv, hg, hc⟩
      · rw [h0] at hkl; simp at hkl
      injection hv with hv1 hv2 hv3
      subst hv1 hv3
      clear hv2
      obtain ⟨q0, q1, q2⟩ := hc k hkl
      have c0 := (hb.cell (p := ⟨g, k * 3, none⟩) hg).trans q0
      have c1 := (hb.cell (p := ⟨g, k * 3 + 1, none⟩) hg).trans q1
      have c2 := (hb.cell (p := ⟨g, k * 3 + 2, none⟩) hg).trans q2
      have j0 : (0 : Int) ≤ (k : Int) := by omega
      have j1 : (k : Int) < (m : Int) := by omega
      have HT := Go.Lib.hid (lev_step (f := fun e => wOf 3 e) hkl)
      have hle := Go.Lib.hid (Nat.le_trans (lev_len (fun e => wOf 3 e) (l.take k)) (by rw [List.length_take]; omega : (l.take k).length ≤ k))
      obtain ⟨o1, o2, o3⟩ := hok l[k] (List.getElem_mem hkl)
      clear q0 q1 q2 hc
      generalize l[k] = x at *
      obtain ⟨x1, x2, x3⟩ := x
      simp only at c0 c1 c2 o1 o2 o3
      have HT := Go.Lib.hid (show lev (fun e => wOf 3 e) (l.take (k + 1)) = lev (fun e => wOf 3 e) (l.take k) ++ (if x3 = 0 then [] else [x3]) from HT.out)
      go_wp2_with fail
      go_region
      have hown7 := World.ownsRow.drew (hown.alloc (.cells #[.int .i64 0, .int .i64 (x1 : Nat), .int .i64 (x2 : Nat), .int .i64 (x3 : Nat)] 3))
      have hb7 := (hb.alloc hs (.cells #[.int .i64 0, .int .i64 (x1 : Nat), .int .i64 (x2 : Nat), .int .i64 (x3 : Nat)] 3)).drew
      generalize (wr.alloc (.cells #[.int .i64 0, .int .i64 (x1 : Nat), .int .i64 (x2 : Nat), .int .i64 (x3 : Nat)] 3)).drew = W7 at *
      have hs7 := hb7.size
      clear hown hb c0 c1 c2
      by_cases hx : x3 = 0
      · have HT2 := Go.Lib.hid (HT.out.trans (by rw [if_pos hx, List.append_nil]))
        subst hx
        go_wp2
        go_roundw
        case rel => exact ⟨k + 1, by omega, by go_num, by rw [HT2.out]; exact hown7, hb7⟩
        case measure => simp [RowKit.intOf]; omega
      · have HT2 := Go.Lib.hid (HT.out.trans (by rw [if_neg hx]))
        have hx0 : (0 : Int) < (x3 : Int) := by omega
        have hl2 := hle.out
        clear HT hx
        generalize lev (fun e => wOf 3 e) (l.take k) = T at *
        go_wp2_with (at_builtin; go_loud (refine wpList_append_own _ rfl _ _ 51 rfl w.heap.size 3 i0 (.int .i64 0) 1 8 Try.underlying51 hi hz0 hz1 hz2 rfl (by decide) _ _ _ rfl (hown7.alloc _) ⟨W7.heap.size, 0, none⟩ 1 1 [.int .i64 ((x3 : Nat) : Int)] rfl rfl (cell_one_new _ _ _) (by intro u hu; simp at hu; subst hu; rfl) (by unfold maxLen; omega) (by omega) (by simp; omega) ?_; intro v1 w1 hown1 hgrow1 _))
        have HW1 := Go.Lib.hid (show w1.ownsRow w.heap.size 3 1 v1 (T ++ [x3]).length (Cp.ints (T ++ [x3])) by rw [Cp.ints_snoc, List.length_append]; exact hown1)
        have HB1 := Go.Lib.hid ((hb7.alloc hs7 _).grown hgrow1 (by simp; omega) (fun j e => (hown7.lt j e).1))
        clear hown1 hgrow1 hown7 hb7
        go_wp2
        go_roundw
        case rel => exact ⟨k + 1, by omega, by go_num, by rw [HT2.out]; exact HW1.out, HB1.out⟩
        case measure => simp [RowKit.intOf]; omega
    · obtain rfl : k = m := by omega
      have j1 : ¬ (k : Int) < (k : Int) := by omega
      have HO := Go.Lib.hid (show lev (fun e => wOf 3 e) (l.take k) = lev (fun e => wOf 3 e) l by rw [← hlm, List.take_length])
      rw [HO.out] at hown
      have HW := Go.Lib.hid hown
      clear hown
      go_wp2
      go_ret
      exact ⟨_, rfl, HW.out, hb⟩
end Go.Proofs.Ytknbglcmjggkjaa

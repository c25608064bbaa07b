/- Layer 7: the reference's Set. -/
import Derived.Test.YtjdjfokfilnnoaaJB
namespace Go.Proofs.Ytjdjfokfilnnoaa
open Go.RowKit Go.Lib

theorem clear_key {l : List Pr} {p : Int} : ∀ x ∈ clearP l p, x.1 ≠ p := clear_ne
/-- Behind both appends. -/
theorem set_end {l r o : List Pr} {p v : Int} {k n1 : Nat} {w w' : World} {B : Option Addr} {cb m : Nat} (hr : r = clearP l p) (hn : r.length = n1) (hk : k ≤ n1) (h1 : ∀ j (h : j < r.length), j < k → r[j].1 < p) (h2 : ∀ h : k < r.length, ¬ r[k].1 < p)
    (ho : o = r.take k) (hm : m = k + 1 + (n1 - k)) (hown : w'.ownsRow w.heap.size 57 2 (.slice B m cb) m (rowP o ++ [.int .i64 p, .int .i64 v] ++ rowP (r.drop k))) (hb : Below w.heap.size w w') : OwnRet (setP l p v) (setP l p v).length w (.returned (.slice B m cb)) w' := by
  have e := setP_split v hr (by omega) h1 h2
  have hl : (setP l p v).length = m := by
    rw [e, hm]
    have h3 : (r.take k ++ (p, v) :: r.drop k).length = (r.take k).length + ((r.drop k).length + 1) := by rw [List.length_append]; rfl
    rw [h3, List.length_take, List.length_drop]; omega
  rw [hl]
  refine ⟨B, cb, rfl, ?_, hb⟩
  rw [e, rowP_append, ← ho]
  have : rowP ((p, v) :: r.drop k) = [.int .i64 p, .int .i64 v] ++ rowP (r.drop k) := by simp [rowP]
  rw [this, ← List.append_assoc]
  exact hown
set_option maxRecDepth 100000 in
set_option maxHeartbeats 16000000 in
theorem rset_any (A : Option Addr) (len c : Nat) (l : List Pr) (hl : l.length = len) (hc : len ≤ c ∧ c ≤ maxLen) (hs : len ≤ 900) (p v : Int) (w : World) (hA : PrAt w A l) :
    Calls Try.prog 36 #[.slice A len c, .int .i64 p, .int .i64 v] w (OwnRet (setP l p v) (setP l p v).length w) := by
  obtain ⟨i0, hi, hz0, hz1, hz2⟩ := info_parts info57
  have cC := rclear_any A len c l hl hc (by omega) p w hA
  have hlr : (clearP l p).length ≤ len := by rw [← hl]; exact clear_len l p
  obtain ⟨r, hr⟩ : ∃ r, r = clearP l p := ⟨_, rfl⟩
  obtain ⟨n1, hn1⟩ : ∃ n1, r.length = n1 := ⟨_, rfl⟩
  rw [← hr, hn1] at cC hlr
  have HR := Go.Lib.hid hr
  have HN1 := Go.Lib.hid hn1
  clear hl hA hr hn1
  go_enter Try.func36, Try.ntmps36
  go_wp2_with fail
  refine cC.mono ?_
  rintro e w0 ⟨R, cr, rfl, hownr, hb0⟩
  clear cC
  rcases hownr.2 with ⟨hv, h0⟩ | ⟨g, cap, cur, hv, hgb, hgh, hcap, hcm, _⟩
  · injection hv with h1 h2 h3
    subst h1 h2 h3
    clear h0
    have hr0 : r = [] := List.eq_nil_of_length_eq_zero HN1.out
    have hown0 : w0.ownsRow w.heap.size 57 2 (.slice none 0 0) 0 [] := World.ownsRow_nil _ _ _ _
    have hw0 := hb0.size
    go_wp2_with fail
    refine wp_loop_rounds 1 ?_
    rw [rounds_succ]
    go_wp2_with (first
      | (at_builtin; refine wpList_append_own _ rfl _ _ 43 rfl w.heap.size 57 i0 (.agg #[.int .i64 0, .int .i64 0]) 2 16 Try.underlying43 hi hz0 hz1 hz2 rfl (by decide) _ _ _ rfl (hown0.alloc _) ⟨w0.heap.size, 0, none⟩ 1 1 [.int .i64 p, .int .i64 v] rfl rfl (cell_new2 _ _ _ _) (by intro u hu; simp at hu; rcases hu with rfl | rfl <;> rfl) (by unfold maxLen; omega) (by omega) (by simp; omega) ?_; intro v1 w1 hown1 hgrow1 _; obtain ⟨g1, cap1, rfl⟩ := ownsRow_succ hown1)
      | (at_builtin; refine wpList_append_own_none rfl _ _ 43 rfl w.heap.size 57 i0 2 Try.underlying43 hi _ _ _ rfl hown1 rfl ?_))
    go_ret
    refine set_end (k := 0) (o := []) HR.out HN1.out (Nat.zero_le _) (fun j h hj => by omega) (fun h => by rw [hr0] at h; simp at h) (by simp) rfl ?_ ((hb0.alloc hw0 _).grown hgrow1 (by simp; omega) (fun j e => (hown0.lt j e).1))
    rw [hr0]
    simpa [rowP] using hown1
  · injection hv with h1 _ h3
    subst h1 h3
    have hPR : PrAt w0 (some ⟨g, 0, none⟩) r := own_prat hownr HN1.out
    have hgl := (Array.getElem?_eq_some_iff.1 hgh).1
    unfold maxLen at hcm
    clear hgh hownr
    go_wp2_with fail
    have hsz0 := hb0.size
    go_loopw [7, 9] (fun v i wr => ∃ (k : Nat) (B : Option Addr) (cb : Nat) (o : List Pr), k ≤ n1 ∧ i = .int .i64 k ∧ v = .slice B k cb ∧ wr.ownsRow w0.heap.size 57 2 (.slice B k cb) k (rowP o) ∧ Hid (Below w0.heap.size w0 wr) ∧ Hid (o = r.take k) ∧ Hid (∀ j (h : j < r.length), j < k → r[j].1 < p)) (fun _ i _ => n1 - (intOf i).toNat)
    case atStart => exact ⟨0, none, 0, [], Nat.zero_le _, rfl, rfl, World.ownsRow_nil _ _ _ _, Go.Lib.hid (Below.refl _ _), Go.Lib.hid (by simp), Go.Lib.hid (fun j _ h => by omega)⟩
    case round =>
      obtain ⟨k, B, cb, o, hk, rfl, rfl, hown, HB, HO, HP⟩ := hrel
      have hw0 := HB.out.size
      have HDL := Go.Lib.hid (show (rowP (r.drop k)).length = (n1 - k) * 2 by rw [rowP_len, List.length_drop, HN1.out])
      have HDC := Go.Lib.hid (show ∀ j u, (rowP (r.drop k))[j]? = some u → w0.cell? ⟨g, k * 2 + j, none⟩ = some u from fun j u h => by have := rowP_drop hPR j u h; rw [Nat.zero_add] at this; exact this)
      have HPR := Go.Lib.hid hPR
      clear hPR
      by_cases hlt : k < n1
      · have hkr : k < r.length := by rw [HN1.out]; exact hlt
        have hcell : w0.cell? ⟨g, k * 2, none⟩ = some (.int .i64 r[k].1) ∧ w0.cell? ⟨g, k * 2 + 1, none⟩ = some (.int .i64 r[k].2) := by
          rcases HPR.out with h | ⟨g', o', he, _, hcl⟩
          · rw [h] at hkr; simp at hkr
          · injection he with he; injection he with e1 e2 _
            subst e1 e2
            have := hcl k hkr
            rw [Nat.zero_add] at this
            exact this
        have c0 := (HB.out.cell (p := ⟨g, k * 2, none⟩) hgl).trans hcell.1
        have c1 := (HB.out.cell (p := ⟨g, k * 2 + 1, none⟩) hgl).trans hcell.2
        have HS := Go.Lib.hid (List.take_succ_eq_append_getElem hkr)
        have HG := Go.Lib.hid (fun (he : r[k].1 < p) j (h : j < r.length) (hj : j < k + 1) => if e : j = k then by subst e; exact he else HP.out j h (by omega))
        clear hcell
        generalize hy : r[k] = y at c0 c1 HS HG
        have HY := Go.Lib.hid hy
        clear hy
        obtain ⟨ya, yb⟩ := y
        dsimp only at c0 c1 HG
        by_cases hz : ya < p
        · go_wp2_with (at_builtin; refine wpList_append_own _ rfl _ _ 43 rfl w0.heap.size 57 i0 (.agg #[.int .i64 0, .int .i64 0]) 2 16 Try.underlying43 hi hz0 hz1 hz2 rfl (by decide) _ _ _ rfl (hown.alloc _) ⟨wr.heap.size, 0, none⟩ 1 1 [.int .i64 ya, .int .i64 yb] rfl rfl (cell_new2 _ _ _ _) (by intro u hu; simp at hu; rcases hu with rfl | rfl <;> rfl) (by unfold maxLen; omega) (by omega) (by simp; omega) ?_; intro v1 w1 hown1 hgrow1 _; obtain ⟨g1, cap1, rfl⟩ := ownsRow_succ hown1)
          go_roundw
          case rel =>
            exact ⟨k + 1, some ⟨g1, 0, none⟩, cap1, o ++ [(ya, yb)], by omega, by go_num, rfl, by rw [rowP_snoc]; exact hown1, Go.Lib.hid ((HB.out.alloc hw0 _).grown hgrow1 (by simp; omega) (fun j e => (hown.lt j e).1)), Go.Lib.hid (by rw [HS.out, HO.out]), Go.Lib.hid (HG.out hz)⟩
          case measure => simp [intOf]; omega
        · go_wp2_with (first
            | (at_builtin; refine wpList_append_own _ rfl _ _ 43 rfl w0.heap.size 57 i0 (.agg #[.int .i64 0, .int .i64 0]) 2 16 Try.underlying43 hi hz0 hz1 hz2 rfl (by decide) _ _ _ rfl (hown.alloc _) ⟨wr.heap.size, 0, none⟩ 1 1 [.int .i64 p, .int .i64 v] rfl rfl (cell_new2 _ _ _ _) (by intro u hu; simp at hu; rcases hu with rfl | rfl <;> rfl) (by unfold maxLen; omega) (by omega) (by simp; omega) ?_; intro v1 w1 hown1 hgrow1 _; obtain ⟨g1, cap1, rfl⟩ := ownsRow_succ hown1)
            | (at_builtin; refine wpList_append_own _ rfl _ _ 43 rfl w0.heap.size 57 i0 (.agg #[.int .i64 0, .int .i64 0]) 2 16 Try.underlying43 hi hz0 hz1 hz2 rfl (by decide) _ _ _ rfl hown1 ⟨g, k * 2, none⟩ (n1 - k) (cr - k) (rowP (r.drop k)) rfl HDL.out (by intro j u hj; rw [Addr.add_lit]; exact (Below.cell (p := ⟨g, k * 2 + j, none⟩) ((HB.out.alloc hw0 _).grown hgrow1 (by simp; omega) (fun j e => (hown.lt j e).1)) hgl).trans (HDC.out j u hj)) (rowP_one _) (by unfold maxLen; omega) (by omega) (by have := hgrow1.size; simp at this; omega) ?_; intro v2 w2 hown2 hgrow2 _; obtain ⟨B2, cb2, rfl⟩ := own_form hown2))
          go_ret
          refine set_end (w := w) (k := k) (o := o) HR.out HN1.out (by omega) HP.out (fun _ h3 => by have e := HY.out; rw [e] at h3; dsimp only at h3; omega) HO.out (by omega) ?_ ((hb0.trans (((HB.out.alloc hw0 _).grown hgrow1 (by simp; omega) (fun j e => (hown.lt j e).1)).mono hb0.size)).grown hgrow2 (by have := hgrow1.size; simp at this; omega) (fun j e => Nat.le_trans hsz0 (hown1.lt j e).1))
          exact own_lower (hown2) hsz0
      · obtain rfl : k = n1 := by omega
        have hd0 : r.drop k = [] := List.drop_eq_nil_of_le (by rw [HN1.out]; exact Nat.le_refl _)
        have HD0 := Go.Lib.hid hd0
        clear hd0
        by_cases hcr : cr = k
        · subst hcr
          go_wp2_with (first
            | (at_builtin; refine wpList_append_own _ rfl _ _ 43 rfl w0.heap.size 57 i0 (.agg #[.int .i64 0, .int .i64 0]) 2 16 Try.underlying43 hi hz0 hz1 hz2 rfl (by decide) _ _ _ rfl (hown.alloc _) ⟨wr.heap.size, 0, none⟩ 1 1 [.int .i64 p, .int .i64 v] rfl rfl (cell_new2 _ _ _ _) (by intro u hu; simp at hu; rcases hu with rfl | rfl <;> rfl) (by unfold maxLen; omega) (by omega) (by simp; omega) ?_; intro v1 w1 hown1 hgrow1 _; obtain ⟨g1, cap1, rfl⟩ := ownsRow_succ hown1)
            | (at_builtin; refine wpList_append_own _ rfl _ _ 43 rfl w0.heap.size 57 i0 (.agg #[.int .i64 0, .int .i64 0]) 2 16 Try.underlying43 hi hz0 hz1 hz2 rfl (by decide) _ _ _ rfl hown1 ⟨g, 0, none⟩ 0 0 [] rfl rfl (by intro j u hj; simp at hj) (by intro u hu; simp at hu) (by unfold maxLen; omega) (by omega) (by have := hgrow1.size; simp at this; omega) ?_; intro v2 w2 hown2 hgrow2 _; obtain ⟨B2, cb2, rfl⟩ := own_form hown2))
          go_ret
          refine set_end (w := w) (k := cr) (o := o) HR.out HN1.out (by omega) HP.out (fun h => absurd h (by rw [HN1.out]; omega)) HO.out (by omega) ?_ ((hb0.trans (((HB.out.alloc hw0 _).grown hgrow1 (by simp; omega) (fun j e => (hown.lt j e).1)).mono hb0.size)).grown hgrow2 (by have := hgrow1.size; simp at this; omega) (fun j e => Nat.le_trans hsz0 (hown1.lt j e).1))
          exact own_lower (by rw [HD0.out]; simpa [rowP] using hown2) hsz0
        · go_wp2_with (first
            | (at_builtin; refine wpList_append_own _ rfl _ _ 43 rfl w0.heap.size 57 i0 (.agg #[.int .i64 0, .int .i64 0]) 2 16 Try.underlying43 hi hz0 hz1 hz2 rfl (by decide) _ _ _ rfl (hown.alloc _) ⟨wr.heap.size, 0, none⟩ 1 1 [.int .i64 p, .int .i64 v] rfl rfl (cell_new2 _ _ _ _) (by intro u hu; simp at hu; rcases hu with rfl | rfl <;> rfl) (by unfold maxLen; omega) (by omega) (by simp; omega) ?_; intro v1 w1 hown1 hgrow1 _; obtain ⟨g1, cap1, rfl⟩ := ownsRow_succ hown1)
            | (at_builtin; refine wpList_append_own _ rfl _ _ 43 rfl w0.heap.size 57 i0 (.agg #[.int .i64 0, .int .i64 0]) 2 16 Try.underlying43 hi hz0 hz1 hz2 rfl (by decide) _ _ _ rfl hown1 ⟨g, k * 2, none⟩ 0 (cr - k) [] rfl rfl (by intro j u hj; simp at hj) (by intro u hu; simp at hu) (by unfold maxLen; omega) (by omega) (by have := hgrow1.size; simp at this; omega) ?_; intro v2 w2 hown2 hgrow2 _; obtain ⟨B2, cb2, rfl⟩ := own_form hown2))
          go_ret
          refine set_end (w := w) (k := k) (o := o) HR.out HN1.out (by omega) HP.out (fun h => absurd h (by rw [HN1.out]; omega)) HO.out (by omega) ?_ ((hb0.trans (((HB.out.alloc hw0 _).grown hgrow1 (by simp; omega) (fun j e => (hown.lt j e).1)).mono hb0.size)).grown hgrow2 (by have := hgrow1.size; simp at this; omega) (fun j e => Nat.le_trans hsz0 (hown1.lt j e).1))
          exact own_lower (by rw [HD0.out]; simpa [rowP] using hown2) hsz0
end Go.Proofs.Ytjdjfokfilnnoaa

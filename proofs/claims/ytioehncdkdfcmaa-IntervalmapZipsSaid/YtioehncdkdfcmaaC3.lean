/- Layer 5, plainly: the runs behind, moved in place; what replace leaves. -/
import Derived.Test.YtioehncdkdfcmaaC1
namespace Go.Proofs.Ytioehncdkdfcmaa
open Go.RowKit Go.Lib Im

theorem own_caps {w : World} {base n c : Nat} {A : Option Addr} {xs : List Value} (h : w.ownsRow base 34 3 (.slice A n c) n xs) : n ≤ c ∧ c ≤ maxLen := by
  rcases h.2 with ⟨hv, h0⟩ | ⟨g, cap, cur, hv, hb, hg, hc1, hc2, _⟩
  · injection hv with _ h1 h2
    subst h1; subst h2
    exact ⟨Nat.le_refl _, Nat.zero_le _⟩
  · injection hv with _ _ h2
    subst h2
    exact ⟨hc1, hc2⟩
theorem own_set {w : World} {base g n c : Nat} {xs : List Value} (h : w.ownsRow base 34 3 (.slice (some ⟨g, 0, none⟩) n c) n xs) (p : Nat) (v : Value) :
    (w.setCell ⟨g, p, none⟩ v).ownsRow base 34 3 (.slice (some ⟨g, 0, none⟩) n c) n (xs.set p v) := by
  rcases h.2 with ⟨hv, h0⟩ | ⟨g', cap, cur, hv, hb, hg, hc1, hc2, hsz, htk⟩
  · cases hv
  · injection hv with e1 _ e2
    injection e1 with e1
    injection e1 with e1 _ _
    subst e1 e2
    refine ⟨by rw [List.length_set]; exact h.1, .inr ⟨g, c, cur.set! p v, rfl, hb, ?_, hc1, hc2, ?_, ?_⟩⟩
    · rw [setCell_eq_setRow w g p cur 34 (0, 0) _ hg]
      exact setRow_heap w g _ _ 34 _ hg
    · simp [hsz]
    · rw [← htk]
      simp [List.take_set]
theorem row_shift (P Q : List Rn) (r : Rn) (d : Int) : ((rowR (P ++ r :: Q)).set (P.length * 3) (.int .i64 (r.1 + d))).set (P.length * 3 + 1) (.int .i64 (r.2.1 + d)) = rowR (P ++ shift d r :: Q) := by
  have e : ∀ q, rowR (P ++ q :: Q) = rowR P ++ (.int .i64 q.1 :: .int .i64 q.2.1 :: .int .i64 q.2.2 :: rowR Q) := fun q => by simp [rowR]
  rw [e, e, List.set_append_right _ _ (by rw [rowR_len]; exact Nat.le_refl _), rowR_len, Nat.sub_self, List.set_append_right _ _ (by rw [rowR_len]; omega), rowR_len, show P.length * 3 + 1 - P.length * 3 = 1 by omega]
  rfl
/-- The first k runs behind j are moved. -/
def Sh (R : List Rn) (j : Nat) (d : Int) (k : Nat) : List Rn := R.take j ++ (((R.drop j).take k).map (shift d) ++ (R.drop j).drop k)
theorem sh_zero (R : List Rn) (j : Nat) (d : Int) : Sh R j d 0 = R := by simp [Sh]
theorem sh_all (R : List Rn) (j : Nat) (d : Int) {k : Nat} (hk : R.length ≤ j + k) : Sh R j d k = R.take j ++ (R.drop j).map (shift d) := by
  unfold Sh
  have hl : (R.drop j).length ≤ k := by rw [List.length_drop]; omega
  rw [List.take_of_length_le hl, List.drop_eq_nil_of_le hl, List.append_nil]
theorem sh_len (R : List Rn) (j : Nat) (d : Int) (k : Nat) : (Sh R j d k).length = R.length := by
  unfold Sh
  simp only [List.length_append, List.length_map, List.length_take, List.length_drop]
  omega
theorem sh_at (R : List Rn) (j : Nat) (d : Int) (k : Nat) (h : j + k < R.length) : ∃ P Q, P.length = j + k ∧ Sh R j d k = P ++ R[j + k] :: Q ∧ Sh R j d (k + 1) = P ++ shift d R[j + k] :: Q := by
  have hk : k < (R.drop j).length := by rw [List.length_drop]; omega
  have e : (R.drop j)[k] = R[j + k] := List.getElem_drop ..
  refine ⟨R.take j ++ ((R.drop j).take k).map (shift d), (R.drop j).drop (k + 1), ?_, ?_, ?_⟩
  · simp only [List.length_append, List.length_map, List.length_take, List.length_drop]; omega
  · unfold Sh
    rw [← e, List.append_assoc, List.getElem_cons_drop]
  · unfold Sh
    rw [← e, List.take_succ_eq_append_getElem hk, List.map_append]
    simp [List.append_assoc]
theorem sh_row {R : List Rn} {j : Nat} {d : Int} {k : Nat} (h : j + k < R.length) :
    (rowR (Sh R j d k))[(j + k) * 3]? = some (.int .i64 R[j + k].1) ∧ (rowR (Sh R j d k))[(j + k) * 3 + 1]? = some (.int .i64 R[j + k].2.1) ∧
    ((rowR (Sh R j d k)).set ((j + k) * 3) (.int .i64 (R[j + k].1 + d))).set ((j + k) * 3 + 1) (.int .i64 (R[j + k].2.1 + d)) = rowR (Sh R j d (k + 1)) := by
  obtain ⟨P, Q, h1, h2, h3⟩ := sh_at R j d k h
  rw [h2, h3]
  generalize R[j + k] = r
  have hlt : P.length < (P ++ r :: Q).length := by simp
  obtain ⟨r0, r1, _⟩ := rowR_get (P ++ r :: Q) P.length hlt
  have hs := row_shift P Q r d
  have hg : (P ++ r :: Q)[P.length] = r := by simp
  rw [hg] at r0 r1
  rw [← h1]
  exact ⟨r0, r1, hs⟩
theorem Fr.set {b g : Nat} {w wr : World} (h : Fr b g w wr) {p : Addr} (hp : p.block = b ∨ p.block = g) (v : Value) : Fr b g w (wr.setCell p v) :=
  ⟨h.1.setCell (Nat.zero_le _) v, fun k hk hb hg => (Below.heap_setCell wr p v k (by rcases hp with e | e <;> (rw [e]; assumption))).trans (h.2 k hk hb hg)⟩
/-- What replace leaves: the map has these runs; all else is as it was. -/
def MpR (w : World) (b g : Nat) (R : List Rn) (w' : World) : Prop := ∃ g', MpG w' b g' R ∧ Fr b g w w' ∧ (g' = g ∨ w.heap.size ≤ g')
theorem mp_fin {w wr w5 : World} {b g n5 c5 : Nat} {R5 : List Rn} {B5 : Option Addr} {u : Value} (hfr : Fr b g w wr) (hbx : Boxed w5 b 84 u) (ho : w5.ownsRow 0 34 3 (.slice B5 n5 c5) n5 (rowR R5)) (hl : R5.length = n5)
    (hb : Below 0 wr w5) (hkp : Kp g wr w5) (hwr : Whr g wr (.returned (.slice B5 n5 c5))) : MpR w b g R5 (w5.setCell ⟨b, 0, none⟩ (.slice B5 n5 c5)) := by
  subst hl
  have hF : Fr b g w (w5.setCell ⟨b, 0, none⟩ (.slice B5 R5.length c5)) := ⟨(hfr.1.trans hb).setCell (Nat.zero_le _) _, fun k hk hb' hg' => (Below.heap_setCell w5 _ _ k hb').trans ((hkp.2 k (Nat.lt_of_lt_of_le hk hfr.1.size) hg').trans (hfr.2 k hk hb' hg'))⟩
  have hO := ownsRow_setCell_other ho (a := ⟨b, 0, none⟩) (fun e => hbx.not_row (by decide) ho e.symm) (.slice B5 R5.length c5)
  cases B5 with
  | none => exact ⟨g, ⟨none, c5, hbx.set _, hO, fun k e => by cases e⟩, hF, .inl rfl⟩
  | some a =>
    obtain ⟨g', e⟩ : ∃ g', a = ⟨g', 0, none⟩ := by
      rcases ho.2 with ⟨h, _⟩ | ⟨g', _, _, h, _⟩
      · injection h with h; cases h
      · injection h with h
        injection h with h
        exact ⟨g', h⟩
    subst e
    refine ⟨g', ⟨some ⟨g', 0, none⟩, c5, hbx.set _, hO, fun k e => ?_⟩, hF, ?_⟩
    · injection e with e
      injection e with e
      exact e.symm
    · rcases hwr _ _ _ rfl with h | h
      · exact .inl h
      · exact .inr (Nat.le_trans hfr.1.size h)
/-- What the loop over the runs behind keeps. -/
def Rst (w : World) (b g n0 cA : Nat) (D : Option Addr) (m cd : Nat) (R J : List Rn) (j : Nat) (d : Int) (k : Nat) (wr : World) : Prop :=
  wr.ownsRow 0 34 3 (.slice (some ⟨g, 0, none⟩) n0 cA) n0 (rowR (Sh R j d k)) ∧ Boxed wr b 84 (.slice (some ⟨g, 0, none⟩) n0 cA) ∧ Fr b g w wr ∧ wr.ownsRow w.heap.size 34 3 (.slice D m cd) m (rowR J)
theorem Rst.step {w wr : World} {b g n0 cA m cd j k : Nat} {D : Option Addr} {R J : List Rn} {d : Int} (H : Rst w b g n0 cA D m cd R J j d k wr) (hgl : g < w.heap.size) (hbg : b ≠ g) (h : j + k < R.length) :
    Rst w b g n0 cA D m cd R J j d (k + 1) ((wr.setCell ⟨g, j * 3 + k * 3, none⟩ (.int .i64 (R[j + k].1 + d))).setCell ⟨g, j * 3 + k * 3 + 1, none⟩ (.int .i64 (R[j + k].2.1 + d))) := by
  obtain ⟨h1, h2, h3, h4⟩ := H
  obtain ⟨_, _, rs⟩ := sh_row (d := d) h
  rw [show (j + k) * 3 = j * 3 + k * 3 by omega] at rs
  refine ⟨?_, ?_, (h3.set (p := ⟨g, _, none⟩) (.inr rfl) _).set (p := ⟨g, _, none⟩) (.inr rfl) _, ?_⟩
  · rw [← rs]
    exact own_set (own_set h1 _ _) _ _
  · show _ = _
    rw [Below.heap_setCell _ _ _ _ (show b ≠ g from hbg), Below.heap_setCell _ _ _ _ (show b ≠ g from hbg)]
    exact h2
  · exact ownsRow_setCell_below (ownsRow_setCell_below h4 (a := ⟨g, _, none⟩) hgl _) (a := ⟨g, _, none⟩) hgl _
theorem rep_eq {R O N J : List Rn} {i j k : Nat} {f t d : Int} (hij : i ≤ j) (hj : j ≤ R.length) (hk : R.length ≤ j + k) (hJ : J = (pieces f t d O N).foldl app []) :
    (Sh R j d k).take i ++ J ++ (Sh R j d k).drop j = replaced f t d (R.take i) O (R.drop j) N := by
  have hl : (R.take j).length = j := by rw [List.length_take]; omega
  rw [sh_all R j d hk, List.take_append_of_le_length (by omega), List.take_take, Nat.min_eq_left hij, List.drop_left' hl, hJ]
  unfold replaced
  rw [List.append_assoc]
/-- What replace says. -/
def RepR (w : World) (b g : Nat) (R N : List Rn) (n f t d : Int) (e : Ending) (w' : World) : Prop :=
  e = .returned (.tuple #[]) ∧ ∃ i j, Parted R n f t i j ∧ MpR w b g (replaced f t d (R.take i) ((R.drop i).take (j - i)) (R.drop j) N) w'
end Go.Proofs.Ytioehncdkdfcmaa

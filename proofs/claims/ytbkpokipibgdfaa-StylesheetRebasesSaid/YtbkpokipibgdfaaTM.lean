/- Layer 8: the reference's Chain (26). -/
import Derived.Test.YtbkpokipibgdfaaTL
namespace Go.Proofs.Ytbkpokipibgdfaa
open Go.RowKit Go.Lib Go.Maps
set_option linter.unusedVariables false

theorem ch_pre {l : List St} {o : Option Nat} {ys : List Nat} (hy : ChP l o ys) (he : nxt l o ys = none) (xs : List Nat) : ChP l o xs → xs <+: ys := by
  refine rev_ind (p := fun xs => ChP l o xs → xs <+: ys) (fun _ => List.nil_prefix) ?_ xs
  intro q k ih hc
  obtain ⟨h1, h2⟩ := hc.init
  obtain ⟨t, ht⟩ := ih h1
  cases t with
  | nil =>
    rw [List.append_nil] at ht
    rw [ht, he] at h2
    cases h2
  | cons a t =>
    have := hy q a t ht.symm
    rw [h2] at this
    cases this
    exact ⟨t, by rw [← ht]; simp⟩
theorem ch_uniq {l : List St} {o : Option Nat} {xs ys : List Nat} (hx : ChP l o xs) (hxe : nxt l o xs = none) (hy : ChP l o ys) (hye : nxt l o ys = none) : xs = ys :=
  List.IsPrefix.eq_of_length (ch_pre hy hye xs hx) (Nat.le_antisymm (ch_pre hy hye xs hx).length_le (ch_pre hx hxe ys hy).length_le)
/-- What is sure of a list without an error. -/
structure Good (l : List St) : Prop where
  fld : ∀ k, k < l.length → fldK l k = 0
  lnk : ∀ k (h : k < l.length), lnkB l l[k] = false
  ends : ∀ k, k < l.length → Ends l (some k)
  len : l.length ≤ 128
theorem good_of {l : List St} (h : chkA l = 0) : Good l := by
  unfold chkA at h
  by_cases h1 : 128 < l.length
  · rw [if_pos h1] at h; omega
  rw [if_neg h1] at h
  unfold chkL at h
  by_cases h2 : fldP l = 0
  case neg => rw [if_pos h2] at h; exact absurd h h2
  rw [if_neg (by simp [h2])] at h
  by_cases h3 : lnkP l = 0
  case neg => rw [if_pos h3] at h; exact absurd h h3
  rw [if_neg (by simp [h3])] at h
  by_cases h4 : endB l = true
  case neg => rw [if_neg h4] at h; omega
  refine ⟨fld_all h2, fun k hk => ?_, fun k hk => ?_, by omega⟩
  · cases hb : lnkB l l[k] with
    | false => rfl
    | true => rw [lnk_yes hk hb] at h3; omega
  · by_cases he : Ends l (some k)
    · exact he
    · rw [endB_no hk he] at h4; cases h4
theorem Good.zero {l : List St} (h : Good l) : plc l 0 = none := plc_zero h.fld
theorem Good.base {l : List St} (h : Good l) {k : Nat} (hk : k < l.length) : l[k].base = 0 ∨ (plc l l[k].base).isSome = true := by
  have hb := h.lnk k hk
  unfold lnkB at hb
  by_cases h0 : l[k].base = 0
  · exact .inl h0
  · right
    cases hp : plc l l[k].base with
    | some j => rfl
    | none =>
      rw [hasB_none hp] at hb
      have : (l[k].base != 0) = true := by simpa using h0
      rw [this] at hb
      simp at hb
theorem Good.endsP {l : List St} (h : Good l) (i : Int) : Ends l (plc l i) := by
  cases hp : plc l i with
  | none => exact Ends.none l
  | some k => exact h.ends k (plc_lt hp).1
theorem Good.bound {l : List St} (h : Good l) {i : Int} {pre : List Nat} (hc : ChP l (plc l i) pre) : pre.length < l.length + 1 := by
  have := nodup_le l.length pre (ends_nodup (h.endsP i) pre hc) hc.lt
  omega
theorem chkI_good {l : List St} {i : Int} (h : chkI l i = 0) : Good l ∧ ∃ k, plc l i = some k := by
  unfold chkI at h
  by_cases h1 : chkA l = 0
  case neg => rw [if_pos h1] at h; exact absurd h h1
  rw [if_neg (by simp [h1])] at h
  refine ⟨good_of h1, ?_⟩
  cases hp : plc l i with
  | some k => exact ⟨k, rfl⟩
  | none => rw [if_pos hp] at h; omega
/-- What the reference's Chain hands back. -/
def RChR (l : List St) (i : Int) (w : World) (e : Ending) (w' : World) : Prop :=
  ∃ xs v, ChP l (plc l i) xs ∧ nxt l (plc l i) xs = none ∧ e = .returned v ∧ w'.ownsRow w.heap.size 3 1 v xs.length (intsV (idsL l xs)) ∧ Below w.heap.size w w'
set_option maxRecDepth 100000 in
set_option maxHeartbeats 8000000 in
theorem rchain_any (l : List St) (hG : Good l) (A : Option Addr) (n c : Nat) (hn : l.length = n) (i : Int) (hi : i = 0 ∨ (plc l i).isSome = true) (w : World) (hA : LsAt w A l) :
    Calls Try.prog 26 #[.slice A n c, .int .i64 i] w (RChR l i w) := by
  obtain ⟨i0, hi9, hz0, hz1, hz2⟩ := info_parts info3
  have HN := Go.Lib.hid hn
  have HA := Go.Lib.hid hA
  have HG := Go.Lib.hid hG
  have h128 : n ≤ 128 := by rw [← hn]; exact hG.len
  have CF := Go.Lib.hid (fun i w' (hb : Below w.heap.size w w') => rfind_any l n hn (by omega) A c i w' (hA.below hb))
  have HI := Go.Lib.hid hi
  clear hn hA hG hi
  go_enter Try.func26, Try.ntmps26
  go_wp2_with fail
  go_loopw [1, 5] (fun s1 s5 wr => ∃ (cur : Int) (pre : List Nat) (B : Option Addr) (cb : Nat), s1 = .int .i64 cur ∧ s5 = .slice B pre.length cb ∧ wr.ownsRow w.heap.size 3 1 (.slice B pre.length cb) pre.length (intsV (idsL l pre)) ∧ Below w.heap.size w wr ∧ pre.length ≤ n ∧ Hid (ChP l (plc l i) pre) ∧ Hid (nxt l (plc l i) pre = plc l cur) ∧ Hid (cur = 0 ∨ (plc l cur).isSome = true)) (fun _ s5 _ => n - (match s5 with | .slice _ k _ => k | _ => 0))
  case atStart => exact ⟨i, [], none, 0, rfl, rfl, World.ownsRow_nil _ _ _ _, Below.refl _ _, Nat.zero_le _, Go.Lib.hid (ChP.nil _ _), Go.Lib.hid rfl, HI⟩
  case round =>
    obtain ⟨cur, pre, B, cb, rfl, rfl, hown, hbw, hpl, HCH, HNX, HCU⟩ := hrel
    have hw0 := hbw.size
    by_cases hc0 : cur = 0
    · have e1 : (cur != 0) = false := by simpa using hc0
      have HE := Go.Lib.hid (show nxt l (plc l i) pre = none by rw [HNX.out, hc0, HG.out.zero])
      clear hc0
      go_wp2_with fail
      go_ret
      exact ⟨pre, _, HCH.out, HE.out, rfl, hown, hbw⟩
    · have e1 : (cur != 0) = true := by simpa using hc0
      obtain ⟨k, hp⟩ : ∃ k, plc l cur = some k := by
        rcases HCU.out with h | h
        · exact absurd h hc0
        · exact Option.isSome_iff_exists.1 h
      obtain ⟨hk, hid⟩ := plc_lt hp
      have HS := Go.Lib.hid (HCH.out.snoc (HNX.out.trans hp))
      have hlt : pre.length + 1 ≤ n := by
        have := HG.out.bound HS.out
        rw [List.length_append, List.length_singleton] at this
        have := HN.out
        omega
      have hkn : k < n := by rw [← HN.out]; exact hk
      have f0 : (0 : Int) ≤ (k : Int) := by omega
      have f1 : (k : Int) < (n : Int) := by omega
      have HST := Go.Lib.hid (show nxt l (plc l i) (pre ++ [k]) = plc l l[k].base by
        rw [nxt_snoc]; unfold stp; rw [List.getD_eq_getElem?_getD, List.getElem?_eq_getElem hk]; rfl)
      have HBS := Go.Lib.hid (HG.out.base hk)
      have HT := Go.Lib.hid (show intsV (idsL l (pre ++ [k])) = intsV (idsL l pre) ++ [.int .i64 cur] by rw [idsL_snoc, intsV_snoc, List.getD_eq_getElem?_getD, List.getElem?_eq_getElem hk]; show _ ++ [Value.int .i64 l[k].id] = _; rw [hid])
      obtain ⟨g, oo, rfl, hg, hcl⟩ := HA.out.pos (by omega)
      obtain ⟨Bp, cc, z0, z1, z2, z3, zr⟩ := hcl k hk
      have HZ := Go.Lib.hid z3
      clear hcl z0 z1 z2 zr z3 hid hc0
      generalize l[k].base = bs at HZ HST HBS
      have hfk := fnd_some hp
      have HFK := Go.Lib.hid hfk
      clear hp hk hfk
      have hBa := Go.Lib.hid (fun (w1 : World) (g1 cap1 : Nat) (hgrow1 : (wr.alloc (.cells #[.int .i64 cur] 3)).grownBy w1 (Value.slice B pre.length cb).ownBlock) => ((hbw.alloc hw0 (.cells #[.int .i64 cur] 3)).grown hgrow1 (by simp; omega) (fun j e => (hown.lt j e).1) : Below w.heap.size w w1))
      go_wp2_with (at_builtin; refine wpList_append_own _ rfl _ _ 38 rfl w.heap.size 3 i0 (.int .i64 0) 1 8 Try.underlying38 hi9 hz0 hz1 hz2 rfl (by decide) _ _ _ rfl (hown.alloc _) ⟨wr.heap.size, 0, none⟩ 1 1 [.int .i64 cur] rfl rfl (cell_one_new _ _ _) (by intro u hu; simp at hu; subst hu; rfl) (by unfold maxLen; omega) (by omega) (by simp; omega) ?_; intro v1 w1 hown1 hgrow1 _; obtain ⟨g1, cap1, rfl⟩ := ownsRow_succ hown1)
      have hB1 := hBa.out w1 g1 cap1 hgrow1
      have cF := CF.out cur w1 hB1
      rw [HFK.out] at cF
      (with_reducible refine cF.mono ?_)
      rintro e w2 ⟨rfl, k2⟩
      have z3 := ((hB1.trans (k2.mono hB1.size)).cell (p := ⟨g, oo + k * 6 + 3, none⟩) hg).trans HZ.out
      have hB2 := hB1.trans (k2.mono hB1.size)
      have hown2 := row_below hown1 k2
      clear cF
      go_wp2_with fail
      go_roundw
      case rel =>
        refine ⟨bs, pre ++ [k], some ⟨g1, 0, none⟩, cap1, rfl, by rw [List.length_append]; rfl, ?_, hB2, by rw [List.length_append, List.length_singleton]; exact hlt, HS, HST, HBS⟩
        rw [HT.out, List.length_append]
        exact hown2
      case measure => simp; omega
end Go.Proofs.Ytbkpokipibgdfaa

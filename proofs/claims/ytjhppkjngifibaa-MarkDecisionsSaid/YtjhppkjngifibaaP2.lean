/- Layer 23, plainly: the reference's decision; two decisions; what remains. -/
import Derived.Test.YtjhppkjngifibaaP1
namespace Go.Proofs.Ytjhppkjngifibaa
set_option linter.unusedVariables false

/-! ## The reference's choice of layers -/
def fstA (a : Int → Bool) (l : List Ly) : Nat := (l.foldl (fun (s : Nat × Nat) x => (s.1 + 1, if a x.rev then s.1 + 1 else s.2)) (0, 0)).2
theorem fstA_aux (a : Int → Bool) (l : List Ly) : (l.foldl (fun (s : Nat × Nat) x => (s.1 + 1, if a x.rev then s.1 + 1 else s.2)) (0, 0)).1 = l.length := by
  induction l using list_snoc_ind with
  | h0 => rfl
  | h1 l x ih => rw [List.foldl_append, List.foldl_cons, List.foldl_nil, ih, List.length_append]; rfl
theorem fstA_snoc (a : Int → Bool) (l : List Ly) (x : Ly) : fstA a (l ++ [x]) = if a x.rev then l.length + 1 else fstA a l := by
  unfold fstA
  rw [List.foldl_append, List.foldl_cons, List.foldl_nil]
  dsimp only
  rw [fstA_aux]
theorem fstA_le (a : Int → Bool) (l : List Ly) : fstA a l ≤ l.length := by
  induction l using list_snoc_ind with
  | h0 => exact Nat.le_refl _
  | h1 l x ih => rw [fstA_snoc, List.length_append, List.length_singleton]; split <;> omega
def stsOf (l : List Ly) (p : St) : List St := l.map stOf ++ [p]
def mkL (k : Int) (revs : List Int) (s : List St) : List Ly := List.zipWith (fun n t => ⟨n, k, if t.2 then t.1 else 0, t.2⟩) revs s
def selR (r : Int → Bool) (f : Nat) (l : List Ly) : List Int := ((l.drop f).filter (fun x => !r x.rev)).map (·.rev)
def lefR (r : Int → Bool) (f : Nat) (l : List Ly) (p : St) : List St := ((stsOf l p)[f]?).getD p :: (((zs l p).drop f).filter (fun z => !r z.1.rev)).map (·.2)
def lastS (s : List St) : St := (s.getLast?).getD (0, false)
theorem lastS_snoc (s : List St) (u : St) : lastS (s ++ [u]) = u := by simp [lastS]
theorem mkL_snoc (k : Int) (n : Int) (u : St) : ∀ (revs : List Int) (s : List St), s.length = revs.length + 1 → mkL k (revs ++ [n]) (s ++ [u]) = mkL k revs s ++ [⟨n, k, if (lastS s).2 then (lastS s).1 else 0, (lastS s).2⟩] := by
  intro revs
  induction revs with
  | nil =>
    intro s hs
    obtain ⟨t, rfl⟩ : ∃ t, s = [t] := by
      match s, hs with
      | [t], _ => exact ⟨t, rfl⟩
    rfl
  | cons m revs ih =>
    intro s hs
    cases s with
    | nil => simp at hs
    | cons t s =>
      have hl : s.length = revs.length + 1 := by simpa using hs
      have e : lastS (t :: s) = lastS s := by
        cases s with
        | nil => simp at hl
        | cons v s => simp [lastS]
      have := ih s hl
      rw [e]
      show _ :: mkL k (revs ++ [n]) (s ++ [u]) = _ :: (mkL k revs s ++ _)
      rw [this]
theorem mkL_len (k : Int) (revs : List Int) (s : List St) (h : s.length = revs.length + 1) : (mkL k revs s).length = revs.length := by unfold mkL; rw [List.length_zipWith, h]; omega
theorem mkL_key (k : Int) (revs : List Int) (s : List St) : ∀ x ∈ mkL k revs s, x.key = k := by
  unfold mkL
  induction revs generalizing s with
  | nil => intro x hx; cases hx
  | cons n revs ih =>
    cases s with
    | nil => intro x hx; cases hx
    | cons t s =>
      intro x hx
      rcases List.mem_cons.1 hx with rfl | hx
      · rfl
      · exact ih s x hx
theorem mkL_nst (k : Int) (revs : List Int) (s : List St) : ∀ x ∈ mkL k revs s, Nst (stOf x) := by
  unfold mkL
  induction revs generalizing s with
  | nil => intro x hx; cases hx
  | cons n revs ih =>
    cases s with
    | nil => intro x hx; cases hx
    | cons t s =>
      intro x hx
      rcases List.mem_cons.1 hx with rfl | hx
      · intro h; have h' : t.2 = false := h; show (if t.2 then t.1 else 0) = 0; rw [h']; rfl
      · exact ih s x hx
theorem nst_if {t : St} (h : Nst t) : (if t.2 then t.1 else 0) = t.1 := by
  cases e : t.2 with
  | true => rfl
  | false => exact (h e).symm
/-- Of pairs: what is kept from the last accepted one on. -/
theorem sel_fold {a r : Int → Bool} {k : Int} (Z : List (Ly × St)) (s : St) (hk : ∀ z ∈ Z, z.1.key = k) (hn : ∀ z ∈ Z, Nst z.2) (hs : Nst s) :
    Z.foldl (stepZ a r) ([], s) = (mkL k (((Z.drop (fstA a (Z.map (·.1)))).filter (fun z => !r z.1.rev)).map (·.1.rev)) (((s :: Z.map (·.2))[fstA a (Z.map (·.1))]?).getD s :: ((Z.drop (fstA a (Z.map (·.1)))).filter (fun z => !r z.1.rev)).map (·.2)),
      lastS (((s :: Z.map (·.2))[fstA a (Z.map (·.1))]?).getD s :: ((Z.drop (fstA a (Z.map (·.1)))).filter (fun z => !r z.1.rev)).map (·.2))) := by
  induction Z using list_snoc_ind with
  | h0 => simp [fstA, mkL, lastS]
  | h1 Z z ih =>
    have ih := ih (fun y hy => hk y (by simp [hy])) (fun y hy => hn y (by simp [hy]))
    have hkz := hk z (by simp)
    have hf := fstA_le a (Z.map (·.1))
    rw [List.length_map] at hf
    rw [List.foldl_append, List.foldl_cons, List.foldl_nil, ih, List.map_append, List.map_append, List.map_cons, List.map_nil, List.map_cons, List.map_nil, fstA_snoc, List.length_map]
    have hnl : ∀ (Y : List (Ly × St)) (f : Nat), (∀ z ∈ Y, Nst z.2) → Nst (lastS (((s :: Y.map (·.2))[f]?).getD s :: ((Y.drop f).filter (fun z => !r z.1.rev)).map (·.2))) := by
      intro Y f hY
      have hm : ∀ t ∈ (((s :: Y.map (·.2))[f]?).getD s :: ((Y.drop f).filter (fun z => !r z.1.rev)).map (·.2)), Nst t := by
        intro t ht
        rcases List.mem_cons.1 ht with rfl | ht
        · cases e : (s :: Y.map (·.2))[f]? with
          | none => exact hs
          | some u =>
            have := List.mem_of_getElem? e
            rcases List.mem_cons.1 this with rfl | h1
            · exact hs
            · obtain ⟨y, hy, rfl⟩ := List.mem_map.1 h1; exact hY y hy
        · obtain ⟨y, hy, rfl⟩ := List.mem_map.1 ht
          exact hY y (List.mem_of_mem_drop (List.mem_filter.1 hy).1)
      unfold lastS
      cases e : List.getLast? (((s :: Y.map (·.2))[f]?).getD s :: ((Y.drop f).filter (fun z => !r z.1.rev)).map (·.2)) with
      | none => intro _; rfl
      | some u => exact hm u (List.mem_of_getLast? e)
    by_cases ha : a z.1.rev = true
    · have hdn : (Z ++ [z]).drop (Z.length + 1) = [] := List.drop_eq_nil_of_le (by rw [List.length_append]; exact Nat.le_refl _)
      rw [if_pos ha, hdn]
      simp only [stepZ, ha, if_true, List.filter_nil, List.map_nil]
      have e : ((s :: (Z.map (·.2) ++ [z.2]))[Z.length + 1]?).getD s = z.2 := by
        rw [List.getElem?_cons_succ, List.getElem?_append_right (by simp), List.length_map, Nat.sub_self]; rfl
      rw [e]; rfl
    · rw [if_neg ha]
      generalize hF : fstA a (Z.map (·.1)) = F at hf ⊢
      have e : (s :: (Z.map (·.2) ++ [z.2]))[F]? = (s :: Z.map (·.2))[F]? := by
        rw [← List.cons_append, List.getElem?_append_left (by simp; omega)]
      rw [e, List.drop_append_of_le_length hf, List.filter_append]
      have hnst := hnl Z F (fun y hy => hn y (by simp [hy]))
      by_cases hr : r z.1.rev = true
      · rw [List.filter_cons_of_neg (by simp [hr]), List.filter_nil, List.append_nil]
        simp only [stepZ, ha, hr, if_true, Bool.false_eq_true, if_false]
      · rw [List.filter_cons_of_pos (by simp [hr]), List.filter_nil, List.map_append, List.map_append, List.map_cons, List.map_nil, List.map_cons, List.map_nil, ← List.cons_append, mkL_snoc _ _ _ _ _ (by simp), lastS_snoc]
        simp only [stepZ, ha, hr, Bool.false_eq_true, if_false]
        rw [nst_if hnst, hkz]
theorem sts_zs (l : List Ly) (p : St) : stsOf l p = s0 l p :: (zs l p).map (·.2) := by
  induction l with
  | nil => rfl
  | cons x l ih =>
    cases l with
    | nil => rfl
    | cons y l =>
      show stOf x :: stsOf (y :: l) p = stOf x :: stOf y :: (zs (y :: l) p).map (·.2)
      rw [ih]; rfl
theorem drop_zs_rev (r : Int → Bool) (l : List Ly) (p : St) (f : Nat) : (((zs l p).drop f).filter (fun z => !r z.1.rev)).map (·.1.rev) = selR r f l := by
  unfold selR
  conv => rhs; rw [← zs_fst l p]
  rw [← List.map_drop, List.filter_map, List.map_map]
  rfl
theorem ref_dec {a r : Int → Bool} {k : Int} {l : List Ly} {p : St} (hk : ∀ x ∈ l, x.key = k) (hn : ∀ x ∈ l, Nst (stOf x)) (hp : Nst p) :
    mkL k (selR r (fstA a l) l) (lefR r (fstA a l) l p) = (decL a r l p).1 ∧ lastS (lefR r (fstA a l) l p) = (decL a r l p).2 := by
  have h := sel_fold (a := a) (r := r) (k := k) (zs l p) (s0 l p) (fun z hz => hk _ (zs_mem hz)) (zs_nst hn hp) (s0_nst hn hp)
  rw [zs_fst, drop_zs_rev, ← sts_zs] at h
  have e : ((stsOf l p)[fstA a l]?).getD (s0 l p) = ((stsOf l p)[fstA a l]?).getD p := by
    have h1 : fstA a l < (stsOf l p).length := by have := fstA_le a l; simp [stsOf]; omega
    rw [List.getElem?_eq_getElem h1]; rfl
  rw [e] at h
  unfold decL
  rw [h]
  exact ⟨rfl, rfl⟩
theorem lef_len (r : Int → Bool) (f : Nat) (l : List Ly) (p : St) : (lefR r f l p).length = (selR r f l).length + 1 := by
  rw [← drop_zs_rev r l p f]
  simp [lefR]

/-! ## Layers put in the place of others -/
def layL (k : Int) (news l : List Ly) : List Ly := l.takeWhile (fun x => decide (x.key < k)) ++ news ++ (l.dropWhile (fun x => decide (x.key < k))).dropWhile (fun x => x.key == k)
theorem tw_lt {l : List Ly} (h : KSrt l) (k : Int) : l.takeWhile (fun x => decide (x.key < k)) = l.filter (fun x => decide (x.key < k)) := by
  induction l with
  | nil => rfl
  | cons x l ih =>
    by_cases hx : x.key < k
    · rw [List.takeWhile_cons_of_pos (by simpa using hx), List.filter_cons_of_pos (by simpa using hx), ih (ksrt_tail h)]
    · rw [List.takeWhile_cons_of_neg (by simpa using hx), List.filter_cons_of_neg (by simpa using hx)]
      symm
      rw [List.filter_eq_nil_iff]
      intro y hy
      have := ksrt_head h y hy
      simp; omega
theorem dw_eq {l : List Ly} (h : KSrt l) (k : Int) (hk : ∀ x ∈ l, k ≤ x.key) : l.dropWhile (fun x => x.key == k) = l.filter (fun x => decide (k < x.key)) := by
  induction l with
  | nil => rfl
  | cons x l ih =>
    have hx := hk x (by simp)
    by_cases e : x.key = k
    · rw [List.dropWhile_cons_of_pos (by simpa using e), List.filter_cons_of_neg (by simp; omega), ih (ksrt_tail h) (fun y hy => hk y (List.mem_cons_of_mem _ hy))]
    · rw [List.dropWhile_cons_of_neg (by simpa using e), List.filter_cons_of_pos (by simp; omega)]
      symm
      congr 1
      rw [List.filter_eq_self]
      intro y hy
      have := ksrt_head h y hy
      simp; omega
theorem dw_lt {l : List Ly} (h : KSrt l) (k : Int) : l.dropWhile (fun x => decide (x.key < k)) = l.filter (fun x => decide (k ≤ x.key)) := by
  induction l with
  | nil => rfl
  | cons x l ih =>
    by_cases hx : x.key < k
    · rw [List.dropWhile_cons_of_pos (by simpa using hx), List.filter_cons_of_neg (by simp; omega), ih (ksrt_tail h)]
    · rw [List.dropWhile_cons_of_neg (by simpa using hx), List.filter_cons_of_pos (by simp; omega)]
      symm
      congr 1
      rw [List.filter_eq_self]
      intro y hy
      have := ksrt_head h y hy
      simp; omega
theorem lay_filter {l : List Ly} (h : KSrt l) (k : Int) (news : List Ly) : layL k news l = l.filter (fun x => decide (x.key < k)) ++ news ++ l.filter (fun x => decide (k < x.key)) := by
  unfold layL
  rw [tw_lt h, dw_lt h, dw_eq (h.filter _) k (fun x hx => by simpa using (List.mem_filter.1 hx).2), List.filter_filter]
  congr 2
  funext x
  by_cases e : k < x.key
  · simp [e]; omega
  · simp [e]
theorem grp_filter (l : List Ly) (P : Int → Bool) (q : Int) : grp (l.filter (fun x => P x.key)) q = if P q then grp l q else [] := by
  unfold grp
  rw [List.filter_filter]
  split
  · rename_i h
    congr 1
    funext x
    by_cases e : x.key = q
    · subst e; simp [h]
    · simp [e]
  · rename_i h
    rw [List.filter_eq_nil_iff]
    intro x _
    by_cases e : x.key = q
    · subst e; simp [h]
    · simp [e]
theorem grp_lay {l : List Ly} (h : KSrt l) {k : Int} {news : List Ly} (hn : ∀ x ∈ news, x.key = k) (q : Int) : grp (layL k news l) q = if q = k then news else grp l q := by
  rw [lay_filter h, grp_append, grp_append, grp_filter l (fun y => decide (y < k)), grp_filter l (fun y => decide (k < y))]
  by_cases hq : q = k
  · subst hq
    have h1 : ¬ (decide (q < q) = true) := by simp
    rw [if_neg h1, if_pos rfl, grp_all hn, List.nil_append, List.append_nil]
  · rw [if_neg hq, grp_none (l := news) (fun x hx => by rw [hn x hx]; exact fun e => hq e.symm)]
    by_cases h1 : q < k
    · rw [if_pos (by simpa using h1), if_neg (by simp; omega)]; simp
    · rw [if_neg (by simpa using h1), if_pos (by simp; omega)]; simp
theorem ksrt_same {l : List Ly} {k : Int} (h : ∀ x ∈ l, x.key = k) : KSrt l :=
  List.Pairwise.imp_of_mem (R := fun _ _ => True) (fun {x y} hx hy _ => by rw [h x hx, h y hy]; exact Int.le_refl _) (List.pairwise_of_forall (fun _ _ => trivial))
theorem ksrt_lay {l : List Ly} (h : KSrt l) {k : Int} {news : List Ly} (hn : ∀ x ∈ news, x.key = k) : KSrt (layL k news l) := by
  rw [lay_filter h]
  refine List.pairwise_append.2 ⟨List.pairwise_append.2 ⟨h.filter _, ksrt_same hn, fun x hx y hy => ?_⟩, h.filter _, fun x hx y hy => ?_⟩
  · have h1 : x.key < k := by simpa using (List.mem_filter.1 hx).2
    rw [hn y hy]; omega
  · have h2 : k < y.key := by simpa using (List.mem_filter.1 hy).2
    rcases List.mem_append.1 hx with hx | hx
    · have h1 : x.key < k := by simpa using (List.mem_filter.1 hx).2
      omega
    · rw [hn x hx]; omega
theorem lay_mem {l news : List Ly} {k : Int} {x : Ly} (h : x ∈ layL k news l) : x ∈ l ∨ x ∈ news := by
  unfold layL at h
  rcases List.mem_append.1 h with h | h
  · rcases List.mem_append.1 h with h | h
    · exact .inl ((List.takeWhile_sublist _).subset h)
    · exact .inr h
  · exact .inl ((List.dropWhile_sublist _).subset ((List.dropWhile_sublist _).subset h))
def layH (k : Int) (revs : List Int) (s : List St) (h : Hd) : Hd := { h with lays := layL k (mkL k revs s) h.lays, props := putS (lastS s) h.props k }

/-! ## The reference's decision -/
def stepR (a r : Int → Bool) (h o : Hd) (k : Int) : Hd := layH k (selR r (fstA a (grp h.lays k)) (grp h.lays k)) (lefR r (fstA a (grp h.lays k)) (grp h.lays k) (pres h.props k)) o
def decR (a r : Int → Bool) (h : Hd) : Hd :=
  (keysU h.lays).foldl (stepR a r h) { h with ins := if h.ins ≠ 0 ∧ a h.ins = true then 0 else h.ins, move := if h.ins ≠ 0 ∧ a h.ins = true then 0 else h.move, dels := h.dels.filter (fun d => !r d.rev) }
theorem foldR_spec {a r : Int → Bool} {h : Hd} (ho : Ord h) (ks : List Int) (hks : ks.Pairwise (· < ·)) (o0 : Hd) (h0 : o0.props = h.props) (h1 : o0.lays = h.lays) :
    (∀ q, pres (ks.foldl (stepR a r h) o0).props q = if q ∈ ks then (decL a r (grp h.lays q) (pres h.props q)).2 else pres h.props q) ∧ Srt (ks.foldl (stepR a r h) o0).props ∧
    (∀ q, grp (ks.foldl (stepR a r h) o0).lays q = if q ∈ ks then (decL a r (grp h.lays q) (pres h.props q)).1 else grp h.lays q) ∧ KSrt (ks.foldl (stepR a r h) o0).lays ∧
    (∀ x ∈ (ks.foldl (stepR a r h) o0).lays, Nst (stOf x)) ∧ (ks.foldl (stepR a r h) o0).ins = o0.ins ∧ (ks.foldl (stepR a r h) o0).move = o0.move ∧ (ks.foldl (stepR a r h) o0).dels = o0.dels := by
  induction ks using list_snoc_ind with
  | h0 => exact ⟨fun q => by simp [h0], by rw [List.foldl_nil, h0]; exact ho.props, fun q => by simp [h1], by rw [List.foldl_nil, h1]; exact ho.lays, by rw [List.foldl_nil, h1]; exact ho.bef, rfl, rfl, rfl⟩
  | h1 ks k ih =>
    have hp := List.pairwise_append.1 hks
    obtain ⟨i1, i2, i3, i4, i5, i6, i7, i8⟩ := ih hp.1
    rw [List.foldl_append, List.foldl_cons, List.foldl_nil]
    generalize ks.foldl (stepR a r h) o0 = S at i1 i2 i3 i4 i5 i6 i7 i8 ⊢
    obtain ⟨e1, e2⟩ := ref_dec (a := a) (r := r) (k := k) (l := grp h.lays k) (p := pres h.props k) (fun x hx => (grp_mem.1 hx).2) (grp_sub _ ho.bef) (pres_nst _ _)
    have hN := decL_nst a r (l := grp h.lays k) (p := pres h.props k) (grp_sub _ ho.bef) (pres_nst _ _)
    have hK := decL_key a r (grp h.lays k) (pres h.props k) k (fun x hx => (grp_mem.1 hx).2)
    have e : stepR a r h S k = { S with lays := layL k (decL a r (grp h.lays k) (pres h.props k)).1 S.lays, props := putS (decL a r (grp h.lays k) (pres h.props k)).2 S.props k } := by
      unfold stepR layH; rw [e1, e2]
    rw [e]
    refine ⟨fun q => ?_, srt_put i2 _ _, fun q => ?_, ksrt_lay i4 hK, fun x hx => ?_, i6, i7, i8⟩
    · show pres (putS _ S.props k) q = _
      by_cases hq : q = k
      · subst hq; rw [put_same i2 hN.2, if_pos (by simp)]
      · rw [put_other i2 _ hq, i1 q]; simp [hq]
    · show grp (layL k _ S.lays) q = _
      rw [grp_lay i4 hK]
      by_cases hq : q = k
      · subst hq; rw [if_pos rfl, if_pos (by simp)]
      · rw [if_neg hq, i3 q]; simp [hq]
    · rcases lay_mem hx with hx | hx
      · exact i5 x hx
      · exact hN.1 x hx
theorem ref_is {a r : Int → Bool} {h : Hd} (ho : Ord h) : Dec a r h (decR a r h) := by
  obtain ⟨i1, i2, i3, i4, i5, i6, i7, i8⟩ := foldR_spec (a := a) (r := r) ho (keysU h.lays) (keysU_srt ho.lays) { h with ins := if h.ins ≠ 0 ∧ a h.ins = true then 0 else h.ins, move := if h.ins ≠ 0 ∧ a h.ins = true then 0 else h.move, dels := h.dels.filter (fun d => !r d.rev) } rfl rfl
  have hm := ho.move
  have e1 : (if h.ins ≠ 0 ∧ a h.ins = true then 0 else h.ins) = if a h.ins then 0 else h.ins := by
    by_cases h1 : h.ins = 0
    · rw [if_neg (fun h2 => h2.1 h1), h1]; split <;> rfl
    · by_cases h2 : a h.ins = true
      · rw [if_pos ⟨h1, h2⟩, if_pos h2]
      · rw [if_neg (fun h3 => h2 h3.2), if_neg h2]
  have e2 : (if h.ins ≠ 0 ∧ a h.ins = true then 0 else h.move) = if a h.ins then 0 else h.move := by
    by_cases h1 : h.ins = 0
    · rw [if_neg (fun h2 => h2.1 h1), hm h1]; split <;> rfl
    · by_cases h2 : a h.ins = true
      · rw [if_pos ⟨h1, h2⟩, if_pos h2]
      · rw [if_neg (fun h3 => h2 h3.2), if_neg h2]
  refine ⟨⟨i2, by rw [show (decR a r h).dels = _ from i8]; exact ho.dels.filter _, i4, i5, fun hz => ?_⟩, fun k => ?_, fun k => ?_, i6.trans e1, i7.trans e2, i8⟩
  · have h1 : (decR a r h).ins = _ := i6.trans e1
    have h2 : (decR a r h).move = _ := i7.trans e2
    rw [hz] at h1
    rw [h2]
    split
    · rfl
    · rename_i hn; rw [if_neg hn] at h1; exact hm h1.symm
  · refine (i1 k).trans ?_
    split
    · rfl
    · rename_i hk; rw [keys_none hk]; rfl
  · refine (i3 k).trans ?_
    split
    · rfl
    · rename_i hk; rw [keys_none hk]; rfl
theorem dec_same {a r : Int → Bool} {h : Hd} (ho : Ord h) : keptH a r h = decR a r h := (kept_dec ho).unique (ref_is ho)

/-! ## Two decisions -/
def decO (a r : Int → Bool) (h : Hd) : Option Hd := if goneH a r h then none else some (keptH a r h)
theorem dec_union {aA rA aB rB aU rU : Int → Bool} (hU : ∀ n, aU n = (aA n || aB n)) (hR : ∀ n, rU n = (rA n || rB n)) (hd : ∀ n, rA n = true → aB n = false) (he : ∀ n, aA n = true → rB n = false) (hA : ∀ n, aA n = true → rA n = false) {h : Hd} (ho : Ord h) :
    (decO aA rA h).bind (decO aB rB) = decO aU rU h := by
  have hk := kept_dec (a := aA) (r := rA) ho
  have hgone : (goneH aA rA h || goneH aB rB (keptH aA rA h)) = goneH aU rU h := by
    have e1 : ∀ x : Int, (decide (x ≠ 0) && rA x || (decide ((if aA x then 0 else x) ≠ 0) && rB (if aA x then 0 else x))) = (decide (x ≠ 0) && rU x) := by
      intro x
      rw [hR x]
      cases ha : aA x with
      | true => rw [hA x ha, he x ha]; simp
      | false => simp only [Bool.false_eq_true, if_false]; cases decide (x ≠ 0) <;> cases rA x <;> cases rB x <;> rfl
    have e2 : ∀ l : List Dl, (l.any (fun d => aA d.rev) || (l.filter (fun d => !rA d.rev)).any (fun d => aB d.rev)) = l.any (fun d => aU d.rev) := by
      intro l
      induction l with
      | nil => rfl
      | cons d l ih =>
        rw [List.any_cons, List.any_cons, ← ih, hU d.rev]
        cases hr : rA d.rev with
        | true => rw [List.filter_cons_of_neg (by simp [hr]), hd _ hr, Bool.or_false, Bool.or_assoc]
        | false =>
          rw [List.filter_cons_of_pos (by simp [hr]), List.any_cons]
          cases aA d.rev <;> cases aB d.rev <;> simp
    have h1 := e1 h.ins
    have h2 := e2 h.dels
    unfold goneH
    rw [hk.ins, hk.dels, ← h1, ← h2]
    generalize (decide (h.ins ≠ 0) && rA h.ins) = p1
    generalize (decide ((if aA h.ins = true then 0 else h.ins) ≠ 0) && rB (if aA h.ins = true then 0 else h.ins)) = p2
    generalize h.dels.any (fun d => aA d.rev) = p3
    generalize (h.dels.filter (fun d => !rA d.rev)).any (fun d => aB d.rev) = p4
    cases p1 <;> cases p2 <;> cases p3 <;> cases p4 <;> rfl
  unfold decO
  rw [← hgone]
  by_cases g1 : goneH aA rA h = true
  · rw [g1]; rfl
  · rw [Bool.not_eq_true] at g1
    rw [g1]
    simp only [Bool.false_eq_true, if_false, Option.bind_some, Bool.false_or]
    split
    · rfl
    · congr 1
      have hb := kept_dec (a := aB) (r := rB) hk.ord
      refine Dec.unique (a := aU) (r := rU) (h := h) ⟨hb.ord, fun k => ?_, fun k => ?_, ?_, ?_, ?_⟩ (kept_dec ho)
      · rw [hb.pres k, hk.grp k, hk.pres k, dec_two_rev hU hR hd he]
      · rw [hb.grp k, hk.grp k, hk.pres k, dec_two_rev hU hR hd he]
      · rw [hb.ins, hk.ins, hU]
        cases aA h.ins with
        | true => simp
        | false => simp
      · rw [hb.move, hk.ins, hk.move, hU]
        cases aA h.ins with
        | true => simp
        | false => simp
      · rw [hb.dels, hk.dels, List.filter_filter]
        congr 1
        funext d
        rw [hR]
        cases rA d.rev <;> cases rB d.rev <;> rfl

/-! ## The revisions of a head -/
def revsH (h : Hd) : List Int := (if h.ins ≠ 0 then [h.ins] else []) ++ h.dels.map (·.rev) ++ h.lays.map (·.rev)
theorem fold_revs {a r : Int → Bool} (Z : List (Ly × St)) (s : List Ly × St) : ∀ x ∈ (Z.foldl (stepZ a r) s).1, (∃ y ∈ s.1, y.rev = x.rev) ∨ (∃ z ∈ Z, z.1.rev = x.rev ∧ a x.rev = false ∧ r x.rev = false) := by
  induction Z generalizing s with
  | nil => intro x hx; exact .inl ⟨x, hx, rfl⟩
  | cons z Z ih =>
    intro x hx
    rcases ih _ x hx with ⟨y, hy, e⟩ | ⟨y, hy, e⟩
    · unfold stepZ at hy
      split at hy
      · cases hy
      · rename_i ha
        split at hy
        · exact .inl ⟨y, hy, e⟩
        · rename_i hr
          rcases List.mem_append.1 hy with hy | hy
          · exact .inl ⟨y, hy, e⟩
          · rw [List.mem_singleton] at hy
            have e2 : z.1.rev = x.rev := by rw [← e, hy]
            exact .inr ⟨z, by simp, e2, by rw [← e2]; simpa using ha, by rw [← e2]; simpa using hr⟩
    · exact .inr ⟨y, List.mem_cons_of_mem _ hy, e⟩
theorem dec_revs {a r : Int → Bool} {h o : Hd} (hd : Dec a r h o) (hg : goneH a r h = false) : ∀ n ∈ revsH o, a n = false ∧ r n = false ∧ n ∈ revsH h := by
  unfold goneH at hg
  rw [Bool.or_eq_false_iff] at hg
  obtain ⟨g1, g2⟩ := hg
  intro n hn
  unfold revsH at hn ⊢
  rcases List.mem_append.1 hn with hn | hn
  · rcases List.mem_append.1 hn with hn | hn
    · split at hn
      · rename_i h1
        rw [List.mem_singleton] at hn
        subst hn
        rw [hd.ins] at h1 ⊢
        cases ha : a h.ins with
        | true => rw [ha] at h1; exact absurd rfl h1
        | false =>
          rw [ha] at h1
          simp only [Bool.false_eq_true, if_false] at h1 ⊢
          rw [decide_eq_true h1, Bool.true_and] at g1
          exact ⟨ha, g1, by simp [h1]⟩
      · cases hn
    · obtain ⟨d, hd1, rfl⟩ := List.mem_map.1 hn
      rw [hd.dels] at hd1
      obtain ⟨h1, h2⟩ := List.mem_filter.1 hd1
      refine ⟨?_, by simpa using h2, by simp only [List.mem_append, List.mem_map]; exact .inl (.inr ⟨d, h1, rfl⟩)⟩
      rw [List.any_eq_false] at g2
      simpa using g2 d h1
  · obtain ⟨x, hx, rfl⟩ := List.mem_map.1 hn
    have h1 : x ∈ grp o.lays x.key := grp_mem.2 ⟨hx, rfl⟩
    rw [hd.grp] at h1
    rcases fold_revs _ _ x h1 with ⟨y, hy, _⟩ | ⟨z, hz, e, ha, hr⟩
    · cases hy
    · exact ⟨ha, hr, by simp only [List.mem_append, List.mem_map]; exact .inr ⟨z.1, (grp_mem.1 (zs_mem hz)).1, e⟩⟩
end Go.Proofs.Ytjhppkjngifibaa

/- Layer 23, plainly: heads, groups of layers, what a decision makes of them. -/
import Derived.Test.YtjhppkjngifibaaP0
namespace Go.Proofs.Ytjhppkjngifibaa
set_option linter.unusedVariables false

structure Dl where
  rev : Int
  move : Int
deriving DecidableEq
structure Ly where
  rev : Int
  key : Int
  bef : Int
  had : Bool
deriving DecidableEq
structure Hd where
  props : List Pr
  ins : Int
  move : Int
  dels : List Dl
  lays : List Ly
deriving DecidableEq
instance : Inhabited Dl := ⟨⟨0, 0⟩⟩
instance : Inhabited Ly := ⟨⟨0, 0, 0, false⟩⟩
abbrev St := Int × Bool
def stOf (x : Ly) : St := (x.bef, x.had)
def pres (l : List Pr) (k : Int) : St := (getV l k, getB l k)
def putS (s : St) (l : List Pr) (k : Int) : List Pr := if s.2 then setP l k s.1 else clearP l k
def Nst (s : St) : Prop := s.2 = false → s.1 = 0
def KSrt (l : List Ly) : Prop := l.Pairwise (fun x y => x.key ≤ y.key)
def grp (l : List Ly) (k : Int) : List Ly := l.filter (fun x => x.key == k)
structure Ord (h : Hd) : Prop where
  props : Srt h.props
  dels : h.dels.Pairwise (fun x y => x.rev < y.rev)
  lays : KSrt h.lays
  bef : ∀ x ∈ h.lays, Nst (stOf x)
  move : h.ins = 0 → h.move = 0

/-! ## States and properties -/
theorem pres_look (l : List Pr) (k : Int) : pres l k = ((look l k).getD 0, (look l k).isSome) := by unfold pres; rw [look_getB, look_getV]
theorem pres_nst (l : List Pr) (k : Int) : Nst (pres l k) := by
  rw [pres_look]
  intro h
  cases e : look l k with
  | none => rfl
  | some v => rw [e] at h; cases h
theorem srt_put {l : List Pr} (h : Srt l) (s : St) (k : Int) : Srt (putS s l k) := by
  unfold putS
  split
  · exact srt_set h _ _
  · exact srt_clear h _
theorem put_same {l : List Pr} (h : Srt l) {s : St} (hn : Nst s) (k : Int) : pres (putS s l k) k = s := by
  obtain ⟨v, b⟩ := s
  rw [pres_look]
  unfold putS
  cases b with
  | true => simp only [if_true]; rw [look_set h, if_pos rfl]; rfl
  | false => simp only [Bool.false_eq_true, if_false]; rw [look_clear, if_pos rfl]; have := hn rfl; dsimp only at this; rw [this]; rfl
theorem put_other {l : List Pr} (h : Srt l) (s : St) {k q : Int} (hq : q ≠ k) : pres (putS s l k) q = pres l q := by
  rw [pres_look, pres_look]
  unfold putS
  split
  · rw [look_set h, if_neg hq]
  · rw [look_clear, if_neg hq]
theorem pres_ext {l l' : List Pr} (h : Srt l) (h' : Srt l') (he : ∀ k, pres l k = pres l' k) : l = l' := by
  refine look_ext h h' fun p => ?_
  have := he p
  rw [pres_look, pres_look] at this
  cases e : look l p with
  | none => cases e' : look l' p with
    | none => rfl
    | some v => rw [e, e'] at this; cases this
  | some v => cases e' : look l' p with
    | none => rw [e, e'] at this; cases this
    | some v' => rw [e, e'] at this; injection this with h1 _; exact congrArg some h1
theorem put_len (s : St) (l : List Pr) (k : Int) : (putS s l k).length ≤ l.length + 1 := by
  unfold putS
  split
  · exact set_len _ _ _
  · have := clear_len l k; omega

/-! ## Groups -/
theorem grp_append (l m : List Ly) (k : Int) : grp (l ++ m) k = grp l k ++ grp m k := by unfold grp; rw [List.filter_append]
theorem grp_nil (k : Int) : grp [] k = [] := rfl
theorem grp_mem {l : List Ly} {k : Int} {x : Ly} : x ∈ grp l k ↔ x ∈ l ∧ x.key = k := by unfold grp; rw [List.mem_filter]; simp
theorem grp_all {l : List Ly} {k : Int} (h : ∀ x ∈ l, x.key = k) : grp l k = l := by unfold grp; rw [List.filter_eq_self]; intro x hx; simpa using h x hx
theorem grp_none {l : List Ly} {k : Int} (h : ∀ x ∈ l, x.key ≠ k) : grp l k = [] := by unfold grp; rw [List.filter_eq_nil_iff]; intro x hx; simpa using h x hx
theorem grp_cons_same {x : Ly} {l : List Ly} {k : Int} (h : x.key = k) : grp (x :: l) k = x :: grp l k := by unfold grp; rw [List.filter_cons_of_pos (by simpa using h)]
theorem grp_cons_other {x : Ly} {l : List Ly} {k : Int} (h : x.key ≠ k) : grp (x :: l) k = grp l k := by unfold grp; rw [List.filter_cons_of_neg (by simpa using h)]
theorem ksrt_tail {x : Ly} {l : List Ly} (h : KSrt (x :: l)) : KSrt l := (List.pairwise_cons.1 h).2
theorem ksrt_head {x : Ly} {l : List Ly} (h : KSrt (x :: l)) : ∀ y ∈ l, x.key ≤ y.key := (List.pairwise_cons.1 h).1
theorem grp_low {x : Ly} {l : List Ly} {k : Int} (h : KSrt (x :: l)) (hk : k < x.key) : grp (x :: l) k = [] := by
  refine grp_none fun y hy => ?_
  rcases List.mem_cons.1 hy with rfl | hy
  · omega
  · have := ksrt_head h y hy; omega
theorem grp_ext {l l' : List Ly} (h : KSrt l) (h' : KSrt l') (he : ∀ k, grp l k = grp l' k) : l = l' := by
  induction l generalizing l' with
  | nil =>
    cases l' with
    | nil => rfl
    | cons y t => have := he y.key; rw [grp_nil, grp_cons_same rfl] at this; cases this
  | cons x l ih =>
    cases l' with
    | nil => have := he x.key; rw [grp_nil, grp_cons_same rfl] at this; cases this
    | cons y t =>
      have hxy : x.key = y.key := by
        rcases Int.lt_trichotomy x.key y.key with h1 | h1 | h1
        · have := he x.key; rw [grp_cons_same rfl, grp_low h' h1] at this; cases this
        · exact h1
        · have := he y.key; rw [grp_cons_same (l := t) rfl, grp_low h h1] at this; cases this
      have e := he x.key
      rw [grp_cons_same rfl, grp_cons_same hxy.symm] at e
      injection e with e1 e2
      subst e1
      rw [ih (ksrt_tail h) (ksrt_tail h') fun k => by
        by_cases hk : x.key = k
        · subst hk; exact e2
        · have := he k; rw [grp_cons_other hk, grp_cons_other hk] at this; exact this]
theorem hd_ext {a b : Hd} (ha : Ord a) (hb : Ord b) (hp : ∀ k, pres a.props k = pres b.props k) (hg : ∀ k, grp a.lays k = grp b.lays k) (hi : a.ins = b.ins) (hm : a.move = b.move) (hd : a.dels = b.dels) : a = b := by
  have e1 := pres_ext ha.props hb.props hp
  have e2 := grp_ext ha.lays hb.lays hg
  cases a; cases b
  simp_all

/-! ## The keys of the layers -/
def addU (L : List Int) (k : Int) : List Int := if k ∈ L then L else L ++ [k]
def keysU (l : List Ly) : List Int := l.foldl (fun L x => addU L x.key) []
theorem keysU_snoc (l : List Ly) (x : Ly) : keysU (l ++ [x]) = addU (keysU l) x.key := by unfold keysU; rw [List.foldl_append]; rfl
theorem addU_mem (L : List Int) (k x : Int) : x ∈ addU L k ↔ x ∈ L ∨ x = k := by
  unfold addU
  split
  · rename_i h
    exact ⟨.inl, fun h1 => h1.elim id fun e => e ▸ h⟩
  · simp
theorem list_snoc_ind {α : Type} {P : List α → Prop} (h0 : P []) (h1 : ∀ l x, P l → P (l ++ [x])) : ∀ l, P l := by
  intro l
  have : ∀ n (l : List α), l.length = n → P l := by
    intro n
    induction n with
    | zero => intro l h; rw [List.eq_nil_of_length_eq_zero h]; exact h0
    | succ n ih =>
      intro l h
      have hne : l ≠ [] := fun e => by subst e; simp at h
      have e := List.dropLast_concat_getLast hne
      rw [← e]
      exact h1 _ _ (ih _ (by rw [List.length_dropLast]; omega))
  exact this _ l rfl
theorem keysU_mem (l : List Ly) (k : Int) : k ∈ keysU l ↔ ∃ x ∈ l, x.key = k := by
  induction l using list_snoc_ind with
  | h0 => simp [keysU]
  | h1 l x ih =>
    rw [keysU_snoc, addU_mem, ih]
    constructor
    · rintro (⟨y, hy, e⟩ | rfl)
      · exact ⟨y, by simp [hy], e⟩
      · exact ⟨x, by simp, rfl⟩
    · rintro ⟨y, hy, e⟩
      rcases List.mem_append.1 hy with hy | hy
      · exact .inl ⟨y, hy, e⟩
      · rw [List.mem_singleton] at hy; subst hy; exact .inr e.symm
theorem keysU_srt {l : List Ly} (h : KSrt l) : (keysU l).Pairwise (· < ·) := by
  induction l using list_snoc_ind with
  | h0 => exact List.Pairwise.nil
  | h1 l x ih =>
    have hl := List.pairwise_append.1 h
    rw [keysU_snoc]
    unfold addU
    split
    · exact ih hl.1
    · rename_i hx
      refine List.pairwise_append.2 ⟨ih hl.1, List.pairwise_singleton _ _, fun a ha b hb => ?_⟩
      rw [List.mem_singleton] at hb; subst hb
      obtain ⟨y, hy, e⟩ := (keysU_mem l a).1 ha
      have h1 := hl.2.2 y hy x (by simp)
      have h2 : a ≠ x.key := fun e2 => hx (e2 ▸ ha)
      omega
theorem keysU_len (l : List Ly) : (keysU l).length ≤ l.length := by
  induction l using list_snoc_ind with
  | h0 => simp [keysU]
  | h1 l x ih =>
    rw [keysU_snoc, List.length_append]
    unfold addU
    split
    · simp; omega
    · simp; omega

/-! ## What is left of the layers of a key -/
def stepZ (a r : Int → Bool) (s : List Ly × St) (z : Ly × St) : List Ly × St :=
  if a z.1.rev then ([], z.2) else if r z.1.rev then s else (s.1 ++ [⟨z.1.rev, z.1.key, s.2.1, s.2.2⟩], z.2)
def zs : List Ly → St → List (Ly × St)
  | [], _ => []
  | [x], p => [(x, p)]
  | x :: y :: l, p => (x, stOf y) :: zs (y :: l) p
def s0 (l : List Ly) (p : St) : St := match l with | [] => p | x :: _ => stOf x
def decL (a r : Int → Bool) (l : List Ly) (p : St) : List Ly × St := (zs l p).foldl (stepZ a r) ([], s0 l p)
theorem zs_snoc (l : List Ly) (y : Ly) (p : St) : zs (l ++ [y]) p = zs l (stOf y) ++ [(y, p)] := by
  induction l with
  | nil => rfl
  | cons x l ih =>
    cases l with
    | nil => rfl
    | cons z l =>
      show (x, stOf z) :: zs (z :: (l ++ [y])) p = (x, stOf z) :: (zs (z :: l) (stOf y) ++ [(y, p)])
      congr 1
theorem s0_snoc (l : List Ly) (y : Ly) (p : St) : s0 (l ++ [y]) p = s0 l (stOf y) := by cases l <;> rfl
theorem zs_fst (l : List Ly) (p : St) : (zs l p).map (·.1) = l := by
  induction l with
  | nil => rfl
  | cons x l ih =>
    cases l with
    | nil => rfl
    | cons y l => show x :: (zs (y :: l) p).map (·.1) = _; rw [ih]
theorem zs_len (l : List Ly) (p : St) : (zs l p).length = l.length := by rw [← List.length_map (f := (·.1)), zs_fst]
theorem zs_get (l : List Ly) (p : St) (k : Nat) (h : k < l.length) : (zs l p)[k]'(by rw [zs_len]; exact h) = (l[k], if h2 : k + 1 < l.length then stOf l[k + 1] else p) := by
  induction l generalizing k with
  | nil => cases h
  | cons x l ih =>
    cases l with
    | nil =>
      have : k = 0 := by simp at h; exact h
      subst this; rfl
    | cons y l =>
      cases k with
      | zero => simp [zs]
      | succ k =>
        have := ih k (by simpa using h)
        simp only [zs, List.getElem_cons_succ, this, List.length_cons]
        congr 1
        simp only [Nat.add_lt_add_iff_right]
/-- One decision behind another one. -/
theorem dec_two {aA rA aB rB aU rU : Int → Bool} (hU : ∀ n, aU n = (aA n || aB n)) (hR : ∀ n, rU n = (rA n || rB n)) (hd : ∀ n, rA n = true → aB n = false) (he : ∀ n, aA n = true → rB n = false) (Z : List (Ly × St)) (s : St) :
    (zs (Z.foldl (stepZ aA rA) ([], s)).1 (Z.foldl (stepZ aA rA) ([], s)).2).foldl (stepZ aB rB) ([], s0 (Z.foldl (stepZ aA rA) ([], s)).1 (Z.foldl (stepZ aA rA) ([], s)).2) = Z.foldl (stepZ aU rU) ([], s) := by
  induction Z using list_snoc_ind with
  | h0 => rfl
  | h1 Z z ih =>
    obtain ⟨x, nx⟩ := z
    rw [List.foldl_append, List.foldl_append, List.foldl_cons, List.foldl_nil, List.foldl_cons, List.foldl_nil]
    generalize Z.foldl (stepZ aA rA) ([], s) = A at ih ⊢
    generalize Z.foldl (stepZ aU rU) ([], s) = U at ih ⊢
    obtain ⟨LA, tA⟩ := A
    have hu := hU x.rev
    have hr := hR x.rev
    have hdx := hd x.rev
    by_cases ha : aA x.rev = true
    · rw [ha, Bool.true_or] at hu
      simp only [stepZ, ha, hu, if_true]
      rfl
    · rw [Bool.not_eq_true] at ha
      rw [ha, Bool.false_or] at hu
      by_cases hrA : rA x.rev = true
      · rw [hrA, Bool.true_or] at hr
        rw [hdx hrA] at hu
        simp only [stepZ, ha, hrA, hu, hr, if_true, Bool.false_eq_true, if_false]
        exact ih
      · rw [Bool.not_eq_true] at hrA
        rw [hrA, Bool.false_or] at hr
        simp only [stepZ, ha, hrA, Bool.false_eq_true, if_false]
        rw [zs_snoc, s0_snoc, List.foldl_append, List.foldl_cons, List.foldl_nil]
        show stepZ aB rB ((zs LA (tA.1, tA.2)).foldl (stepZ aB rB) ([], s0 LA (tA.1, tA.2))) (⟨x.rev, x.key, tA.1, tA.2⟩, nx) = _
        have e : (tA.1, tA.2) = tA := rfl
        rw [e, ih]
        simp only [stepZ, hu, hr]
theorem dec_two_rev {aA rA aB rB aU rU : Int → Bool} (hU : ∀ n, aU n = (aA n || aB n)) (hR : ∀ n, rU n = (rA n || rB n)) (hd : ∀ n, rA n = true → aB n = false) (he : ∀ n, aA n = true → rB n = false) (l : List Ly) (p : St) :
    decL aB rB (decL aA rA l p).1 (decL aA rA l p).2 = decL aU rU l p := dec_two hU hR hd he (zs l p) (s0 l p)
theorem fold_key {a r : Int → Bool} {k : Int} (Z : List (Ly × St)) (s : List Ly × St) (hZ : ∀ z ∈ Z, z.1.key = k) (hs : ∀ x ∈ s.1, x.key = k) : ∀ x ∈ (Z.foldl (stepZ a r) s).1, x.key = k := by
  induction Z generalizing s with
  | nil => exact hs
  | cons z Z ih =>
    refine ih _ (fun y hy => hZ y (List.mem_cons_of_mem _ hy)) ?_
    unfold stepZ
    split
    · simp
    · split
      · exact hs
      · intro x hx
        rcases List.mem_append.1 hx with hx | hx
        · exact hs x hx
        · rw [List.mem_singleton] at hx; subst hx; exact hZ z (by simp)
theorem zs_mem {l : List Ly} {p : St} {z : Ly × St} (h : z ∈ zs l p) : z.1 ∈ l := by
  have := List.mem_map_of_mem (f := (·.1)) h
  rwa [zs_fst] at this
theorem zs_nst {l : List Ly} {p : St} (hl : ∀ x ∈ l, Nst (stOf x)) (hp : Nst p) : ∀ z ∈ zs l p, Nst z.2 := by
  induction l with
  | nil => intro z hz; cases hz
  | cons x l ih =>
    cases l with
    | nil => intro z hz; simp only [zs, List.mem_singleton] at hz; subst hz; exact hp
    | cons y l =>
      intro z hz
      rcases List.mem_cons.1 hz with rfl | hz
      · exact hl y (by simp)
      · exact ih (fun x hx => hl x (List.mem_cons_of_mem _ hx)) z hz
theorem s0_nst {l : List Ly} {p : St} (hl : ∀ x ∈ l, Nst (stOf x)) (hp : Nst p) : Nst (s0 l p) := by
  cases l with
  | nil => exact hp
  | cons x l => exact hl x (by simp)
theorem fold_nst {a r : Int → Bool} (Z : List (Ly × St)) (s : List Ly × St) (hZ : ∀ z ∈ Z, Nst z.2) (hs : (∀ x ∈ s.1, Nst (stOf x)) ∧ Nst s.2) : (∀ x ∈ (Z.foldl (stepZ a r) s).1, Nst (stOf x)) ∧ Nst (Z.foldl (stepZ a r) s).2 := by
  induction Z generalizing s with
  | nil => exact hs
  | cons z Z ih =>
    refine ih _ (fun y hy => hZ y (List.mem_cons_of_mem _ hy)) ?_
    unfold stepZ
    split
    · exact ⟨by simp, hZ z (by simp)⟩
    · split
      · exact hs
      · refine ⟨fun x hx => ?_, hZ z (by simp)⟩
        rcases List.mem_append.1 hx with hx | hx
        · exact hs.1 x hx
        · rw [List.mem_singleton] at hx; subst hx; exact hs.2
theorem decL_key (a r : Int → Bool) (l : List Ly) (p : St) (k : Int) (h : ∀ x ∈ l, x.key = k) : ∀ x ∈ (decL a r l p).1, x.key = k :=
  fold_key _ _ (fun z hz => h _ (zs_mem hz)) (by simp)
theorem decL_nst (a r : Int → Bool) {l : List Ly} {p : St} (hl : ∀ x ∈ l, Nst (stOf x)) (hp : Nst p) : (∀ x ∈ (decL a r l p).1, Nst (stOf x)) ∧ Nst (decL a r l p).2 :=
  fold_nst _ _ (zs_nst hl hp) ⟨by simp, s0_nst hl hp⟩
theorem fold_len (a r : Int → Bool) (Z : List (Ly × St)) (s : List Ly × St) : (Z.foldl (stepZ a r) s).1.length ≤ s.1.length + Z.length := by
  induction Z generalizing s with
  | nil => simp
  | cons z Z ih =>
    have h1 := ih (stepZ a r s z)
    have h2 : (stepZ a r s z).1.length ≤ s.1.length + 1 := by
      unfold stepZ
      split
      · simp
      · split <;> simp
    rw [List.foldl_cons, List.length_cons]; omega
theorem decL_len (a r : Int → Bool) (l : List Ly) (p : St) : (decL a r l p).1.length ≤ l.length := by
  have := fold_len a r (zs l p) ([], s0 l p)
  rw [zs_len] at this
  simpa [decL] using this

/-! ## A head, decided -/
def stepH (a r : Int → Bool) (h : Hd) (PL : List Pr × List Ly) (k : Int) : List Pr × List Ly :=
  (putS (decL a r (grp h.lays k) (pres h.props k)).2 PL.1 k, PL.2 ++ (decL a r (grp h.lays k) (pres h.props k)).1)
def goneH (a r : Int → Bool) (h : Hd) : Bool := (decide (h.ins ≠ 0) && r h.ins) || h.dels.any (fun d => a d.rev)
def keptH (a r : Int → Bool) (h : Hd) : Hd :=
  ⟨((keysU h.lays).foldl (stepH a r h) (h.props, [])).1, if a h.ins then 0 else h.ins, if a h.ins then 0 else h.move, h.dels.filter (fun d => !r d.rev), ((keysU h.lays).foldl (stepH a r h) (h.props, [])).2⟩
/-- What the definition says of a head behind a decision. -/
structure Dec (a r : Int → Bool) (h o : Hd) : Prop where
  ord : Ord o
  pres : ∀ k, pres o.props k = (decL a r (grp h.lays k) (pres h.props k)).2
  grp : ∀ k, grp o.lays k = (decL a r (grp h.lays k) (Go.Proofs.Ytjhppkjngifibaa.pres h.props k)).1
  ins : o.ins = if a h.ins then 0 else h.ins
  move : o.move = if a h.ins then 0 else h.move
  dels : o.dels = h.dels.filter (fun d => !r d.rev)
theorem Dec.unique {a r : Int → Bool} {h o o' : Hd} (x : Dec a r h o) (y : Dec a r h o') : o = o' :=
  hd_ext x.ord y.ord (fun k => (x.pres k).trans (y.pres k).symm) (fun k => (x.grp k).trans (y.grp k).symm) (x.ins.trans y.ins.symm) (x.move.trans y.move.symm) (x.dels.trans y.dels.symm)
theorem grp_sub {l : List Ly} {k : Int} (P : Ly → Prop) (h : ∀ x ∈ l, P x) : ∀ x ∈ grp l k, P x := fun x hx => h x (grp_mem.1 hx).1
/-- The keys one after another: what is kept, of the keys so far. -/
theorem fold_spec {a r : Int → Bool} {h : Hd} (ho : Ord h) (ks : List Int) (hks : ks.Pairwise (· < ·)) :
    (∀ q, pres (ks.foldl (stepH a r h) (h.props, [])).1 q = if q ∈ ks then (decL a r (grp h.lays q) (pres h.props q)).2 else pres h.props q) ∧ Srt (ks.foldl (stepH a r h) (h.props, [])).1 ∧
    (∀ q, grp (ks.foldl (stepH a r h) (h.props, [])).2 q = if q ∈ ks then (decL a r (grp h.lays q) (pres h.props q)).1 else []) ∧ KSrt (ks.foldl (stepH a r h) (h.props, [])).2 ∧
    (∀ x ∈ (ks.foldl (stepH a r h) (h.props, [])).2, Nst (stOf x)) ∧ (∀ x ∈ (ks.foldl (stepH a r h) (h.props, [])).2, x.key ∈ ks) := by
  induction ks using list_snoc_ind with
  | h0 => exact ⟨fun q => by simp, ho.props, fun q => by simp [grp], List.Pairwise.nil, by simp, by simp⟩
  | h1 ks k ih =>
    have hp := List.pairwise_append.1 hks
    obtain ⟨i1, i2, i3, i4, i5, i6⟩ := ih hp.1
    have hlt : ∀ b ∈ ks, b < k := fun b hb => hp.2.2 b hb k (by simp)
    have hnk : k ∉ ks := fun hk => by have := hlt k hk; omega
    rw [List.foldl_append, List.foldl_cons, List.foldl_nil]
    generalize ks.foldl (stepH a r h) (h.props, []) = S at i1 i2 i3 i4 i5 i6 ⊢
    obtain ⟨P, L⟩ := S
    have hN := decL_nst a r (l := grp h.lays k) (p := pres h.props k) (grp_sub _ ho.bef) (pres_nst _ _)
    have hK := decL_key a r (grp h.lays k) (pres h.props k) k (fun x hx => (grp_mem.1 hx).2)
    show _ ∧ Srt (putS _ P k) ∧ _ ∧ KSrt (L ++ _) ∧ (∀ x ∈ L ++ _, _) ∧ (∀ x ∈ L ++ _, _)
    refine ⟨fun q => ?_, srt_put i2 _ _, fun q => ?_, ?_, fun x hx => ?_, fun x hx => ?_⟩
    · show pres (putS _ P k) q = _
      by_cases hq : q = k
      · subst hq; rw [put_same i2 hN.2, if_pos (by simp)]
      · rw [put_other i2 _ hq, i1 q]
        simp [hq]
    · show grp (L ++ _) q = _
      rw [grp_append, i3 q]
      by_cases hq : q = k
      · subst hq
        rw [if_neg hnk, if_pos (by simp), List.nil_append, grp_all hK]
      · rw [grp_none (l := (decL a r (grp h.lays k) (pres h.props k)).1) (fun x hx => by rw [hK x hx]; exact fun e => hq e.symm), List.append_nil]
        simp [hq]
    · refine List.pairwise_append.2 ⟨i4, ?_, fun x hx y hy => ?_⟩
      · exact List.Pairwise.imp_of_mem (R := fun _ _ => True) (fun {x y} hx hy _ => by rw [hK x hx, hK y hy]; exact Int.le_refl _) (List.pairwise_of_forall (fun _ _ => trivial))
      · have h1 := hlt _ (i6 x hx)
        rw [hK y hy]; exact Int.le_of_lt h1
    · rcases List.mem_append.1 hx with hx | hx
      · exact i5 x hx
      · exact hN.1 x hx
    · rcases List.mem_append.1 hx with hx | hx
      · have := i6 x hx; simp [this]
      · simp [hK x hx]
theorem keys_none {l : List Ly} {k : Int} (h : k ∉ keysU l) : grp l k = [] := grp_none fun x hx e => h ((keysU_mem l k).2 ⟨x, hx, e⟩)
theorem kept_dec {a r : Int → Bool} {h : Hd} (ho : Ord h) : Dec a r h (keptH a r h) := by
  obtain ⟨i1, i2, i3, i4, i5, i6⟩ := fold_spec (a := a) (r := r) ho (keysU h.lays) (keysU_srt ho.lays)
  refine ⟨⟨i2, ho.dels.filter _, i4, i5, ?_⟩, fun k => ?_, fun k => ?_, rfl, rfl, rfl⟩
  · show (if a h.ins then 0 else h.ins) = 0 → (if a h.ins then 0 else h.move) = 0
    intro h1
    split
    · rfl
    · rename_i hn
      rw [if_neg hn] at h1
      exact ho.move h1
  · show pres ((keysU h.lays).foldl (stepH a r h) (h.props, [])).1 k = _
    rw [i1 k]
    split
    · rfl
    · rename_i hk; rw [keys_none hk]; rfl
  · show grp ((keysU h.lays).foldl (stepH a r h) (h.props, [])).2 k = _
    rw [i3 k]
    split
    · rfl
    · rename_i hk; rw [keys_none hk]; rfl
end Go.Proofs.Ytjhppkjngifibaa

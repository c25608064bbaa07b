/- Layer 12, plain: the rectangles, cell by cell. -/
import Derived.Test.YtkdhffidkopmcaaG1
namespace Go.Proofs.Ytkdhffidkopmcaa
namespace Gd
set_option linter.unusedVariables false
set_option linter.unusedSimpArgs false
/-- A rectangle: the row and the cell at which it starts, its columns, the row behind it. -/
structure Rc where
  row : Nat
  cell : Nat
  left : Nat
  bot : Nat
  right : Nat
/-- The cell c of row i. -/
def At (T : Tb) (i c f t : Nat) (m : Int) : Prop := ∃ L, T[i]? = some L ∧ L[c]? = some (f, t, m)
theorem At.has {T : Tb} {i c f t : Nat} {m : Int} (h : At T i c f t m) (n : f < t) : Has T i f t m := by
  obtain ⟨L, h1, h2⟩ := h; exact ⟨L, h1, List.mem_of_getElem? h2, n⟩
theorem Has.at {T : Tb} {i f t : Nat} {m : Int} (h : Has T i f t m) : ∃ c, At T i c f t m := by
  obtain ⟨L, h1, h2, _⟩ := h
  obtain ⟨c, hc, e⟩ := List.mem_iff_getElem.1 h2
  exact ⟨c, L, h1, by rw [List.getElem?_eq_getElem hc, e]⟩
theorem At.fn {T : Tb} {i c f t f' t' : Nat} {m m' : Int} (a : At T i c f t m) (b : At T i c f' t' m') : f = f' ∧ t = t' ∧ m = m' := by
  obtain ⟨L, h1, h2⟩ := a
  obtain ⟨L', h1', h2'⟩ := b
  rw [h1] at h1'; cases h1'
  rw [h2] at h2'; cases h2'; exact ⟨rfl, rfl, rfl⟩
theorem At.idx {T : Tb} (h : TbOk T) {i c c' f t t' : Nat} {m m' : Int} (a : At T i c f t m) (b : At T i c' f t' m') (n : f < t) (n' : f < t') : c = c' := by
  obtain ⟨L, h1, h2⟩ := a
  obtain ⟨L', h1', h2'⟩ := b
  rw [h1] at h1'; cases h1'
  obtain ⟨k1, e1⟩ := List.getElem?_eq_some_iff.1 h2
  obtain ⟨k2, e2⟩ := List.getElem?_eq_some_iff.1 h2'
  exact (h L (List.mem_of_getElem? h1)).uniq k1 k2 (by rw [e1]; exact n) (by rw [e2]; exact n') (by rw [e1, e2])
theorem At.ok {T : Tb} (h : TbOk T) {i c f t : Nat} {m : Int} (a : At T i c f t m) : f ≤ t ∧ t ≤ 32 := by
  obtain ⟨L, h1, h2⟩ := a
  exact (h L (List.mem_of_getElem? h1)).2 _ (List.mem_of_getElem? h2)
/-- What has been gone through ahead of the cell k of row R. -/
def Pr (R k i c : Nat) : Prop := i < R ∨ (i = R ∧ c < k)
/-- .. and the columns of row i from f to t with it. -/
def PrS (T : Tb) (R k i f t : Nat) : Prop := ∃ c m, Pr R k i c ∧ At T i c f t m
/-- How wide the cells are that have been gone through: by rows. -/
def wid (L : List Ce) : Nat := (L.map fun x => x.2.1 - x.1).sum
def widT (T : Tb) : Nat := (T.map wid).sum
def areas (rs : List Rc) : Nat := (rs.map fun q => (q.bot - q.row) * (q.right - q.left)).sum

structure Inv (T : Tb) (R k : Nat) (rs : List Rc) (at' : Nat → Nat → Option Nat) : Prop where
  cell : ∀ q ∈ rs, (∃ m, At T q.row q.cell q.left q.right m) ∧ q.left < q.right ∧ ¬ Kc T q.row q.left q.right ∧ Pr R k q.row q.cell
  bot : ∀ q ∈ rs, q.row < q.bot ∧ (∀ x, q.row < x → x < q.bot → Kc T x q.left q.right ∧ PrS T R k x q.left q.right) ∧ ¬ (Kc T q.bot q.left q.right ∧ PrS T R k q.bot q.left q.right) ∧ q.bot ≤ T.length
  some_ : ∀ r f j, at' r f = some j → ∃ q, rs[j]? = some q ∧ q.left = f ∧ q.row = top T f q.right r ∧ ∃ c m, Pr R k r c ∧ At T r c f q.right m
  all : ∀ r c f t m, Pr R k r c → At T r c f t m → f < t → at' r f ≠ none
  ord : rs.Pairwise fun a b => a.row < b.row ∨ (a.row = b.row ∧ a.cell < b.cell)
  area : areas rs = widT (T.take R) + wid (((T[R]?).getD []).take k)

theorem Inv.start (T : Tb) : Inv T 0 0 [] (fun _ _ => none) where
  cell := fun q h => by cases h
  bot := fun q h => by cases h
  some_ := fun r f j h => by cases h
  all := fun r c f t m h => by rcases h with h | ⟨_, h⟩ <;> omega
  ord := List.Pairwise.nil
  area := by simp [areas, widT, wid]
theorem Pr.succ {R k i c : Nat} (h : Pr R k i c) : Pr R (k + 1) i c := by unfold Pr at *; omega
theorem Pr.cases {R k i c : Nat} (h : Pr R (k + 1) i c) : Pr R k i c ∨ (i = R ∧ c = k) := by unfold Pr at *; omega
theorem Inv.rowEnd {T : Tb} {R : Nat} {L : List Ce} {rs : List Rc} {at' : Nat → Nat → Option Nat} (h : Inv T R L.length rs at') (hL : T[R]? = some L) : Inv T (R + 1) 0 rs at' := by
  have pr : ∀ {i c f t m}, At T i c f t m → (Pr (R + 1) 0 i c ↔ Pr R L.length i c) := by
    intro i c f t m ⟨L', h1, h2⟩
    unfold Pr
    constructor
    · intro h
      rcases h with h | ⟨_, h⟩
      · by_cases e : i = R
        · subst e; rw [hL] at h1; cases h1; exact .inr ⟨rfl, (List.getElem?_eq_some_iff.1 h2).1⟩
        · exact .inl (by omega)
      · omega
    · intro h; omega
  refine ⟨fun q hq => ?_, fun q hq => ?_, fun r f j hj => ?_, fun r c f t m hp ha hn => h.all r c f t m ((pr ha).1 hp) ha hn, h.ord, ?_⟩
  · obtain ⟨⟨m, a⟩, b, c, d⟩ := h.cell q hq
    exact ⟨⟨m, a⟩, b, c, (pr a).2 d⟩
  · obtain ⟨a, b, c, d⟩ := h.bot q hq
    refine ⟨a, fun x h1 h2 => ⟨(b x h1 h2).1, by obtain ⟨_, c', m, p, g⟩ := b x h1 h2; exact ⟨c', m, (pr g).2 p, g⟩⟩, fun ⟨e, c', m, p, g⟩ => c ⟨e, c', m, (pr g).1 p, g⟩, d⟩
  · obtain ⟨q, a, b, c, x, m, p, g⟩ := h.some_ r f j hj
    exact ⟨q, a, b, c, x, m, (pr g).2 p, g⟩
  · rw [h.area, hL]
    have e : T.take (R + 1) = T.take R ++ [L] := by
      obtain ⟨hlt, e⟩ := List.getElem?_eq_some_iff.1 hL
      rw [List.take_succ_eq_append_getElem hlt, e]
    rw [e]
    simp [widT, wid]
theorem wid_take {L : List Ce} {k : Nat} {x : Ce} (h : L[k]? = some x) : wid (L.take (k + 1)) = wid (L.take k) + (x.2.1 - x.1) := by
  obtain ⟨hlt, e⟩ := List.getElem?_eq_some_iff.1 h
  rw [List.take_succ_eq_append_getElem hlt, e]
  simp [wid]
theorem PrS.succ {T : Tb} {R k i f t : Nat} (h : PrS T R k i f t) : PrS T R (k + 1) i f t := by obtain ⟨c, m, p, g⟩ := h; exact ⟨c, m, p.succ, g⟩
/-- A cell without columns. -/
theorem Inv.skip {T : Tb} {R k f : Nat} {m : Int} {rs : List Rc} {at' : Nat → Nat → Option Nat} (h : Inv T R k rs at') (ha : At T R k f f m) : Inv T R (k + 1) rs at' := by
  refine ⟨fun q hq => ?_, fun q hq => ?_, fun r f' j hj => ?_, fun r c f' t m' hp ha' hn => ?_, h.ord, ?_⟩
  · obtain ⟨a, b, c, d⟩ := h.cell q hq
    exact ⟨a, b, c, d.succ⟩
  · obtain ⟨a, b, c, d⟩ := h.bot q hq
    refine ⟨a, fun x h1 h2 => ⟨(b x h1 h2).1, (b x h1 h2).2.succ⟩, fun ⟨e, c', m', p, g⟩ => ?_, d⟩
    rcases p.cases with p | ⟨p1, p2⟩
    · exact c ⟨e, c', m', p, g⟩
    · rw [p1, p2] at g
      obtain ⟨g1, g2, _⟩ := At.fn ha g
      have := (h.cell q hq).2.1
      omega
  · obtain ⟨q, a, b, c, x, m', p, g⟩ := h.some_ r f' j hj
    exact ⟨q, a, b, c, x, m', p.succ, g⟩
  · rcases hp.cases with p | ⟨p1, p2⟩
    · exact h.all r c f' t m' p ha' hn
    · subst p1 p2
      obtain ⟨g1, g2, _⟩ := At.fn ha ha'
      omega
  · obtain ⟨L, h1, h2⟩ := ha
    rw [h.area, h1, Option.getD_some, wid_take h2]
    simp
/-- What the program asks says whether the cell continues the one above. -/
theorem Inv.test {T : Tb} (hT : TbOk T) {R k f t : Nat} {m : Int} {rs : List Rc} {at' : Nat → Nat → Option Nat} (h : Inv T R k rs at') (ha : At T R k f t m) (hn : f < t) :
    Kc T R f t ↔ ∃ R' j q m', R = R' + 1 ∧ at' R' f = some j ∧ m = 2 ∧ rs[j]? = some q ∧ q.left = f ∧ q.right = t ∧ At T q.row q.cell q.left q.right m' ∧ (m' = 1 ∨ m' = 2) := by
  constructor
  · rintro ⟨R', rfl, h2, hu⟩
    have hm := (Has.uniq hT (ha.has hn) h2).2
    obtain ⟨mu, hmu, hu'⟩ : ∃ mu, Has T R' f t mu ∧ (mu = 1 ∨ mu = 2) := by
      rcases hu with h | h
      · exact ⟨1, h, .inl rfl⟩
      · exact ⟨2, h, .inr rfl⟩
    obtain ⟨c, hc⟩ := hmu.at
    have hne := h.all R' c f t mu (.inl (by omega)) hc hn
    obtain ⟨j, hj⟩ : ∃ j, at' R' f = some j := by cases e : at' R' f with | none => exact absurd e hne | some j => exact ⟨j, rfl⟩
    obtain ⟨q, hq, hl, hr, c', mc, _, hac⟩ := h.some_ R' f j hj
    have hqc := h.cell q (List.mem_of_getElem? hq)
    have hlt := hqc.2.1
    rw [hl] at hlt
    obtain ⟨ht, _⟩ := Has.uniq hT (hac.has hlt) hmu
    obtain ⟨m', hm'⟩ := hqc.1
    refine ⟨R', j, q, m', rfl, hj, hm, hq, hl, ht, hm', ?_⟩
    have hx := hm'.has hqc.2.1
    rw [hl, ht] at hx
    rw [ht] at hr
    by_cases e : top T f t R' = R'
    · rw [hr, e] at hx
      have := (Has.uniq hT hx hmu).2
      rw [this]; exact hu'
    · have hk := top_all T f t R' (top T f t R' + 1) (by omega) (by have := top_le T f t R'; omega)
      rw [hr] at hx
      rcases hk.up with u | u
      · exact .inl (Has.uniq hT hx u).2
      · exact .inr (Has.uniq hT hx u).2
  · rintro ⟨R', j, q, m', rfl, hj, rfl, hq, hl, hr, hm', h12⟩
    obtain ⟨q', hq', _, hr', c', mc, _, hac⟩ := h.some_ R' f j hj
    rw [hq] at hq'; cases hq'
    rw [hr] at hac hr'
    refine ⟨R', rfl, ha.has hn, ?_⟩
    have hac' := hac.has hn
    by_cases e : top T f t R' = R'
    · have hx := hm'.has (by rw [hl, hr]; exact hn)
      rw [hl, hr, hr', e] at hx
      rcases h12 with rfl | rfl
      · exact .inl hx
      · exact .inr hx
    · have hk := top_all T f t R' R' (by have := top_le T f t R'; omega) (Nat.le_refl _)
      exact .inr hk.has
theorem areas_append (a b : List Rc) : areas (a ++ b) = areas a + areas b := by simp [areas]
/-- A cell that starts a rectangle. -/
theorem Inv.new {T : Tb} (hT : TbOk T) {R k f t : Nat} {m : Int} {rs : List Rc} {at' : Nat → Nat → Option Nat} (h : Inv T R k rs at') (ha : At T R k f t m) (hn : f < t) (hK : ¬ Kc T R f t) :
    Inv T R (k + 1) (rs ++ [⟨R, k, f, R + 1, t⟩]) (fun r c => if r = R ∧ c = f then some rs.length else at' r c) := by
  have hR : R < T.length := by obtain ⟨L, h1, _⟩ := ha; exact (List.getElem?_eq_some_iff.1 h1).1
  refine ⟨fun q hq => ?_, fun q hq => ?_, fun r f' j hj => ?_, fun r c f' t' m' hp ha' hn' => ?_, ?_, ?_⟩
  · rcases List.mem_append.1 hq with hq | hq
    · obtain ⟨a, b, c, d⟩ := h.cell q hq
      exact ⟨a, b, c, d.succ⟩
    · obtain rfl := List.mem_singleton.1 hq
      exact ⟨⟨m, ha⟩, hn, hK, .inr ⟨rfl, Nat.lt_succ_self _⟩⟩
  · rcases List.mem_append.1 hq with hq | hq
    · obtain ⟨a, b, c, d⟩ := h.bot q hq
      refine ⟨a, fun x h1 h2 => ⟨(b x h1 h2).1, (b x h1 h2).2.succ⟩, fun ⟨e, c', m', p, g⟩ => ?_, d⟩
      rcases p.cases with p | ⟨p1, p2⟩
      · exact c ⟨e, c', m', p, g⟩
      · rw [p1, p2] at g
        obtain ⟨g1, g2, _⟩ := At.fn ha g
        rw [p1, ← g1, ← g2] at e
        exact hK e
    · obtain rfl := List.mem_singleton.1 hq
      refine ⟨Nat.lt_succ_self _, fun x h1 h2 => ?_, fun ⟨_, c', m', p, g⟩ => ?_, hR⟩
      · simp only at h1 h2; omega
      · simp only at p
        unfold Pr at p; omega
  · by_cases e : r = R ∧ f' = f
    · simp only [if_pos e] at hj
      cases hj
      obtain ⟨rfl, rfl⟩ := e
      exact ⟨_, List.getElem?_concat_length, rfl, (top_self hK).symm, k, m, .inr ⟨rfl, Nat.lt_succ_self _⟩, ha⟩
    · simp only [if_neg e] at hj
      obtain ⟨q, a, b, c, x, m', p, g⟩ := h.some_ r f' j hj
      exact ⟨q, by rw [List.getElem?_append_left (List.getElem?_eq_some_iff.1 a).1]; exact a, b, c, x, m', p.succ, g⟩
  · by_cases e : r = R ∧ f' = f
    · simp [e]
    · simp only [if_neg e]
      rcases hp.cases with p | ⟨p1, p2⟩
      · exact h.all r c f' t' m' p ha' hn'
      · subst p1 p2
        obtain ⟨g1, _, _⟩ := At.fn ha ha'
        exact absurd ⟨rfl, g1.symm⟩ e
  · rw [List.pairwise_append]
    refine ⟨h.ord, List.pairwise_singleton _ _, fun a ha' b hb => ?_⟩
    obtain rfl := List.mem_singleton.1 hb
    have := (h.cell a ha').2.2.2
    unfold Pr at this
    simp only
    omega
  · rw [areas_append, h.area]
    obtain ⟨L, h1, h2⟩ := ha
    rw [h1, Option.getD_some, wid_take h2]
    simp [areas]
    omega
theorem Kc.lt {T : Tb} {i f t : Nat} (h : Kc T i f t) : i < T.length := by
  obtain ⟨L, h1, _⟩ := h.has; exact (List.getElem?_eq_some_iff.1 h1).1
theorem areas_set (rs : List Rc) (j b : Nat) (q : Rc) (h : rs[j]? = some q) (h1 : q.row < q.bot) (h2 : q.bot = b) (h3 : q.left ≤ q.right) : areas (rs.set j { q with bot := b + 1 }) = areas rs + (q.right - q.left) := by
  induction rs generalizing j with
  | nil => simp at h
  | cons a r ih =>
    cases j with
    | zero =>
      simp at h
      subst h
      simp [areas]
      have e : b + 1 - a.row = (a.bot - a.row) + 1 := by omega
      rw [e, Nat.add_mul]
      omega
    | succ j =>
      have := ih j (by simpa using h)
      simp [areas] at this ⊢
      omega
/-- A cell that continues one. -/
theorem Inv.more {T : Tb} (hT : TbOk T) {R k f t j : Nat} {m : Int} {q : Rc} {rs : List Rc} {at' : Nat → Nat → Option Nat} (h : Inv T (R + 1) k rs at') (ha : At T (R + 1) k f t m) (hn : f < t) (hK : Kc T (R + 1) f t) (hj : at' R f = some j) (hq : rs[j]? = some q) :
    Inv T (R + 1) (k + 1) (rs.set j { q with bot := R + 2 }) (fun r c => if r = R + 1 ∧ c = f then some j else at' r c) := by
  obtain ⟨q', hq', hl, hr, c0, m0, _, hac⟩ := h.some_ R f j hj
  rw [hq] at hq'; cases hq'
  have hqm := List.mem_of_getElem? hq
  have hqc := h.cell q hqm
  have hlt := hqc.2.1
  obtain ⟨mu, hmu⟩ : ∃ mu, Has T R f t mu := by rcases hK.up with u | u <;> exact ⟨_, u⟩
  obtain ⟨ht, _⟩ := Has.uniq hT (hac.has (by omega)) hmu
  have hjl := (List.getElem?_eq_some_iff.1 hq).1
  have hqb := h.bot q hqm
  rw [ht] at hr
  -- the rectangle ended here
  have hb : q.bot = R + 1 := by
    rcases Nat.lt_trichotomy q.bot (R + 1) with c | c | c
    · have hk : Kc T q.bot q.left q.right := by rw [hl, ht]; exact top_all T f t R q.bot (by rw [← hr]; exact hqb.1) (by omega)
      obtain ⟨cc, hcc⟩ := hk.has.at
      exact absurd ⟨hk, cc, _, .inl c, hcc⟩ hqb.2.2.1
    · exact c
    · obtain ⟨_, c', m', p, g⟩ := hqb.2.1 (R + 1) (by rw [hr]; have := top_le T f t R; omega) c
      rw [hl, ht] at g
      have e := g.idx hT ha hn hn
      rw [e] at p
      unfold Pr at p; omega
  have me : PrS T (R + 1) (k + 1) (R + 1) f t := ⟨k, m, .inr ⟨rfl, Nat.lt_succ_self _⟩, ha⟩
  have hget : ∀ {i : Nat} {y : Rc}, (rs.set j { q with bot := R + 2 })[i]? = some y → (i = j ∧ y = { q with bot := R + 2 }) ∨ (i ≠ j ∧ rs[i]? = some y) := by
    intro i y hy
    rw [List.getElem?_set] at hy
    by_cases e : j = i
    · subst e
      rw [if_pos rfl, if_pos hjl] at hy
      cases hy
      exact .inl ⟨rfl, rfl⟩
    · rw [if_neg e] at hy
      exact .inr ⟨fun h => e h.symm, hy⟩
  refine ⟨fun y hy => ?_, fun y hy => ?_, fun r f' j' hj' => ?_, fun r c f' t' m' hp ha' hn' => ?_, ?_, ?_⟩
  · obtain ⟨i, hi⟩ := List.mem_iff_getElem?.1 hy
    rcases hget hi with ⟨rfl, rfl⟩ | ⟨_, hi⟩
    · exact ⟨hqc.1, hqc.2.1, hqc.2.2.1, hqc.2.2.2.succ⟩
    · obtain ⟨a, b, c, d⟩ := h.cell y (List.mem_of_getElem? hi)
      exact ⟨a, b, c, d.succ⟩
  · obtain ⟨i, hi⟩ := List.mem_iff_getElem?.1 hy
    rcases hget hi with ⟨rfl, rfl⟩ | ⟨hne, hi⟩
    · refine ⟨?_, fun x h1 h2 => ?_, ?_, ?_⟩
      · show q.row < R + 2
        rw [hr]; have := top_le T f t R; omega
      · show Kc T x q.left q.right ∧ PrS T (R + 1) (k + 1) x q.left q.right
        have h1' : q.row < x := h1
        have h2' : x < R + 2 := h2
        by_cases e : x = R + 1
        · rw [e, hl, ht]; exact ⟨hK, me⟩
        · have := hqb.2.1 x h1' (by omega)
          exact ⟨this.1, this.2.succ⟩
      · show ¬ (Kc T (R + 2) q.left q.right ∧ PrS T (R + 1) (k + 1) (R + 2) q.left q.right)
        rintro ⟨_, c', m', p, _⟩
        unfold Pr at p; omega
      · show R + 2 ≤ T.length
        exact hK.lt
    · obtain ⟨a, b, c, d⟩ := h.bot y (List.mem_of_getElem? hi)
      refine ⟨a, fun x h1 h2 => ⟨(b x h1 h2).1, (b x h1 h2).2.succ⟩, fun ⟨e, c', m', p, g⟩ => ?_, d⟩
      rcases p.cases with p | ⟨p1, p2⟩
      · exact c ⟨e, c', m', p, g⟩
      · -- two rectangles that end at the same cell
        rw [p1, p2] at g
        obtain ⟨g1, g2, _⟩ := At.fn ha g
        have hy' := h.cell y (List.mem_of_getElem? hi)
        have hyr : y.row = top T f t R := by
          refine top_unique ?_ ?_ ?_
          · omega
          · rw [g1, g2]; exact hy'.2.2.1
          · intro x h1 h2
            rw [g1, g2]; exact (b x h1 (by omega)).1
        have hcy : y.cell = q.cell := by
          obtain ⟨my, hmy⟩ := hy'.1
          obtain ⟨mq, hmq⟩ := hqc.1
          rw [hyr, ← hr] at hmy
          have hyl := hy'.2.1
          rw [← g1, ← g2] at hmy
          rw [hl, ht] at hmq
          exact hmy.idx hT hmq hn hn
        have hij : i = j := by
          have hil := (List.getElem?_eq_some_iff.1 hi)
          have hjl' := (List.getElem?_eq_some_iff.1 hq)
          obtain ⟨hil1, hil2⟩ := hil
          obtain ⟨hjl1, hjl2⟩ := hjl'
          rcases Nat.lt_trichotomy i j with c | c | c
          · have := List.pairwise_iff_getElem.1 h.ord i j hil1 hjl1 c
            rw [hil2, hjl2] at this; omega
          · exact c
          · have := List.pairwise_iff_getElem.1 h.ord j i hjl1 hil1 c
            rw [hil2, hjl2] at this; omega
        exact hne hij
  · by_cases e : r = R + 1 ∧ f' = f
    · simp only [if_pos e] at hj'
      cases hj'
      obtain ⟨rfl, rfl⟩ := e
      refine ⟨{ q with bot := R + 2 }, by rw [List.getElem?_set, if_pos rfl, if_pos hjl], hl, ?_, k, m, .inr ⟨rfl, Nat.lt_succ_self _⟩, ?_⟩
      · show q.row = top T _ q.right (R + 1)
        rw [ht, top_succ hK]; exact hr
      · show At T (R + 1) k _ q.right m
        rw [ht]; exact ha
    · simp only [if_neg e] at hj'
      obtain ⟨y, a, b, c, x, m', p, g⟩ := h.some_ r f' j' hj'
      by_cases ej : j' = j
      · subst ej
        rw [hq] at a; cases a
        exact ⟨{ q with bot := R + 2 }, by rw [List.getElem?_set, if_pos rfl, if_pos hjl], b, c, x, m', p.succ, g⟩
      · exact ⟨y, by rw [List.getElem?_set, if_neg (fun h => ej h.symm)]; exact a, b, c, x, m', p.succ, g⟩
  · by_cases e : r = R + 1 ∧ f' = f
    · simp [e]
    · simp only [if_neg e]
      rcases hp.cases with p | ⟨p1, p2⟩
      · exact h.all r c f' t' m' p ha' hn'
      · subst p1 p2
        obtain ⟨g1, _, _⟩ := At.fn ha ha'
        exact absurd ⟨rfl, g1.symm⟩ e
  · rw [List.pairwise_iff_getElem]
    intro i i' h1 h2 hlt
    rw [List.length_set] at h1 h2
    have := List.pairwise_iff_getElem.1 h.ord i i' h1 h2 hlt
    obtain ⟨_, e⟩ := List.getElem?_eq_some_iff.1 hq
    rw [List.getElem_set, List.getElem_set]
    by_cases e1 : j = i
    · subst e1
      rw [if_pos rfl, if_neg (by omega)]
      rw [e] at this; exact this
    · rw [if_neg e1]
      by_cases e2 : j = i'
      · subst e2
        rw [if_pos rfl]; rw [e] at this; exact this
      · rw [if_neg e2]; exact this
  · have := areas_set rs j (R + 1) q hq hqb.1 hb (by omega)
    rw [this, h.area]
    obtain ⟨L, h1, h2⟩ := ha
    rw [h1, Option.getD_some, wid_take h2, hl, ht]
    simp
    omega
theorem Inv.more' {T : Tb} (hT : TbOk T) {R R' k f t j : Nat} {m : Int} {q : Rc} {rs : List Rc} {at' : Nat → Nat → Option Nat} (h : Inv T R k rs at') (ha : At T R k f t m) (hn : f < t) (hK : Kc T R f t) (hR : R = R' + 1) (hj : at' R' f = some j) (hq : rs[j]? = some q) :
    Inv T R (k + 1) (rs.set j { q with bot := R + 1 }) (fun r c => if r = R ∧ c = f then some j else at' r c) := by
  subst hR
  exact h.more hT ha hn hK hj hq
/-- The row behind the rectangle of a cell of row i. -/
def Bt (T : Tb) (f t i b : Nat) : Prop := i < b ∧ b ≤ T.length ∧ (∀ x, i < x → x < b → Kc T x f t) ∧ ¬ Kc T b f t
theorem Bt.unique {T : Tb} {f t i b b' : Nat} (h : Bt T f t i b) (h' : Bt T f t i b') : b = b' := by
  rcases Nat.lt_trichotomy b b' with c | c | c
  · exact absurd (h'.2.2.1 b h.1 c) h.2.2.2
  · exact c
  · exact absurd (h.2.2.1 b' h'.1 c) h'.2.2.2
theorem Bt.top {T : Tb} {f t i b : Nat} (h : Bt T f t i b) : Bt T f t (Gd.top T f t i) b := by
  refine ⟨Nat.lt_of_le_of_lt (top_le T f t i) h.1, h.2.1, fun x h1 h2 => ?_, h.2.2.2⟩
  by_cases e : x ≤ i
  · exact top_all T f t i x h1 e
  · exact h.2.2.1 x (by omega) h2
/-- What all rectangles are. -/
structure Fin (T : Tb) (rs : List Rc) (at' : Nat → Nat → Option Nat) : Prop where
  cell : ∀ q ∈ rs, (∃ m, At T q.row q.cell q.left q.right m) ∧ q.left < q.right ∧ ¬ Kc T q.row q.left q.right ∧ Bt T q.left q.right q.row q.bot
  some_ : ∀ r f j, at' r f = some j → ∃ q, rs[j]? = some q ∧ q.left = f ∧ q.row = top T f q.right r ∧ ∃ c m, At T r c f q.right m
  all : ∀ r c f t m, At T r c f t m → f < t → at' r f ≠ none
  ord : rs.Pairwise fun a b => a.row < b.row ∨ (a.row = b.row ∧ a.cell < b.cell)
  area : areas rs = widT T
theorem Inv.fin {T : Tb} {rs : List Rc} {at' : Nat → Nat → Option Nat} (h : Inv T T.length 0 rs at') : Fin T rs at' := by
  have pr : ∀ {i c f t m}, At T i c f t m → Pr T.length 0 i c := fun ⟨L, h1, _⟩ => .inl (List.getElem?_eq_some_iff.1 h1).1
  refine ⟨fun q hq => ?_, fun r f j hj => ?_, fun r c f t m ha hn => h.all r c f t m (pr ha) ha hn, h.ord, ?_⟩
  · obtain ⟨a, b, c, d⟩ := h.cell q hq
    obtain ⟨x, y, z, u⟩ := h.bot q hq
    refine ⟨a, b, c, x, u, fun r h1 h2 => (y r h1 h2).1, fun hk => z ⟨hk, ?_⟩⟩
    obtain ⟨cc, hc⟩ := hk.has.at
    exact ⟨cc, _, pr hc, hc⟩
  · obtain ⟨q, a, b, c, x, m, _, g⟩ := h.some_ r f j hj
    exact ⟨q, a, b, c, x, m, g⟩
  · rw [h.area]
    simp [wid]
/-- The rectangle of a cell. -/
theorem Fin.get {T : Tb} (hT : TbOk T) {rs : List Rc} {at' : Nat → Nat → Option Nat} (h : Fin T rs at') {i c f t : Nat} {m : Int} (ha : At T i c f t m) (hn : f < t) :
    ∃ j q, at' i f = some j ∧ rs[j]? = some q ∧ q.left = f ∧ q.right = t ∧ q.row = top T f t i ∧ Bt T f t i q.bot ∧ ∃ m', At T (top T f t i) q.cell f t m' := by
  have hne := h.all i c f t m ha hn
  obtain ⟨j, hj⟩ : ∃ j, at' i f = some j := by cases e : at' i f with | none => exact absurd e hne | some j => exact ⟨j, rfl⟩
  obtain ⟨q, hq, hl, hr, c', mc, hac⟩ := h.some_ i f j hj
  obtain ⟨⟨m', hm'⟩, hlt, hk, hb⟩ := h.cell q (List.mem_of_getElem? hq)
  obtain ⟨ht, _⟩ := Has.uniq hT (hac.has (by omega)) (ha.has hn)
  rw [ht] at hr
  rw [hl, ht] at hb hk
  refine ⟨j, q, hj, hq, hl, ht, hr, ?_, m', by rw [← hr, ← hl, ← ht]; exact hm'⟩
  -- the rows from its start to i continue
  have hti := top_le T f t i
  refine ⟨?_, hb.2.1, fun x h1 h2 => hb.2.2.1 x (by omega) h2, hb.2.2.2⟩
  rcases Nat.lt_or_ge i q.bot with g | g
  · exact g
  · exact absurd (top_all T f t i q.bot (by rw [← hr]; exact hb.1) g) hb.2.2.2
end Gd
end Go.Proofs.Ytkdhffidkopmcaa

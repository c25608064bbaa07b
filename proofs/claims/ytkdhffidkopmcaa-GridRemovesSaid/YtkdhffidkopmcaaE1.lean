/- Layer 12: tables that are made anew: rows and cells by their values. -/
import Derived.Test.YtkdhffidkopmcaaL6
import Derived.Test.YtkdhffidkopmcaaK5
namespace Go.Proofs.Ytkdhffidkopmcaa
open Go.RowKit Go.Lib
set_option linter.unusedVariables false

theorem info39 : (Try.prog.info? 39).map (fun i => (i.zero, i.size, i.bytes)) = some (some (.agg #[.slice none 0 0, .int .i64 0, .int .i64 0, .slice none 0 0, .slice none 0 0, .slice none 0 0]), 6, 112) := by kernel_rfl
theorem info74 : (Try.prog.info? 74).map (fun i => (i.zero, i.size, i.bytes)) = some (some (.agg #[.int .i64 0, .slice none 0 0, .int .i64 0, .int .i64 0, .slice none 0 0, .slice none 0 0, .slice none 0 0]), 7, 120) := by kernel_rfl
/-- Lists of equal lengths, one after another. -/
theorem flat_len {n : Nat} : ∀ (vss : List (List Value)), (∀ vs ∈ vss, vs.length = n) → vss.flatten.length = vss.length * n
  | [], _ => by simp
  | vs :: r, h => by
    rw [List.flatten_cons, List.length_append, h vs (List.mem_cons_self ..), flat_len r fun x hx => h x (List.mem_cons_of_mem _ hx), List.length_cons, Nat.add_mul]
    omega
theorem flat_get {n : Nat} : ∀ (vss : List (List Value)), (∀ vs ∈ vss, vs.length = n) → ∀ k (h : k < vss.length) d, d < n → vss.flatten[k * n + d]? = vss[k][d]?
  | [], _, k, h, _, _ => by simp at h
  | vs :: r, hl, k, h, d, hd => by
    have h0 := hl vs (List.mem_cons_self ..)
    cases k with
    | zero =>
      rw [List.flatten_cons, Nat.zero_mul, Nat.zero_add, List.getElem?_append_left (by omega)]
      rfl
    | succ k =>
      have := flat_get r (fun x hx => hl x (List.mem_cons_of_mem _ hx)) k (by simpa using h) d hd
      rw [List.flatten_cons, List.getElem?_append_right (by rw [h0, Nat.add_mul]; omega), show (k + 1) * n + d - vs.length = k * n + d by rw [h0, Nat.add_mul]; omega, this]
      rfl
/-- A cell's values. -/
def CV (w : World) (x : Cl) (vs : List Value) : Prop := ∃ (a0 a2 a3 : Int) (B : Option Addr) (c : Nat) (D : Option Addr) (dn dc : Nat) (Y : Option Addr) (yn yc : Nat) (F : Option Addr) (fc : Nat),
  vs = [.int .i64 a0, .slice B x.props.length c, .int .i64 a2, .int .i64 a3, .slice D dn dc, .slice Y yn yc, .slice F x.flow fc] ∧ x.props.length ≤ c ∧ c ≤ maxLen ∧ PrAt w B x.props
theorem CV.len {w : World} {x : Cl} {vs : List Value} (h : CV w x vs) : vs.length = 7 := by
  obtain ⟨a0, a2, a3, B, c, D, dn, dc, Y, yn, yc, F, fc, rfl, _⟩ := h; rfl
theorem CV.one {w : World} {x : Cl} {vs : List Value} (h : CV w x vs) : ∀ u ∈ vs, u.oneCell' = true := by
  obtain ⟨a0, a2, a3, B, c, D, dn, dc, Y, yn, yc, F, fc, rfl, _⟩ := h
  intro u hu
  simp at hu
  rcases hu with rfl | rfl | rfl | rfl | rfl | rfl | rfl <;> rfl
theorem ClAt.vals {w : World} {g o : Nat} {x : Cl} (h : ClAt w g o x) : ∃ vs, CV w x vs ∧ ∀ d, d < 7 → w.cell? ⟨g, o + d, none⟩ = vs[d]? := by
  obtain ⟨a0, a2, a3, B, c, D, dn, dc, Y, yn, yc, F, fc, c0, c1, c2, c3, c4, c5, c6, h1, h2, h⟩ := h
  refine ⟨_, ⟨a0, a2, a3, B, c, D, dn, dc, Y, yn, yc, F, fc, rfl, h1, h2, h⟩, fun d hd => ?_⟩
  match d, hd with
  | 0, _ => exact c0
  | 1, _ => exact c1
  | 2, _ => exact c2
  | 3, _ => exact c3
  | 4, _ => exact c4
  | 5, _ => exact c5
  | 6, _ => exact c6
theorem CV.cl {w w' : World} {g o : Nat} {x : Cl} {vs : List Value} (h : CV w x vs) (hb : Below w.heap.size w w') (hc : ∀ d, d < 7 → w'.cell? ⟨g, o + d, none⟩ = vs[d]?) : ClAt w' g o x := by
  obtain ⟨a0, a2, a3, B, c, D, dn, dc, Y, yn, yc, F, fc, rfl, h1, h2, h⟩ := h
  exact ⟨a0, a2, a3, B, c, D, dn, dc, Y, yn, yc, F, fc, hc 0 (by omega), hc 1 (by omega), hc 2 (by omega), hc 3 (by omega), hc 4 (by omega), hc 5 (by omega), hc 6 (by omega), h1, h2, h.below hb (Nat.le_refl _)⟩
/-- Cells by their values, in order. -/
def CVs (w : World) (r : List Cl) (vss : List (List Value)) : Prop := vss.length = r.length ∧ ∀ k (h : k < r.length) (h' : k < vss.length), CV w r[k] vss[k]
theorem CVs.len {w : World} {r : List Cl} {vss : List (List Value)} (h : CVs w r vss) : ∀ vs ∈ vss, vs.length = 7 := fun vs hv => by
  obtain ⟨k, hk, rfl⟩ := List.mem_iff_getElem.1 hv
  exact (h.2 k (by rw [← h.1]; exact hk) hk).len
theorem CVs.one {w : World} {r : List Cl} {vss : List (List Value)} (h : CVs w r vss) : ∀ u ∈ vss.flatten, u.oneCell' = true := fun u hu => by
  obtain ⟨vs, hv, hu⟩ := List.mem_flatten.1 hu
  obtain ⟨k, hk, rfl⟩ := List.mem_iff_getElem.1 hv
  exact (h.2 k (by rw [← h.1]; exact hk) hk).one u hu
theorem CVs.take {w : World} {r : List Cl} {vss : List (List Value)} (h : CVs w r vss) (n : Nat) : CVs w (r.take n) (vss.take n) := by
  refine ⟨by rw [List.length_take, List.length_take, h.1], fun k hk hk' => ?_⟩
  rw [List.getElem_take, List.getElem_take]
  rw [List.length_take] at hk hk'
  exact h.2 k (by omega) (by omega)
theorem CVs.drop {w : World} {r : List Cl} {vss : List (List Value)} (h : CVs w r vss) (n : Nat) : CVs w (r.drop n) (vss.drop n) := by
  refine ⟨by rw [List.length_drop, List.length_drop, h.1], fun k hk hk' => ?_⟩
  rw [List.getElem_drop, List.getElem_drop]
  rw [List.length_drop] at hk hk'
  exact h.2 (n + k) (by omega) (by omega)
theorem CVs.append {w : World} {r s : List Cl} {vss wss : List (List Value)} (h : CVs w r vss) (h' : CVs w s wss) : CVs w (r ++ s) (vss ++ wss) := by
  refine ⟨by rw [List.length_append, List.length_append, h.1, h'.1], fun k hk hk' => ?_⟩
  by_cases e : k < r.length
  · rw [List.getElem_append_left e, List.getElem_append_left (by rw [h.1]; exact e)]
    exact h.2 k e _
  · have e1 := h.1
    have := h'.2 (k - r.length) (by simp at hk; omega) (by simp at hk'; omega)
    rw [List.getElem_append_right (by omega), List.getElem_append_right (by omega)]
    simp only [h.1]
    exact this
theorem CsAt.vals {w : World} {g o : Nat} {r : List Cl} (h : CsAt w (some ⟨g, o, none⟩) r) : ∃ vss, CVs w r vss ∧ ∀ j u, vss.flatten[j]? = some u → w.cell? ⟨g, o + j, none⟩ = some u := by
  by_cases e : r = []
  · subst e; exact ⟨[], ⟨rfl, fun k h => by simp at h⟩, fun j u h => by simp at h⟩
  · rcases h with h | ⟨g', o', h1, h2, h3⟩
    · exact absurd h e
    · injection h1 with h1
      injection h1 with e1 e2
      subst e1 e2
      have key : ∀ (r : List Cl) (b : Nat), (∀ k (h : k < r.length), ClAt w g (b + k * 7) r[k]) → ∃ vss, CVs w r vss ∧ ∀ k (h : k < vss.length) d, d < 7 → w.cell? ⟨g, b + k * 7 + d, none⟩ = vss[k][d]? := by
        intro r
        induction r with
        | nil => intro b _; exact ⟨[], ⟨rfl, fun k h => by simp at h⟩, fun k h => by simp at h⟩
        | cons x r ih =>
          intro b h
          obtain ⟨vs, hv, hd⟩ := (h 0 (by simp)).vals
          obtain ⟨vss, h1, h2⟩ := ih (b + 7) fun k hk => by
            have := h (k + 1) (by simpa using hk)
            simp only [List.getElem_cons_succ] at this
            rw [show b + 7 + k * 7 = b + (k + 1) * 7 by omega]
            exact this
          refine ⟨vs :: vss, ⟨by simp [h1.1], fun k hk hk' => ?_⟩, fun k hk d hdd => ?_⟩
          · cases k with
            | zero => exact hv
            | succ k => exact h1.2 k (by simpa using hk) (by simpa using hk')
          · cases k with
            | zero => have := hd d hdd; simpa using this
            | succ k =>
              have := h2 k (by simpa using hk) d hdd
              rw [show b + (k + 1) * 7 + d = b + 7 + k * 7 + d by omega]
              exact this
      obtain ⟨vss, hv, hc⟩ := key r o h3
      refine ⟨vss, hv, fun j u hj => ?_⟩
      have hl := flat_len vss hv.len
      have hjl := (List.getElem?_eq_some_iff.1 hj).1
      have hk : j / 7 < vss.length := by omega
      have hf := flat_get vss hv.len (j / 7) hk (j % 7) (by omega)
      have hd := hc (j / 7) hk (j % 7) (by omega)
      rw [show j / 7 * 7 + j % 7 = j by omega] at hf
      rw [show o + j / 7 * 7 + j % 7 = o + j by omega] at hd
      rw [hd, ← hf, hj]
/-- Cells that lie where they lay, or in a row of their own. -/
def CsX (w wr : World) (A : Option Addr) (r : List Cl) : Prop := CsAt w A r ∨ ∃ nb cur vss, A = some ⟨nb, 0, none⟩ ∧ wr.heap[nb]? = some (.cells cur 74 (0, 0)) ∧ CVs w r vss ∧ cur.toList.take (r.length * 7) = vss.flatten
theorem CsX.at {w wr : World} {A : Option Addr} {r : List Cl} (h : CsX w wr A r) (hb : Below w.heap.size w wr) : CsAt wr A r := by
  rcases h with h | ⟨nb, cur, vss, rfl, h1, h2, h3⟩
  · exact h.below hb
  · refine .inr ⟨nb, 0, rfl, (Array.getElem?_eq_some_iff.1 h1).1, fun k hk => (h2.2 k hk (by rw [h2.1]; exact hk)).cl hb fun d hd => ?_⟩
    have hf := flat_get vss h2.len k (by rw [h2.1]; exact hk) d hd
    rw [← hf, ← h3, List.getElem?_take_of_lt (by omega), Nat.zero_add]
    simp [World.cell?, h1]
/-- Whatever is no row of rows stays as it is. -/
def Keep9 (w w' : World) : Prop := ∀ (b : Nat) (cs : Array Value) (t : TypeId) (z : Nat × Nat), w.heap[b]? = some (Obj.cells cs t z) → t ≠ 39 → w'.heap[b]? = some (Obj.cells cs t z)
theorem keep9_below {w w' : World} (h : Below w.heap.size w w') : Keep9 w w' := fun b cs t z hb _ => (h.block b (Array.getElem?_eq_some_iff.1 hb).1).trans hb
theorem Keep9.trans {w w' w'' : World} (h : Keep9 w w') (h' : Keep9 w' w'') : Keep9 w w'' := fun b cs t z hb h1 => h' b cs t z (h b cs t z hb h1) h1
theorem keep9_own {w w' : World} {base : Nat} {v : Value} {n : Nat} {xs : List Value} (hg : w.grownBy w' v.ownBlock) (hv : w.ownsRow base 39 6 v n xs) : Keep9 w w' := fun b cs t z hb h2 => by
  refine (hg.block b (Array.getElem?_eq_some_iff.1 hb).1 fun e => ?_).trans hb
  rcases hv.2 with ⟨rfl, _⟩ | ⟨g, cap, cur, rfl, _, hgg, _⟩
  · cases e
  · injection e with e
    subst e
    rw [hb] at hgg
    injection hgg with hgg
    injection hgg with _ e2 _
    exact h2 e2
theorem keep9_set {w : World} {tb : Nat} {c : Array Value} (h : ObjAt w tb c 39) (i : Nat) (u : Value) : Keep9 w (w.setCell ⟨tb, i, none⟩ u) := fun b cs t z hb h1 => by
  by_cases e : b = tb
  · subst e
    have h' : w.heap[b]? = some (.cells c 39 (0, 0)) := h
    rw [hb] at h'
    injection h' with h'
    injection h' with _ e2 _
    exact absurd e2 h1
  · exact (Below.heap_setCell _ _ _ b e).trans hb
theorem CsX.keep {w wr wr' : World} {A : Option Addr} {r : List Cl} (h : CsX w wr A r) (hk : Keep9 wr wr') : CsX w wr' A r := by
  rcases h with h | ⟨nb, cur, vss, rfl, h1, h2, h3⟩
  · exact .inl h
  · exact .inr ⟨nb, cur, vss, rfl, hk _ _ _ _ h1 (by decide), h2, h3⟩
/-- A row by its values. -/
def RV (w wr : World) (r : List Cl) (vs : List Value) : Prop := ∃ (a1 a2 : Int) (B : Option Addr) (n c : Nat) (D : Option Addr) (dn dc : Nat) (Y : Option Addr) (yn yc : Nat) (A : Option Addr) (k : Nat),
  vs = [.slice B n c, .int .i64 a1, .int .i64 a2, .slice D dn dc, .slice Y yn yc, .slice A r.length k] ∧ r.length ≤ k ∧ k ≤ maxLen ∧ CsX w wr A r
theorem RV.len {w wr : World} {r : List Cl} {vs : List Value} (h : RV w wr r vs) : vs.length = 6 := by
  obtain ⟨a1, a2, B, n, c, D, dn, dc, Y, yn, yc, A, k, rfl, _⟩ := h; rfl
theorem RV.keep {w wr wr' : World} {r : List Cl} {vs : List Value} (h : RV w wr r vs) (hk : Keep9 wr wr') : RV w wr' r vs := by
  obtain ⟨a1, a2, B, n, c, D, dn, dc, Y, yn, yc, A, k, e, h1, h2, h3⟩ := h
  exact ⟨a1, a2, B, n, c, D, dn, dc, Y, yn, yc, A, k, e, h1, h2, h3.keep hk⟩
/-- A table that is being made. -/
def LfAt (w wr : World) (base : Nat) (v : Value) (L : List (List Cl)) : Prop := ∃ vss : List (List Value), vss.length = L.length ∧ wr.ownsRow base 39 6 v L.length vss.flatten ∧ ∀ k (h : k < L.length) (h' : k < vss.length), RV w wr L[k] vss[k]
theorem LfAt.nil (w wr : World) (base : Nat) : LfAt w wr base (.slice none 0 0) [] := ⟨[], rfl, World.ownsRow_nil _ _ _ _, fun k h => by simp at h⟩
theorem LfAt.snoc {w wr wr' : World} {base : Nat} {v v' : Value} {L : List (List Cl)} {r : List Cl} {vs : List Value} {vss : List (List Value)} (hl : vss.length = L.length) (hr : ∀ k (h : k < L.length) (h' : k < vss.length), RV w wr L[k] vss[k])
    (hn : RV w wr' r vs) (ho : wr'.ownsRow base 39 6 v' (L.length + 1) (vss.flatten ++ vs)) (hk : Keep9 wr wr') : LfAt w wr' base v' (L ++ [r]) := by
  refine ⟨vss ++ [vs], by simp [hl], by simpa using ho, fun k h h' => ?_⟩
  by_cases e : k < L.length
  · rw [List.getElem_append_left e, List.getElem_append_left (by rw [hl]; exact e)]
    exact (hr k e _).keep hk
  · have e1 : k = L.length := by simp at h; omega
    subst e1
    simp only [List.getElem_concat_length]
    rw [List.getElem_append_right (by omega)]
    simp [hl]
    exact hn
theorem LfAt.keep {w wr wr' : World} {base : Nat} {v : Value} {L : List (List Cl)} (h : LfAt w wr base v L) (hb : Below wr.heap.size wr wr') : LfAt w wr' base v L := by
  obtain ⟨vss, h1, h2, h3⟩ := h
  exact ⟨vss, h1, own_below h2 hb, fun k a b => (h3 k a b).keep (keep9_below hb)⟩
theorem LfAt.tb {w wr : World} {base : Nat} {v : Value} {L : List (List Cl)} (h : LfAt w wr base v L) (hb : Below w.heap.size w wr) : ∃ A cap, v = .slice A L.length cap ∧ L.length ≤ cap ∧ cap ≤ maxLen ∧ TbAt wr A L := by
  obtain ⟨vss, h1, h2, h3⟩ := h
  obtain ⟨_, h4 | ⟨g, cap, cur, rfl, hg, hgb, hc1, hc2, _⟩⟩ := id h2
  · exact ⟨none, 0, by rw [h4.1, h4.2], by omega, by decide, .inl (List.eq_nil_of_length_eq_zero h4.2)⟩
  · refine ⟨_, cap, rfl, hc1, hc2, .inr ⟨g, 0, rfl, (Array.getElem?_eq_some_iff.1 hgb).1, fun k hk => ?_⟩⟩
    have hk' : k < vss.length := by rw [h1]; exact hk
    obtain ⟨a1, a2, B, n, c, D, dn, dc, Y, yn, yc, A, kk, e, r1, r2, r3⟩ := h3 k hk hk'
    have hl6 : ∀ vs ∈ vss, vs.length = 6 := fun vs hv => by
      obtain ⟨j, hj, rfl⟩ := List.mem_iff_getElem.1 hv
      exact (h3 j (by rw [← h1]; exact hj) hj).len
    have cc := fun d (hd : d < 6) => (h2.cellAt (k * 6 + d) (by omega)).trans (flat_get vss hl6 k hk' d hd)
    rw [e] at cc
    rw [Nat.zero_add]
    exact ⟨a1, a2, B, n, c, D, dn, dc, Y, yn, yc, A, kk, cc 0 (by omega), cc 1 (by omega), cc 2 (by omega), cc 3 (by omega), cc 4 (by omega), cc 5 (by omega), r1, r2, r3.at hb⟩
theorem cell_newA (w : World) (cs : Array Value) (t : TypeId) (l : List Value) (hl : cs.toList = l) (H : Nat) (hH : w.heap.size = H) : ∀ j x, l[j]? = some x → (w.alloc (.cells cs t)).cell? ((⟨H, 0, none⟩ : Addr).add j) = some x := by
  intro j x h
  rw [add0']
  subst hl hH
  exact (ObjAt.new w cs t).get (by simpa using h)
theorem step_append_own {P : Program} {w : World} {ops : Array Oper} {o : Oper} {a : Act} {K : Act → World → Prop} {Q : Exit → Act → World → Prop} {E : Prop} (hgd : o.guard = none) (s x : Operand) (t : TypeId)
    (ho : o.op = .call { callee := .builtin .append, args := #[s, x], argTypes := #[t, t] })
    (base : Nat) (e : TypeId) (i : TypeInfo) (z : Value) (size bytes : Nat) (ht : P.underlying t = some (.slice e)) (hi : P.info? e = some i) (hz : i.zero = some z)
    (hsize : i.size = size) (hby : i.bytes = bytes) (hzs : z.cells.size = size) (hsz : 0 < size)
    (v : Value) (n : Nat) (xs : List Value) (hs : a.eval s = v) (hown : w.ownsRow base e size v n xs)
    (ad : Addr) (m c : Nat) (news : List Value) (hx : a.eval x = .slice (some ad) m c) (hl : news.length = m * size) (hnews : ∀ j u, news[j]? = some u → w.cell? (ad.add j) = some u) (h1 : ∀ u ∈ news, u.oneCell' = true)
    (h63 : n + m ≤ maxLen) (hbytes : (n + m) * bytes ≤ 140737488355328) (hbase : base ≤ w.heap.size)
    (h : ∀ v' w', w'.ownsRow base e size v' (n + m) (xs ++ news) → w.grownBy w' v.ownBlock → K (a.put o.dst v') w') :
    if Region.wanted o (yielded ops a.tmps) = true then Oper.wp P o a w K Q else E := by
  have hw : Region.wanted o (yielded ops a.tmps) = true := by simp [Region.wanted, hgd]
  rw [if_pos hw]
  exact wp_append_own w s x t ho base e i z size bytes ht hi hz hsize hby hzs hsz v n xs hs hown ad m c news hx hl hnews h1 h63 hbytes hbase (fun v' w' a1 a2 _ => h v' w' a1 a2)
theorem own_empty (w : World) (base H : Nat) (e : TypeId) (size : Nat) (hH : w.heap.size = H) (hb : base ≤ H) : (w.alloc (.cells #[] e)).ownsRow base e size (.slice (some ⟨H, 0, none⟩) 0 0) 0 [] := by
  subst hH
  exact World.ownsRow_made w #[] 0 hb (by decide) (by simp)
theorem own_csx {w W : World} {base : Nat} {v : Value} {n : Nat} {xs : List Value} {vss : List (List Value)} {r : List Cl} (h : W.ownsRow base 74 7 v n xs) (hx : xs = vss.flatten) (hcv : CVs w r vss) (hn : n = r.length) (N : Nat) (hN : r.length = N) :
    ∃ A cap, v = .slice A N cap ∧ N ≤ cap ∧ cap ≤ maxLen ∧ CsX w W A r := by
  subst hN hn hx
  rcases h.2 with ⟨rfl, h0⟩ | ⟨g, cap, cur, rfl, _, hg, h1, h2, _, h3⟩
  · exact ⟨none, 0, by rw [h0], by omega, by decide, .inl (.inl (List.eq_nil_of_length_eq_zero h0))⟩
  · exact ⟨_, cap, rfl, h1, h2, .inr ⟨g, cur, vss, rfl, hg, hcv, h3⟩⟩
theorem news_at {w X : World} {g o k : Nat} {L M : List Value} (h : ∀ j u, L[j]? = some u → w.cell? ⟨g, o + j, none⟩ = some u) (hb : Below w.heap.size w X) (hM : ∀ j u, M[j]? = some u → L[k + j]? = some u) : ∀ j u, M[j]? = some u → X.cell? ((⟨g, o + k, none⟩ : Addr).add j) = some u := fun j u hj => by
  have h1 := h _ _ (hM j u hj)
  rw [add_lit', Nat.add_assoc]
  exact (hb.cell (p := ⟨g, o + (k + j), none⟩) (World.block_lt_of_cell? w ⟨g, o + (k + j), none⟩ h1)).trans h1
theorem flat_take {vss : List (List Value)} (h : ∀ vs ∈ vss, vs.length = 7) (k : Nat) : ∀ j u, (vss.take k).flatten[j]? = some u → vss.flatten[0 + j]? = some u := fun j u hj => by
  rw [Nat.zero_add]
  conv => lhs; rw [← List.take_append_drop k vss]
  rw [List.flatten_append, List.getElem?_append_left (List.getElem?_eq_some_iff.1 hj).1]
  exact hj
theorem flat_drop {vss : List (List Value)} (h : ∀ vs ∈ vss, vs.length = 7) (k : Nat) (hk : k ≤ vss.length) : ∀ j u, (vss.drop k).flatten[j]? = some u → vss.flatten[k * 7 + j]? = some u := fun j u hj => by
  have hl : (vss.take k).flatten.length = k * 7 := by
    rw [flat_len _ fun vs hv => h vs (List.mem_of_mem_take hv), List.length_take, Nat.min_eq_left hk]
  conv => lhs; rw [← List.take_append_drop k vss]
  rw [List.flatten_append, List.getElem?_append_right (by omega), hl, Nat.add_sub_cancel_left]
  exact hj
end Go.Proofs.Ytkdhffidkopmcaa

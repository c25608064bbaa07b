/- Layer 12: add (65). -/
import Derived.Test.YtkdhffidkopmcaaB2
namespace Go.Proofs.Ytkdhffidkopmcaa
open Go.RowKit Go.Lib Go.Maps
set_option linter.unusedVariables false

def rcV (q : Gd.Rc) : List Value := [.int .i64 (q.row : Nat), .int .i64 (q.cell : Nat), .int .i64 (q.row : Nat), .int .i64 (q.left : Nat), .int .i64 (q.bot : Nat), .int .i64 (q.right : Nat)]
def rcC (rs : List Gd.Rc) : List Value := rs.flatMap rcV
theorem rcC_len (rs : List Gd.Rc) : (rcC rs).length = rs.length * 6 := by
  unfold rcC
  induction rs with
  | nil => rfl
  | cons a r ih => rw [List.flatMap_cons, List.length_append, ih]; simp [rcV]; omega
theorem rcC_get : ∀ (rs : List Gd.Rc) (j : Nat) (h : j < rs.length) (d : Nat), d < 6 → (rcC rs)[j * 6 + d]? = (rcV rs[j])[d]?
  | [], j, h, d, hd => by simp at h
  | a :: r, 0, h, d, hd => by
    show (rcV a ++ rcC r)[0 * 6 + d]? = _
    rw [List.getElem?_append_left (by simp [rcV]; omega)]; simp
  | a :: r, j + 1, h, d, hd => by
    show (rcV a ++ rcC r)[(j + 1) * 6 + d]? = _
    rw [List.getElem?_append_right (by simp [rcV]; omega)]
    have := rcC_get r j (by simpa using h) d hd
    rw [show (j + 1) * 6 + d - (rcV a).length = j * 6 + d by simp [rcV]; omega, this]
    simp
theorem rcC_snoc (rs : List Gd.Rc) (q : Gd.Rc) : rcC (rs ++ [q]) = rcC rs ++ rcV q := by unfold rcC; rw [List.flatMap_append, List.flatMap_cons, List.flatMap_nil, List.append_nil]
theorem rcC_set : ∀ (rs : List Gd.Rc) (j : Nat) (q : Gd.Rc) (b : Nat), rs[j]? = some q → rcC (rs.set j { q with bot := b }) = (rcC rs).set (j * 6 + 4) (.int .i64 (b : Nat))
  | [], j, q, b, h => by simp at h
  | a :: r, 0, q, b, h => by
    simp at h
    subst h
    simp [rcC, rcV]
  | a :: r, j + 1, q, b, h => by
    have := rcC_set r j q b (by simpa using h)
    show rcV a ++ rcC (r.set j { q with bot := b }) = (rcV a ++ rcC r).set ((j + 1) * 6 + 4) _
    rw [this, List.set_append_right _ _ (by simp [rcV]; omega), show (j + 1) * 6 + 4 - (rcV a).length = j * 6 + 4 by simp [rcV]; omega]
theorem info50 : (Try.prog.info? 50).map (fun i => (i.zero, i.size, i.bytes)) = some (some (.agg #[.int .i64 0, .int .i64 0, .int .i64 0, .int .i64 0, .int .i64 0, .int .i64 0]), 6, 48) := by kernel_rfl
theorem info_parts {i : Option TypeInfo} {z : Option Value} {s b : Nat} (h : i.map (fun i => (i.zero, i.size, i.bytes)) = some (z, s, b)) : ∃ i', i = some i' ∧ i'.zero = z ∧ i'.size = s ∧ i'.bytes = b := by
  obtain ⟨i', hi, hz⟩ := Option.map_eq_some_iff.1 h
  simp only [Prod.mk.injEq] at hz
  exact ⟨i', hi, hz.1, hz.2.1, hz.2.2⟩
theorem own_form {w : World} {base : Nat} {v : Value} {n : Nat} {xs : List Value} {e : TypeId} {sz : Nat} (hv : w.ownsRow base e sz v (n + 1) xs) : ∃ g cap, v = .slice (some ⟨g, 0, none⟩) (n + 1) cap := by
  rcases hv.2 with ⟨_, h⟩ | ⟨g, cap, cur, rfl, _⟩
  · omega
  · exact ⟨g, cap, rfl⟩
theorem own_ne {w : World} {b : Nat} {c : Array Value} {t : TypeId} (h : ObjAt w b c t) {base : Nat} {v : Value} {n : Nat} {xs : List Value} {e : TypeId} {sz : Nat} (hv : w.ownsRow base e sz v n xs) (hne : t ≠ e) : some b ≠ v.ownBlock := by
  rcases hv.2 with ⟨rfl, _⟩ | ⟨g, cap, cur, rfl, _, hg, _⟩
  · exact fun h => by cases h
  · intro he
    have : b = g := by simpa [Value.ownBlock] using he
    subst this
    have h' : w.heap[b]? = some (.cells c t (0, 0)) := h
    rw [hg] at h'
    injection h' with h'
    injection h' with _ h' _
    exact hne h'.symm
theorem own_ne_map {w : World} {b n' : Nat} {f : Int → Int → Option Int} (h : SqAt w b n' f) {base : Nat} {v : Value} {n : Nat} {xs : List Value} {e : TypeId} {sz : Nat} (hv : w.ownsRow base e sz v n xs) : some b ≠ v.ownBlock := by
  rcases hv.2 with ⟨rfl, _⟩ | ⟨g, cap, cur, rfl, _, hg, _⟩
  · exact fun h => by cases h
  · intro he
    have : b = g := by simpa [Value.ownBlock] using he
    exact sq_ne_obj h hg this
theorem own_set {w : World} {base : Nat} {v : Value} {n : Nat} {xs : List Value} {e : TypeId} {sz : Nat} (hv : w.ownsRow base e sz v n xs) {a : Addr} (hne : some a.block ≠ v.ownBlock) (u : Value) : (w.setCell a u).ownsRow base e sz v n xs := by
  refine ⟨hv.1, ?_⟩
  rcases hv.2 with h | ⟨g, cap, cur, rfl, h1, hg, h2⟩
  · exact .inl h
  · exact .inr ⟨g, cap, cur, rfl, h1, (RowKit.Below.heap_setCell _ _ _ _ (fun e => hne (by simp [Value.ownBlock, e]))).trans hg, h2⟩
/-- Rows of other kinds stay as they are. -/
def Keep (w w' : World) : Prop := ∀ (b : Nat) (cs : Array Value) (t : TypeId) (z : Nat × Nat), w.heap[b]? = some (Obj.cells cs t z) → t ≠ 83 → t ≠ 50 → w'.heap[b]? = some (Obj.cells cs t z)
theorem keep_below {w w' : World} (h : Below w.heap.size w w') : Keep w w' := fun b cs t z hb _ _ => (h.block b (Array.getElem?_eq_some_iff.1 hb).1).trans hb
theorem keep_trans {w w' w'' : World} (h : Keep w w') (h' : Keep w' w'') : Keep w w'' := fun b cs t z hb h1 h2 => h' b cs t z (h b cs t z hb h1 h2) h1 h2
theorem keep_own {w w' : World} {base : Nat} {v : Value} {n : Nat} {xs : List Value} (hg : w.grownBy w' v.ownBlock) (hv : w.ownsRow base 50 6 v n xs) : Keep w w' := fun b cs t z hb _ h2 => by
  refine (hg.block b (Array.getElem?_eq_some_iff.1 hb).1 (fun e => ?_)).trans hb
  rcases hv.2 with ⟨rfl, _⟩ | ⟨g, cap, cur, rfl, _, hgg, _⟩
  · cases e
  · have : b = g := by simpa [Value.ownBlock] using e
    rw [this, hgg] at hb
    injection hb with hb
    injection hb with _ hb _
    exact h2 hb.symm
theorem keep_set {w : World} {tb : Nat} {c : Array Value} (h : ObjAt w tb c 83) (i : Nat) (u : Value) : Keep w (w.setCell ⟨tb, i, none⟩ u) := fun b cs t z hb h1 _ => by
  refine (RowKit.Below.heap_setCell _ _ _ _ (fun e => ?_)).trans hb
  have e' : b = tb := e
  have h' : w.heap[tb]? = some (.cells c 83 (0, 0)) := h
  rw [e', h'] at hb
  injection hb with hb
  injection hb with _ hb _
  exact h1 hb.symm
theorem keep_setown {w : World} {base gr cap : Nat} {n : Nat} {xs : List Value} (hv : w.ownsRow base 50 6 (.slice (some ⟨gr, 0, none⟩) n cap) n xs) (i : Nat) (u : Value) : Keep w (w.setCell ⟨gr, i, none⟩ u) := fun b cs t z hb _ h2 => by
  refine (RowKit.Below.heap_setCell _ _ _ _ (fun e => ?_)).trans hb
  have e' : b = gr := e
  rcases hv.2 with ⟨h, _⟩ | ⟨g, cap, cur, he, _, hgg, _⟩
  · cases h
  · injection he with he1
    injection he1 with he1
    injection he1 with he1
    rw [e', he1, hgg] at hb
    injection hb with hb
    injection hb with _ hb _
    exact h2 hb.symm
theorem keep_map {w w' : World} {mb n : Nat} {f : Int → Int → Option Int} (h : SqAt w mb n f) (hg : w.drew.grownBy w' (some mb)) : Keep w w' := fun b cs t z hb _ _ => by
  refine (hg.block b (Array.getElem?_eq_some_iff.1 hb).1 (fun e => ?_)).trans hb
  injection e with e
  exact sq_ne_obj h hb e.symm
theorem own_below {w w' : World} {base : Nat} {v : Value} {n : Nat} {xs : List Value} {e : TypeId} {sz : Nat} (hv : w.ownsRow base e sz v n xs) (hb : Below w.heap.size w w') : w'.ownsRow base e sz v n xs := by
  refine ⟨hv.1, ?_⟩
  rcases hv.2 with h | ⟨g, cap, cur, rfl, h1, hg, h2⟩
  · exact .inl h
  · exact .inr ⟨g, cap, cur, rfl, h1, (hb.block g (Array.getElem?_eq_some_iff.1 hg).1).trans hg, h2⟩
theorem keep_app {Z X w6 : World} {base : Nat} {v : Value} {n : Nat} {xs : List Value} (hv : Z.ownsRow base 50 6 v n xs) (hb : Below Z.heap.size Z X) (hg : X.grownBy w6 v.ownBlock) : Keep Z w6 := keep_trans (keep_below hb) (keep_own hg (own_below hv hb))
theorem step_append_row {P : Program} {w : World} {ops : Array Oper} {o : Oper} {a : Act} {K : Act → World → Prop} {Q : Exit → Act → World → Prop} {E : Prop} (hgd : o.guard = none) (s x : Operand) (t : TypeId)
    (ho : o.op = .call { callee := .builtin .append, args := #[s, x], argTypes := #[t, t] })
    (base : Nat) (e : TypeId) (i : TypeInfo) (z : Value) (size bytes : Nat) (ht : P.underlying t = some (.slice e)) (hi : P.info? e = some i) (hz : i.zero = some z)
    (hsize : i.size = size) (hby : i.bytes = bytes) (hzs : z.cells.size = size) (hsz : 0 < size)
    (v : Value) (n : Nat) (xs : List Value) (hs : a.eval s = v) (hown : w.ownsRow base e size v n xs)
    (B5 : Nat) (v5 : Value) (m : Nat) (news : List Value) (hx : a.eval x = v5) (h5 : w.ownsRow B5 e size v5 m news) (h1 : ∀ u ∈ news, u.oneCell' = true)
    (h63 : n + m ≤ maxLen) (hbytes : (n + m) * bytes ≤ 140737488355328) (hbase : base ≤ w.heap.size)
    (h : ∀ v' w', w'.ownsRow base e size v' (n + m) (xs ++ news) → w.grownBy w' v.ownBlock → K (a.put o.dst v') w') :
    if Region.wanted o (yielded ops a.tmps) = true then Oper.wp P o a w K Q else E := by
  have hw : Region.wanted o (yielded ops a.tmps) = true := by simp [Region.wanted, hgd]
  rw [if_pos hw]
  have hlen := h5.1
  rcases h5.2 with ⟨hv, h0⟩ | ⟨g, cap, cur, hv, _⟩
  · subst hv h0
    have hnil : news = [] := List.eq_nil_of_length_eq_zero (by omega)
    subst hnil
    have hrun := run_append_owned_none (P := P) (w := w) base t o.type e i size ht hi v n xs hown
    unfold Oper.wp
    simp [execOp, ho, resolve, invoke, builtin, hs, hx, hrun, Result.andThen]
    exact h v w (by rw [Nat.add_zero, List.append_nil]; exact hown) ⟨rfl, rfl, rfl, Nat.le_refl _, fun _ _ _ => rfl⟩
  · subst hv
    have hcells := h5.cellAt
    refine wp_append_own w s x t ho base e i z size bytes ht hi hz hsize hby hzs hsz v n xs hs hown ⟨g, 0, none⟩ m cap news hx hlen (fun j u hj => ?_) h1 h63 hbytes hbase (fun v' w' a1 a2 _ => h v' w' a1 a2)
    have hlt : j < news.length := (List.getElem?_eq_some_iff.1 hj).1
    rw [show ((⟨g, 0, none⟩ : Addr).add j) = ⟨g, j, none⟩ by simp [Addr.add, eq_comm], hcells j (by omega)]
    exact hj
/-- The map of squares, at any numbers. -/
def fI (f : Nat → Nat → Option Nat) (r c : Int) : Option Int := if 0 ≤ r ∧ 0 ≤ c then (f r.toNat c.toNat).map Int.ofNat else none
theorem fI_nat (f : Nat → Nat → Option Nat) (r c : Nat) : fI f r c = (f r c).map Int.ofNat := by unfold fI; rw [if_pos (by omega)]; rfl
theorem fI_neg (f : Nat → Nat → Option Nat) (c : Int) : fI f (-1) c = none := by unfold fI; rw [if_neg (by omega)]
theorem fI_put (f : Nat → Nat → Option Nat) (R c v : Nat) (r' c' : Int) : (if r' = (R : Int) ∧ c' = (c : Int) then some (v : Int) else fI f r' c') = fI (fun r x => if r = R ∧ x = c then some v else f r x) r' c' := by
  unfold fI
  by_cases h : 0 ≤ r' ∧ 0 ≤ c'
  · rw [if_pos h, if_pos h]
    by_cases e : r' = (R : Int) ∧ c' = (c : Int)
    · rw [if_pos e]; show _ = Option.map Int.ofNat (if r'.toNat = R ∧ c'.toNat = c then some v else f r'.toNat c'.toNat); rw [if_pos (by omega)]; rfl
    · rw [if_neg e]; show _ = Option.map Int.ofNat (if r'.toNat = R ∧ c'.toNat = c then some v else f r'.toNat c'.toNat); rw [if_neg (by omega)]
  · rw [if_neg h, if_neg h, if_neg (by omega)]
/-- What lay has laid so far. -/
def LyAt (w : World) (base tb : Nat) (rows : Value) (rs : List Gd.Rc) (f : Nat → Nat → Option Nat) (cnt : Nat) : Prop :=
  ∃ rv mb n, ObjAt w tb #[rows, rv, .map (some mb)] 83 ∧ w.ownsRow base 50 6 rv rs.length (rcC rs) ∧ SqAt w mb n (fI f) ∧ n ≤ cnt ∧ base ≤ tb ∧ base ≤ mb
theorem sq_drew {w : World} {b n : Nat} {f : Int → Int → Option Int} (h : SqAt w b n f) : SqAt w.drew b n f := h

attribute [local irreducible] wpStill in
attribute [local irreducible] wpQuiet in
set_option maxRecDepth 100000 in
set_option maxHeartbeats 8000000 in
theorem add_any (T : List (List Cl)) (hT : GoodT T) (A : Option Addr) (N c : Nat) (hN : T.length = N) (hc : N ≤ c ∧ c ≤ maxLen) (w0 : World) (hA : TbAt w0 A T) (R k f t : Nat) (m : Int) (ha : Gd.At (plT T) R k f t m) (hft : f < t) (tb : Nat) (rs : List Gd.Rc) (at' : Nat → Nat → Option Nat) (cnt : Nat) (hcnt : cnt ≤ 1000) (hrs : rs.length ≤ cnt)
    (hI : Gd.Inv (plT T) R k rs at') (w : World) (hb : Below w0.heap.size w0 w) (hL : LyAt w w0.heap.size tb (.slice A N c) rs at' cnt) :
    Calls Try.prog 65 #[.pointer (some ⟨tb, 0, none⟩), .int .i64 (R : Nat), .int .i64 (k : Nat), spanV f t] w fun e w' => e = .returned (.tuple #[]) ∧ (∃ rs' f', LyAt w' w0.heap.size tb (.slice A N c) rs' f' (cnt + 1) ∧ Gd.Inv (plT T) R (k + 1) rs' f' ∧ rs'.length ≤ cnt + 1) ∧ Below w0.heap.size w0 w' ∧ Keep w w' := by
  obtain ⟨rv, mb, n, hO, hR, hM, hn, htb, hmb⟩ := hL
  obtain ⟨ln, hln⟩ : ∃ ln, rs.length = ln := ⟨_, rfl⟩
  rw [hln] at hR hrs
  have LN := Go.Lib.hid hln
  clear hln
  obtain ⟨rc, rcap, hrv⟩ : ∃ B d, rv = .slice B ln d := by
    obtain ⟨_, h | ⟨g, cap, cur, rfl, _⟩⟩ := hR
    · exact ⟨none, 0, by rw [h.1, h.2]⟩
    · exact ⟨_, _, rfl⟩
  subst hrv
  have hRT := At_lt ha
  have hR10 : R < 10 := by have := hT.1; omega
  have hk40 : k < 40 := by have := At_len ha hRT; have := (hT.2 _ (List.getElem_mem hRT)).1; omega
  have hok := ha.ok (plT_ok T)
  unfold spanV
  have o1 := ObjAt.new w #[.int .i64 f, .int .i64 t] 43
  have hB : Below w.heap.size w (w.alloc (.cells #[.int .i64 f, .int .i64 t] 43)) := (Below.refl _ w).alloc (Nat.le_refl _) _
  have HKW := Go.Lib.hid (keep_below hB)
  have hO1 := hO.below hB
  have hM1 := sq_below hM hB
  have hR1 := hR.alloc (.cells #[.int .i64 f, .int .i64 t] 43)
  have hb1 := hb.trans (hB.mono hb.size)
  have x0 := hO1.b0
  have x1 := hO1.b1
  have x2 := hO1.b2
  have y0 := o1.a0
  have y1 := o1.a1
  have ir : I64 ((R : Int) - 1) := by unfold I64; omega
  have iff : I64 (f : Int) := by unfold I64; omega
  have hlk := sq_look (sq_drew hM1) ir iff
  unfold sq at hlk
  have qr : IntKind.i64.wrap ((R : Int) - 1) = (R : Int) - 1 := IntWalk.i64_in _ (by omega)
  have HB1 := Go.Lib.hid hb1
  have HO1 := Go.Lib.hid hO1
  have HM1 := Go.Lib.hid hM1
  have HR1 := Go.Lib.hid hR1
  have O1 := Go.Lib.hid o1
  have HI := Go.Lib.hid hI
  have HA := Go.Lib.hid hA
  have HT := Go.Lib.hid hT
  have HAt := Go.Lib.hid ha
  have HN := Go.Lib.hid hN
  have HC := Go.Lib.hid hc
  have HSW := Go.Lib.hid hb.size
  have tlt := hO.lt
  clear hb1 hO hO1 hM hM1 hR hR1 o1 hI hA hT ha hN hc hB hb
  generalize hW : w.alloc (.cells #[.int .i64 f, .int .i64 t] 43) = W at *
  have HW := Go.Lib.hid hW
  generalize hv : fI at' ((R : Int) - 1) (f : Int) = v at *
  have HV := Go.Lib.hid hv
  clear hv
  go_enter Try.func65, Try.ntmps65
  go_wp2_with fail
  clear hW
  go_region
  obtain ⟨i0, hi, hz0, hz1, hz2⟩ := info_parts info50
  cases v with
  | none =>
    have HNK := Go.Lib.hid (show ¬ Gd.Kc (plT T) R f t from fun hK => by
      obtain ⟨R', j, q, m', rfl, hj, _⟩ := (HI.out.test (plT_ok T) HAt.out hft).1 hK
      have h1 := HV.out
      rw [show ((R' + 1 : Nat) : Int) - 1 = (R' : Nat) by omega, fI_nat, hj] at h1
      cases h1)
    have HKZ := HKW
    have OV := Go.Lib.hid HO1.out
    have RV := Go.Lib.hid HR1.out
    have MV := Go.Lib.hid HM1.out
    have BXV := Go.Lib.hid O1.out
    have B0V := Go.Lib.hid HB1.out
    clear hlk
    go_wp2_with fail
    refine wp_region_still_tail 27 (by kernel_rfl) (by kernel_rfl) ?_
    simp only [List.take_succ_cons, List.take_zero, List.drop_succ_cons, List.drop_zero]
    change wpStill _ _ (World.drew _) _ _ _
    repeat still_step
    refine wpStill_nil ?_
    change wpList _ _ _ _ _ (World.drew _)
    go_wp2_with fail
    have qa1 : IntKind.i64.wrap ((R : Int) + 1) = (R : Int) + 1 := IntWalk.i64_in _ (by omega)
    have hnew := HI.out.new (plT_ok T) HAt.out hft HNK.out
    rw [LN.out] at hnew
    have HINV := Go.Lib.hid hnew
    clear hnew
    have xx1 := OV.out.b1
    have xx2 := OV.out.b2
    have yy0 := BXV.out.a0
    have yy1 := BXV.out.a1
    have hlen : ln ≤ 1000 := Nat.le_trans hrs hcnt
    have hlz : (0 : Int) ≤ (ln : Int) := by omega
    go_wp2_with fail
    have bxl := BXV.out.lt
    have tbl := OV.out.lt
    have ff1 := OV.out.frozen 1
    go_region_law (first
        | (refine step_append_row (by rfl) _ _ 45 (by rfl) w0.heap.size 50 i0 _ 6 48 Try.underlying45 hi hz0 hz1 hz2 rfl (by decide) _ ln (rcC rs) (by rfl) (own_below RV.out (by first | exact (Below.refl _ _) | exact (Below.refl _ _).drew | exact (Below.refl _ _).drew.drew | exact (Below.refl _ _).drew.drew.drew | exact ((Below.refl _ _).alloc (Nat.le_refl _) _) | exact ((Below.refl _ _).alloc (Nat.le_refl _) _).drew | exact ((Below.refl _ _).alloc (Nat.le_refl _) _).drew.drew | exact ((Below.refl _ _).alloc (Nat.le_refl _) _).drew.drew.drew | exact ((Below.refl _ _).alloc (Nat.le_refl _) _).drew.drew.drew.drew)) w0.heap.size _ 1 (rcV ⟨R, k, f, R + 1, t⟩) (by rfl) (by first | exact World.ownsRow_lit _ _ _ (by have := HSW.out; simp; omega) (by unfold maxLen; omega) rfl | exact (World.ownsRow_lit _ _ _ (by have := HSW.out; simp; omega) (by unfold maxLen; omega) rfl).drew | exact ((World.ownsRow_lit _ _ _ (by have := HSW.out; simp; omega) (by unfold maxLen; omega) rfl).drew).drew | exact (((World.ownsRow_lit _ _ _ (by have := HSW.out; simp; omega) (by unfold maxLen; omega) rfl).drew).drew).drew | exact ((((World.ownsRow_lit _ _ _ (by have := HSW.out; simp; omega) (by unfold maxLen; omega) rfl).drew).drew).drew).drew) (by intro u hu; simp [rcV] at hu; rcases hu with rfl | rfl | rfl | rfl | rfl | rfl <;> rfl) (by unfold maxLen; omega) (by omega) (by have := B0V.out.size; simp; omega) ?_; intro v6 w6 hown6 hgrow6; obtain ⟨g6, c6, rfl⟩ := own_form hown6; have OW6 := (OV.out.below (by first | exact (Below.refl _ _) | exact (Below.refl _ _).drew | exact (Below.refl _ _).drew.drew | exact (Below.refl _ _).drew.drew.drew | exact ((Below.refl _ _).alloc (Nat.le_refl _) _) | exact ((Below.refl _ _).alloc (Nat.le_refl _) _).drew | exact ((Below.refl _ _).alloc (Nat.le_refl _) _).drew.drew | exact ((Below.refl _ _).alloc (Nat.le_refl _) _).drew.drew.drew | exact ((Below.refl _ _).alloc (Nat.le_refl _) _).drew.drew.drew.drew)).kept hgrow6 (own_ne (OV.out.below (by first | exact (Below.refl _ _) | exact (Below.refl _ _).drew | exact (Below.refl _ _).drew.drew | exact (Below.refl _ _).drew.drew.drew | exact ((Below.refl _ _).alloc (Nat.le_refl _) _) | exact ((Below.refl _ _).alloc (Nat.le_refl _) _).drew | exact ((Below.refl _ _).alloc (Nat.le_refl _) _).drew.drew | exact ((Below.refl _ _).alloc (Nat.le_refl _) _).drew.drew.drew | exact ((Below.refl _ _).alloc (Nat.le_refl _) _).drew.drew.drew.drew)) (own_below RV.out (by first | exact (Below.refl _ _) | exact (Below.refl _ _).drew | exact (Below.refl _ _).drew.drew | exact (Below.refl _ _).drew.drew.drew | exact ((Below.refl _ _).alloc (Nat.le_refl _) _) | exact ((Below.refl _ _).alloc (Nat.le_refl _) _).drew | exact ((Below.refl _ _).alloc (Nat.le_refl _) _).drew.drew | exact ((Below.refl _ _).alloc (Nat.le_refl _) _).drew.drew.drew | exact ((Below.refl _ _).alloc (Nat.le_refl _) _).drew.drew.drew.drew)) (by decide)); have zz1 := OW6.b1; have gg1 := OW6.frozen 1; have BW6 := (BXV.out.below (by first | exact (Below.refl _ _) | exact (Below.refl _ _).drew | exact (Below.refl _ _).drew.drew | exact (Below.refl _ _).drew.drew.drew | exact ((Below.refl _ _).alloc (Nat.le_refl _) _) | exact ((Below.refl _ _).alloc (Nat.le_refl _) _).drew | exact ((Below.refl _ _).alloc (Nat.le_refl _) _).drew.drew | exact ((Below.refl _ _).alloc (Nat.le_refl _) _).drew.drew.drew | exact ((Below.refl _ _).alloc (Nat.le_refl _) _).drew.drew.drew.drew)).kept hgrow6 (own_ne (BXV.out.below (by first | exact (Below.refl _ _) | exact (Below.refl _ _).drew | exact (Below.refl _ _).drew.drew | exact (Below.refl _ _).drew.drew.drew | exact ((Below.refl _ _).alloc (Nat.le_refl _) _) | exact ((Below.refl _ _).alloc (Nat.le_refl _) _).drew | exact ((Below.refl _ _).alloc (Nat.le_refl _) _).drew.drew | exact ((Below.refl _ _).alloc (Nat.le_refl _) _).drew.drew.drew | exact ((Below.refl _ _).alloc (Nat.le_refl _) _).drew.drew.drew.drew)) (own_below RV.out (by first | exact (Below.refl _ _) | exact (Below.refl _ _).drew | exact (Below.refl _ _).drew.drew | exact (Below.refl _ _).drew.drew.drew | exact ((Below.refl _ _).alloc (Nat.le_refl _) _) | exact ((Below.refl _ _).alloc (Nat.le_refl _) _).drew | exact ((Below.refl _ _).alloc (Nat.le_refl _) _).drew.drew | exact ((Below.refl _ _).alloc (Nat.le_refl _) _).drew.drew.drew | exact ((Below.refl _ _).alloc (Nat.le_refl _) _).drew.drew.drew.drew)) (by decide)); have MW6 := sq_kept (sq_below MV.out (by first | exact (Below.refl _ _) | exact (Below.refl _ _).drew | exact (Below.refl _ _).drew.drew | exact (Below.refl _ _).drew.drew.drew | exact ((Below.refl _ _).alloc (Nat.le_refl _) _) | exact ((Below.refl _ _).alloc (Nat.le_refl _) _).drew | exact ((Below.refl _ _).alloc (Nat.le_refl _) _).drew.drew | exact ((Below.refl _ _).alloc (Nat.le_refl _) _).drew.drew.drew | exact ((Below.refl _ _).alloc (Nat.le_refl _) _).drew.drew.drew.drew)) hgrow6 (own_ne_map (sq_below MV.out (by first | exact (Below.refl _ _) | exact (Below.refl _ _).drew | exact (Below.refl _ _).drew.drew | exact (Below.refl _ _).drew.drew.drew | exact ((Below.refl _ _).alloc (Nat.le_refl _) _) | exact ((Below.refl _ _).alloc (Nat.le_refl _) _).drew | exact ((Below.refl _ _).alloc (Nat.le_refl _) _).drew.drew | exact ((Below.refl _ _).alloc (Nat.le_refl _) _).drew.drew.drew | exact ((Below.refl _ _).alloc (Nat.le_refl _) _).drew.drew.drew.drew)) (own_below RV.out (by first | exact (Below.refl _ _) | exact (Below.refl _ _).drew | exact (Below.refl _ _).drew.drew | exact (Below.refl _ _).drew.drew.drew | exact ((Below.refl _ _).alloc (Nat.le_refl _) _) | exact ((Below.refl _ _).alloc (Nat.le_refl _) _).drew | exact ((Below.refl _ _).alloc (Nat.le_refl _) _).drew.drew | exact ((Below.refl _ _).alloc (Nat.le_refl _) _).drew.drew.drew | exact ((Below.refl _ _).alloc (Nat.le_refl _) _).drew.drew.drew.drew))); have KP6 := Go.Lib.hid (keep_app RV.out (by first | exact (Below.refl _ _) | exact (Below.refl _ _).drew | exact (Below.refl _ _).drew.drew | exact (Below.refl _ _).drew.drew.drew | exact ((Below.refl _ _).alloc (Nat.le_refl _) _) | exact ((Below.refl _ _).alloc (Nat.le_refl _) _).drew | exact ((Below.refl _ _).alloc (Nat.le_refl _) _).drew.drew | exact ((Below.refl _ _).alloc (Nat.le_refl _) _).drew.drew.drew | exact ((Below.refl _ _).alloc (Nat.le_refl _) _).drew.drew.drew.drew) hgrow6); have KW6 := Go.Lib.hid (Below.grown (B0V.out.trans (Below.mono (by first | exact (Below.refl _ _) | exact (Below.refl _ _).drew | exact (Below.refl _ _).drew.drew | exact (Below.refl _ _).drew.drew.drew | exact ((Below.refl _ _).alloc (Nat.le_refl _) _) | exact ((Below.refl _ _).alloc (Nat.le_refl _) _).drew | exact ((Below.refl _ _).alloc (Nat.le_refl _) _).drew.drew | exact ((Below.refl _ _).alloc (Nat.le_refl _) _).drew.drew.drew | exact ((Below.refl _ _).alloc (Nat.le_refl _) _).drew.drew.drew.drew) B0V.out.size)) hgrow6 (Nat.le_trans B0V.out.size (Below.size (by first | exact (Below.refl _ _) | exact (Below.refl _ _).drew | exact (Below.refl _ _).drew.drew | exact (Below.refl _ _).drew.drew.drew | exact ((Below.refl _ _).alloc (Nat.le_refl _) _) | exact ((Below.refl _ _).alloc (Nat.le_refl _) _).drew | exact ((Below.refl _ _).alloc (Nat.le_refl _) _).drew.drew | exact ((Below.refl _ _).alloc (Nat.le_refl _) _).drew.drew.drew | exact ((Below.refl _ _).alloc (Nat.le_refl _) _).drew.drew.drew.drew))) (fun j e => (World.ownsRow.lt RV.out j e).1)))
        | fail)
    all_goals
      have OY : ObjAt (w6.setCell ⟨tb, 1, none⟩ (.slice (some ⟨g6, 0, none⟩) (ln + 1) c6)) tb #[.slice A N c, .slice (some ⟨g6, 0, none⟩) (ln + 1) c6, .map (some mb)] 83 := OW6.set 1 _
      have RY := own_set hown6 (a := ⟨tb, 1, none⟩) (own_ne OW6 hown6 (by decide)) (.slice (some ⟨g6, 0, none⟩) (ln + 1) c6)
      have MY := sq_setCell MW6 (a := ⟨tb, 1, none⟩) (sq_ne_obj MW6 OW6) (.slice (some ⟨g6, 0, none⟩) (ln + 1) c6)
      have BY := BW6.other (C := tb) (by have := tlt; omega) 1 (.slice (some ⟨g6, 0, none⟩) (ln + 1) c6)
      have KY := KW6.out.setCell (p := ⟨tb, 1, none⟩) htb (.slice (some ⟨g6, 0, none⟩) (ln + 1) c6)
      have KPY := Go.Lib.hid (keep_trans KP6.out (keep_set OW6 1 (.slice (some ⟨g6, 0, none⟩) (ln + 1) c6)))
      clear OW6 BW6 MW6 KW6 KP6 hown6 hgrow6 zz1 gg1
      generalize w6.setCell ⟨tb, 1, none⟩ (.slice (some ⟨g6, 0, none⟩) (ln + 1) c6) = Y at *
      obtain ⟨w8, hmu, MW8, hg8⟩ := sq_put (sq_drew MY) (by unfold maxLen; omega) (show I64 (R : Int) by unfold I64; omega) iff (show I64 (ln : Int) by unfold I64; omega)
      unfold sq at hmu
      have e1 := OY.b2
      have e2 := BY.a0
      have hYd : Y.drew.heap.size = Y.heap.size := rfl
      have OW8 := Go.Lib.hid (ObjAt.kept (ObjAt.drew OY) hg8 (by intro h; cases h; exact sq_ne_obj MY OY rfl))
      have RW8 := Go.Lib.hid (World.ownsRow.kept (World.ownsRow.drew RY) hg8 (Or.inr (Ne.symm (own_ne_map MY RY))))
      have MW9 := Go.Lib.hid (sq_congr MW8 (fI_put at' R f ln))
      have KW8 := Go.Lib.hid (KY.drew.grown hg8 KY.drew.size (fun j e => by cases e; exact hmb))
      have KP8 := Go.Lib.hid (keep_trans HKZ.out (keep_trans KPY.out (keep_map MY hg8)))
      clear MW8 hg8 MY RY KY KPY
      go_wp2_with fail
      go_region
      all_goals
        go_wp2
        go_end0
        exact ⟨rfl, ⟨rs ++ [⟨R, k, f, R + 1, t⟩], _, ⟨_, mb, n + 1, OW8.out, (by rw [rcC_snoc, List.length_append, LN.out]; exact RW8.out), MW9.out, by omega, htb, hmb⟩, HINV.out, by have := LN.out; simp; omega⟩, KW8.out, KP8.out⟩
  | some v =>
    have hRR : ∃ R' j, R = R' + 1 ∧ at' R' f = some j ∧ v = (j : Nat) := by
      have h1 := HV.out
      rcases Nat.eq_zero_or_pos R with h0 | h0
      · rw [h0, show ((0 : Nat) : Int) - 1 = -1 by omega, fI_neg] at h1; cases h1
      · obtain ⟨R', hR'⟩ : ∃ R', R = R' + 1 := ⟨R - 1, by omega⟩
        rw [hR', show ((R' + 1 : Nat) : Int) - 1 = (R' : Nat) by omega, fI_nat] at h1
        cases hj : at' R' f with
        | none => rw [hj] at h1; cases h1
        | some j => rw [hj] at h1; exact ⟨R', j, hR', hj, by injection h1 with h1; exact h1.symm⟩
    obtain ⟨R', j, hRe, hjat, hvj⟩ := hRR
    subst hvj
    have HRE := Go.Lib.hid hRe
    clear hRe
    simp only [Option.getD_some, Option.isSome_some]
    have hAW := HA.out.below HB1.out
    have hAW0 := Go.Lib.hid hAW
    obtain ⟨g, o, hAe, hg, hrows⟩ := hAW.row hRT
    subst hAe
    obtain ⟨a1, a2, B, n2, cB, D, dn, dc, Y', yn, yc, Ac, rkc, r0, r1, r2, r3, r4, r5, g1, g2, hcs⟩ := hrows R hRT
    have hkr := At_len HAt.out hRT
    rcases hcs with h0 | ⟨ga, oa, rfl, hga, hcl⟩
    · rw [h0] at hkr; exact absurd hkr (Nat.not_lt_zero _)
    obtain ⟨b0, b2, b3, Bp, cp, Dd, ddn, ddc, Yy, yyn, yyc, F, fc, c0, c1, c2, c3, c4, c5, c6, hp1, hp2, hP⟩ := hcl k hkr
    have hgd := (HT.out.2 _ (List.getElem_mem hRT)).2 _ (List.getElem_mem hkr)
    have hval : (val T[R][k]).2 = m := by
      obtain ⟨L, h1, h2⟩ := HAt.out
      rw [plT_get hRT] at h1; cases h1
      exact plR_val hkr h2
    have cM := Go.Lib.hid (fun w' (hb : Below W.heap.size W w') => merge_any T[R][k] hgd (.int .i64 b0) (.int .i64 b2) (.int .i64 b3) (.slice Dd ddn ddc) (.slice Yy yyn yyc) (.slice F T[R][k].flow fc) Bp _ cp rfl ⟨hp1, hp2⟩ w' (hP.below hb (Nat.le_refl _)))
    rw [hval] at cM
    have q0 : (0 : Int) ≤ (R : Int) := by omega
    have q1 : (R : Int) < (N : Int) := by have := HN.out; omega
    have q2 : (0 : Int) ≤ (k : Int) := by omega
    have q3 : (k : Int) < (T[R].length : Int) := by omega
    have tl : tb < W.heap.size := HO1.out.lt
    have bl : w.heap.size < W.heap.size := O1.out.lt
    clear hcl hrows hP hAW hval hgd r0 r1 r2 r3 r4 g1 hlk
    generalize T[R][k].props.length = lp at *
    generalize T[R][k].flow = fl at *
    clear hkr
    generalize T[R].length = rl at *
    by_cases hm2 : m = 2
    · have htest := HI.out.test (plT_ok T) HAt.out hft
      obtain ⟨q, hqj, hql, hqr, _⟩ := HI.out.some_ R' f j hjat
      obtain ⟨⟨m', hat'⟩, hqlt, _, _⟩ := HI.out.cell q (List.mem_of_getElem? hqj)
      obtain ⟨hjl, hqe⟩ := List.getElem?_eq_some_iff.1 hqj
      have hjln : j < ln := by rw [← LN.out]; exact hjl
      obtain ⟨gr, hgrc⟩ : ∃ gr, rc = some ⟨gr, 0, none⟩ := by
        obtain ⟨_, h | ⟨g, cap, cur, he, _⟩⟩ := id HR1.out
        · have := h.2; omega
        · injection he with he1; exact ⟨_, he1⟩
      subst hgrc
      have hgr : gr < W.heap.size := (World.ownsRow.lt HR1.out gr rfl).2
      have dd := fun d (hd : d < 6) => (HR1.out.cellAt (j * 6 + d) (by omega)).trans (rcC_get rs j hjl d hd)
      rw [hqe] at dd
      have d0 : _ = some (Value.int .i64 (q.row : Nat)) := dd 0 (by omega)
      have d1 : _ = some (Value.int .i64 (q.cell : Nat)) := dd 1 (by omega)
      have d2 : _ = some (Value.int .i64 (q.row : Nat)) := dd 2 (by omega)
      have d3 : _ = some (Value.int .i64 (q.left : Nat)) := dd 3 (by omega)
      have d4 : _ = some (Value.int .i64 (q.bot : Nat)) := dd 4 (by omega)
      have d5 : _ = some (Value.int .i64 (q.right : Nat)) := dd 5 (by omega)
      rw [Nat.add_zero] at d0
      clear dd hqe
      have j0z : (0 : Int) ≤ (j : Int) := by omega
      have j1z : (j : Int) < (ln : Int) := by omega
      have bm : (m == 2) = true := beq_iff_eq.2 hm2
      have cG := Go.Lib.hid (fun w' (hb : Below W.heap.size W w') => goes_any T HT.out (some ⟨g, o, none⟩) N c HN.out HC.out q.row q.cell q.left q.right f t (q.bot : Nat) m' hat' tb (.slice (some ⟨gr, 0, none⟩) ln rcap) (.map (some mb)) w' (HO1.out.below hb) (hAW0.out.below hb))
      unfold rectV spanV at cG
      have HQJ := Go.Lib.hid hqj
      by_cases hd : f = q.left ∧ t = q.right ∧ (m' = 1 ∨ m' = 2)
      · have hK : Gd.Kc (plT T) R f t := htest.2 ⟨R', j, q, m', HRE.out, hjat, hm2, hqj, hql, hd.2.1.symm, hat', hd.2.2⟩
        have HINV := Go.Lib.hid (HI.out.more' (plT_ok T) HAt.out hft hK HRE.out hjat hqj)
        rw [decide_eq_true hd] at cG
        clear hd htest hK hql hqr hqj hjat
        have x0F : ∀ p : Bw W, p.w.cell? ⟨tb, 0, none⟩ = some (.slice (some ⟨g, o, none⟩) N c) := fun p => (p.h.cell (p := ⟨tb, 0, none⟩) tl).trans x0
        have r5F : ∀ p : Bw W, p.w.cell? ⟨g, o + R * 6 + 5, none⟩ = some (.slice (some ⟨ga, oa, none⟩) rl rkc) := fun p => (p.h.cell (p := ⟨g, o + R * 6 + 5, none⟩) hg).trans r5
        have c0F : ∀ p : Bw W, p.w.cell? ⟨ga, oa + k * 7, none⟩ = some (.int .i64 b0) := fun p => (p.h.cell (p := ⟨ga, oa + k * 7, none⟩) hga).trans c0
        have c1F : ∀ p : Bw W, p.w.cell? ⟨ga, oa + k * 7 + 1, none⟩ = some (.slice Bp lp cp) := fun p => (p.h.cell (p := ⟨ga, oa + k * 7 + 1, none⟩) hga).trans c1
        have c2F : ∀ p : Bw W, p.w.cell? ⟨ga, oa + k * 7 + 2, none⟩ = some (.int .i64 b2) := fun p => (p.h.cell (p := ⟨ga, oa + k * 7 + 2, none⟩) hga).trans c2
        have c3F : ∀ p : Bw W, p.w.cell? ⟨ga, oa + k * 7 + 3, none⟩ = some (.int .i64 b3) := fun p => (p.h.cell (p := ⟨ga, oa + k * 7 + 3, none⟩) hga).trans c3
        have c4F : ∀ p : Bw W, p.w.cell? ⟨ga, oa + k * 7 + 4, none⟩ = some (.slice Dd ddn ddc) := fun p => (p.h.cell (p := ⟨ga, oa + k * 7 + 4, none⟩) hga).trans c4
        have c5F : ∀ p : Bw W, p.w.cell? ⟨ga, oa + k * 7 + 5, none⟩ = some (.slice Yy yyn yyc) := fun p => (p.h.cell (p := ⟨ga, oa + k * 7 + 5, none⟩) hga).trans c5
        have c6F : ∀ p : Bw W, p.w.cell? ⟨ga, oa + k * 7 + 6, none⟩ = some (.slice F fl fc) := fun p => (p.h.cell (p := ⟨ga, oa + k * 7 + 6, none⟩) hga).trans c6
        have x1F : ∀ p : Bw W, p.w.cell? ⟨tb, 1, none⟩ = some (.slice (some ⟨gr, 0, none⟩) ln rcap) := fun p => (p.h.cell (p := ⟨tb, 1, none⟩) tl).trans x1
        have d0F : ∀ p : Bw W, p.w.cell? ⟨gr, j * 6, none⟩ = some (.int .i64 (q.row : Nat)) := fun p => (p.h.cell (p := ⟨gr, j * 6, none⟩) hgr).trans d0
        have d1F : ∀ p : Bw W, p.w.cell? ⟨gr, j * 6 + 1, none⟩ = some (.int .i64 (q.cell : Nat)) := fun p => (p.h.cell (p := ⟨gr, j * 6 + 1, none⟩) hgr).trans d1
        have d2F : ∀ p : Bw W, p.w.cell? ⟨gr, j * 6 + 2, none⟩ = some (.int .i64 (q.row : Nat)) := fun p => (p.h.cell (p := ⟨gr, j * 6 + 2, none⟩) hgr).trans d2
        have d3F : ∀ p : Bw W, p.w.cell? ⟨gr, j * 6 + 3, none⟩ = some (.int .i64 (q.left : Nat)) := fun p => (p.h.cell (p := ⟨gr, j * 6 + 3, none⟩) hgr).trans d3
        have d4F : ∀ p : Bw W, p.w.cell? ⟨gr, j * 6 + 4, none⟩ = some (.int .i64 (q.bot : Nat)) := fun p => (p.h.cell (p := ⟨gr, j * 6 + 4, none⟩) hgr).trans d4
        have d5F : ∀ p : Bw W, p.w.cell? ⟨gr, j * 6 + 5, none⟩ = some (.int .i64 (q.right : Nat)) := fun p => (p.h.cell (p := ⟨gr, j * 6 + 5, none⟩) hgr).trans d5
        have y0F : ∀ p : Bw W, p.w.cell? ⟨w.heap.size, 0, none⟩ = some (.int .i64 f) := fun p => (p.h.cell (p := ⟨w.heap.size, 0, none⟩) bl).trans y0
        have y1F : ∀ p : Bw W, p.w.cell? ⟨w.heap.size, 1, none⟩ = some (.int .i64 t) := fun p => (p.h.cell (p := ⟨w.heap.size, 1, none⟩) bl).trans y1
        clear x0 r5 c0 c1 c2 c3 c4 c5 c6 x1 d0 d1 d2 d3 d4 d5 y0 y1
        go_wp2_with fail
        refine wp_region_bw (W := W) (by kernel_rfl) (by kernel_rfl) (by first | exact Below.refl _ _ | exact (Below.refl _ _).drew | exact (Below.refl _ _).drew.drew) ?_
        repeat (quiet_step (first
          | (go_at_call 79; exact bw_of (fun p => cM.out p.w p.h) _)
          | (go_at_call 83; exact bw_of (fun p => cG.out p.w p.h) _)
          | fail))
        refine wpQuiet_nil ?_
        intro w2 hw'
        have kk : Below W.heap.size W w2 := by obtain ⟨p2, rfl⟩ := hw'; exact p2.h
        clear hw'
        all_goals
          have KZ := Go.Lib.hid (show Below W.heap.size W w2 from kk)
          have HKZ := Go.Lib.hid (keep_trans HKW.out (keep_below KZ.out))
          have OV := Go.Lib.hid (HO1.out.below KZ.out)
          have RV := Go.Lib.hid (own_below HR1.out KZ.out)
          have MV := Go.Lib.hid (sq_below HM1.out KZ.out)
          have BXV := Go.Lib.hid (O1.out.below KZ.out)
          have B0V := Go.Lib.hid (HB1.out.trans (KZ.out.mono HB1.out.size))
          have qa1 : IntKind.i64.wrap ((R : Int) + 1) = (R : Int) + 1 := IntWalk.i64_in _ (by omega)
          have xx1 := OV.out.b1
          have xx2 := OV.out.b2
          have cc4 : w2.cell? ⟨gr, j * 6 + 4, none⟩ = some (.int .i64 (q.bot : Nat)) := d4F ⟨w2, KZ.out⟩
          have ff4 := RV.out.frozenAt (j * 6 + 4)
          have hne : tb ≠ gr := fun e => own_ne OV.out RV.out (by decide) (by rw [e]; rfl)
          have hgrs : w0.heap.size ≤ gr := (World.ownsRow.lt RV.out gr rfl).1
          have OY := OV.out.other (C := gr) hne (j * 6 + 4) (.int .i64 ((R : Int) + 1))
          have RY := (RV.out.stored (j * 6 + 4) (.int .i64 ((R : Int) + 1))).1
          have MY := sq_setCell MV.out (a := ⟨gr, j * 6 + 4, none⟩) (fun e => own_ne_map MV.out RV.out (by rw [e]; rfl)) (.int .i64 ((R : Int) + 1))
          have hne2 : w.heap.size ≠ gr := fun e => own_ne BXV.out RV.out (by decide) (by rw [e]; rfl)
          have BY := BXV.out.other (C := gr) hne2 (j * 6 + 4) (.int .i64 ((R : Int) + 1))
          have KY := B0V.out.setCell (p := ⟨gr, j * 6 + 4, none⟩) hgrs (.int .i64 ((R : Int) + 1))
          have hlen : ln ≤ 1000 := Nat.le_trans hrs hcnt
          have KPY := Go.Lib.hid (keep_setown RV.out (j * 6 + 4) (.int .i64 ((R : Int) + 1)))
          clear kk
          go_wp2_with fail
          generalize w2.setCell ⟨gr, j * 6 + 4, none⟩ (.int .i64 ((R : Int) + 1)) = Y at *
          obtain ⟨w8, hmu, MW8, hg8⟩ := sq_put (sq_drew MY) (by unfold maxLen; omega) (show I64 (R : Int) by unfold I64; omega) iff (show I64 (j : Int) by unfold I64; omega)
          unfold sq at hmu
          have e1 := OY.b2
          have e2 := BY.a0
          have hYd : Y.drew.heap.size = Y.heap.size := rfl
          have OW8 := Go.Lib.hid (ObjAt.kept (ObjAt.drew OY) hg8 (by intro h; cases h; exact sq_ne_obj MY OY rfl))
          have RW8 := Go.Lib.hid (World.ownsRow.kept (World.ownsRow.drew RY) hg8 (Or.inr (Ne.symm (own_ne_map MY RY))))
          have MW9 := Go.Lib.hid (sq_congr MW8 (fI_put at' R f j))
          have KW8 := Go.Lib.hid (KY.drew.grown hg8 KY.drew.size (fun j e => by cases e; exact hmb))
          have KP8 := Go.Lib.hid (keep_trans HKZ.out (keep_trans KPY.out (keep_map MY hg8)))
          clear MW8 hg8 MY RY KY KPY
          go_wp2_with fail
          go_region
          all_goals
            go_wp2
            go_end0
            exact ⟨rfl, ⟨rs.set j { q with bot := R + 1 }, _, ⟨_, mb, n + 1, OW8.out, (by rw [rcC_set rs j q (R + 1) HQJ.out, List.length_set, LN.out]; exact RW8.out), MW9.out, by omega, htb, hmb⟩, HINV.out, by have := LN.out; simp; omega⟩, KW8.out, KP8.out⟩
      · have HNK := Go.Lib.hid (show ¬ Gd.Kc (plT T) R f t from fun hK => by
          obtain ⟨R'', j2, q2, m2, e1, e2, _, e4, e5, e6, e7, e8⟩ := htest.1 hK
          have : R' = R'' := by have := HRE.out; omega
          subst this
          rw [hjat] at e2; cases e2
          rw [HQJ.out] at e4; cases e4
          exact hd ⟨e5.symm, e6.symm, by have := (Gd.At.fn hat' e7).2.2; rw [this]; exact e8⟩)
        rw [decide_eq_false hd] at cG
        clear hd htest hql hqr hqj hjat
        have x0F : ∀ p : Bw W, p.w.cell? ⟨tb, 0, none⟩ = some (.slice (some ⟨g, o, none⟩) N c) := fun p => (p.h.cell (p := ⟨tb, 0, none⟩) tl).trans x0
        have r5F : ∀ p : Bw W, p.w.cell? ⟨g, o + R * 6 + 5, none⟩ = some (.slice (some ⟨ga, oa, none⟩) rl rkc) := fun p => (p.h.cell (p := ⟨g, o + R * 6 + 5, none⟩) hg).trans r5
        have c0F : ∀ p : Bw W, p.w.cell? ⟨ga, oa + k * 7, none⟩ = some (.int .i64 b0) := fun p => (p.h.cell (p := ⟨ga, oa + k * 7, none⟩) hga).trans c0
        have c1F : ∀ p : Bw W, p.w.cell? ⟨ga, oa + k * 7 + 1, none⟩ = some (.slice Bp lp cp) := fun p => (p.h.cell (p := ⟨ga, oa + k * 7 + 1, none⟩) hga).trans c1
        have c2F : ∀ p : Bw W, p.w.cell? ⟨ga, oa + k * 7 + 2, none⟩ = some (.int .i64 b2) := fun p => (p.h.cell (p := ⟨ga, oa + k * 7 + 2, none⟩) hga).trans c2
        have c3F : ∀ p : Bw W, p.w.cell? ⟨ga, oa + k * 7 + 3, none⟩ = some (.int .i64 b3) := fun p => (p.h.cell (p := ⟨ga, oa + k * 7 + 3, none⟩) hga).trans c3
        have c4F : ∀ p : Bw W, p.w.cell? ⟨ga, oa + k * 7 + 4, none⟩ = some (.slice Dd ddn ddc) := fun p => (p.h.cell (p := ⟨ga, oa + k * 7 + 4, none⟩) hga).trans c4
        have c5F : ∀ p : Bw W, p.w.cell? ⟨ga, oa + k * 7 + 5, none⟩ = some (.slice Yy yyn yyc) := fun p => (p.h.cell (p := ⟨ga, oa + k * 7 + 5, none⟩) hga).trans c5
        have c6F : ∀ p : Bw W, p.w.cell? ⟨ga, oa + k * 7 + 6, none⟩ = some (.slice F fl fc) := fun p => (p.h.cell (p := ⟨ga, oa + k * 7 + 6, none⟩) hga).trans c6
        have x1F : ∀ p : Bw W, p.w.cell? ⟨tb, 1, none⟩ = some (.slice (some ⟨gr, 0, none⟩) ln rcap) := fun p => (p.h.cell (p := ⟨tb, 1, none⟩) tl).trans x1
        have d0F : ∀ p : Bw W, p.w.cell? ⟨gr, j * 6, none⟩ = some (.int .i64 (q.row : Nat)) := fun p => (p.h.cell (p := ⟨gr, j * 6, none⟩) hgr).trans d0
        have d1F : ∀ p : Bw W, p.w.cell? ⟨gr, j * 6 + 1, none⟩ = some (.int .i64 (q.cell : Nat)) := fun p => (p.h.cell (p := ⟨gr, j * 6 + 1, none⟩) hgr).trans d1
        have d2F : ∀ p : Bw W, p.w.cell? ⟨gr, j * 6 + 2, none⟩ = some (.int .i64 (q.row : Nat)) := fun p => (p.h.cell (p := ⟨gr, j * 6 + 2, none⟩) hgr).trans d2
        have d3F : ∀ p : Bw W, p.w.cell? ⟨gr, j * 6 + 3, none⟩ = some (.int .i64 (q.left : Nat)) := fun p => (p.h.cell (p := ⟨gr, j * 6 + 3, none⟩) hgr).trans d3
        have d4F : ∀ p : Bw W, p.w.cell? ⟨gr, j * 6 + 4, none⟩ = some (.int .i64 (q.bot : Nat)) := fun p => (p.h.cell (p := ⟨gr, j * 6 + 4, none⟩) hgr).trans d4
        have d5F : ∀ p : Bw W, p.w.cell? ⟨gr, j * 6 + 5, none⟩ = some (.int .i64 (q.right : Nat)) := fun p => (p.h.cell (p := ⟨gr, j * 6 + 5, none⟩) hgr).trans d5
        have y0F : ∀ p : Bw W, p.w.cell? ⟨w.heap.size, 0, none⟩ = some (.int .i64 f) := fun p => (p.h.cell (p := ⟨w.heap.size, 0, none⟩) bl).trans y0
        have y1F : ∀ p : Bw W, p.w.cell? ⟨w.heap.size, 1, none⟩ = some (.int .i64 t) := fun p => (p.h.cell (p := ⟨w.heap.size, 1, none⟩) bl).trans y1
        clear x0 r5 c0 c1 c2 c3 c4 c5 c6 x1 d0 d1 d2 d3 d4 d5 y0 y1
        go_wp2_with fail
        refine wp_region_bw (W := W) (by kernel_rfl) (by kernel_rfl) (by first | exact Below.refl _ _ | exact (Below.refl _ _).drew | exact (Below.refl _ _).drew.drew) ?_
        repeat (quiet_step (first
          | (go_at_call 79; exact bw_of (fun p => cM.out p.w p.h) _)
          | (go_at_call 83; exact bw_of (fun p => cG.out p.w p.h) _)
          | fail))
        refine wpQuiet_nil ?_
        intro w2 hw'
        have kk : Below W.heap.size W w2 := by obtain ⟨p2, rfl⟩ := hw'; exact p2.h
        clear hw'
        all_goals
          have KZ := Go.Lib.hid (show Below W.heap.size W w2 from kk)
          have HKZ := Go.Lib.hid (keep_trans HKW.out (keep_below KZ.out))
          have OV := Go.Lib.hid (HO1.out.below KZ.out)
          have RV := Go.Lib.hid (own_below HR1.out KZ.out)
          have MV := Go.Lib.hid (sq_below HM1.out KZ.out)
          have BXV := Go.Lib.hid (O1.out.below KZ.out)
          have B0V := Go.Lib.hid (HB1.out.trans (KZ.out.mono HB1.out.size))
          clear kk
          have qa1 : IntKind.i64.wrap ((R : Int) + 1) = (R : Int) + 1 := IntWalk.i64_in _ (by omega)
          have hnew := HI.out.new (plT_ok T) HAt.out hft HNK.out
          rw [LN.out] at hnew
          have HINV := Go.Lib.hid hnew
          clear hnew
          have xx1 := OV.out.b1
          have xx2 := OV.out.b2
          have yy0 := BXV.out.a0
          have yy1 := BXV.out.a1
          have hlen : ln ≤ 1000 := Nat.le_trans hrs hcnt
          have hlz : (0 : Int) ≤ (ln : Int) := by omega
          go_wp2_with fail
          have bxl := BXV.out.lt
          have tbl := OV.out.lt
          have ff1 := OV.out.frozen 1
          go_region_law (first
              | (refine step_append_row (by rfl) _ _ 45 (by rfl) w0.heap.size 50 i0 _ 6 48 Try.underlying45 hi hz0 hz1 hz2 rfl (by decide) _ ln (rcC rs) (by rfl) (own_below RV.out (by first | exact (Below.refl _ _) | exact (Below.refl _ _).drew | exact (Below.refl _ _).drew.drew | exact (Below.refl _ _).drew.drew.drew | exact ((Below.refl _ _).alloc (Nat.le_refl _) _) | exact ((Below.refl _ _).alloc (Nat.le_refl _) _).drew | exact ((Below.refl _ _).alloc (Nat.le_refl _) _).drew.drew | exact ((Below.refl _ _).alloc (Nat.le_refl _) _).drew.drew.drew | exact ((Below.refl _ _).alloc (Nat.le_refl _) _).drew.drew.drew.drew)) w0.heap.size _ 1 (rcV ⟨R, k, f, R + 1, t⟩) (by rfl) (by first | exact World.ownsRow_lit _ _ _ (by have := HSW.out; simp; omega) (by unfold maxLen; omega) rfl | exact (World.ownsRow_lit _ _ _ (by have := HSW.out; simp; omega) (by unfold maxLen; omega) rfl).drew | exact ((World.ownsRow_lit _ _ _ (by have := HSW.out; simp; omega) (by unfold maxLen; omega) rfl).drew).drew | exact (((World.ownsRow_lit _ _ _ (by have := HSW.out; simp; omega) (by unfold maxLen; omega) rfl).drew).drew).drew | exact ((((World.ownsRow_lit _ _ _ (by have := HSW.out; simp; omega) (by unfold maxLen; omega) rfl).drew).drew).drew).drew) (by intro u hu; simp [rcV] at hu; rcases hu with rfl | rfl | rfl | rfl | rfl | rfl <;> rfl) (by unfold maxLen; omega) (by omega) (by have := B0V.out.size; simp; omega) ?_; intro v6 w6 hown6 hgrow6; obtain ⟨g6, c6, rfl⟩ := own_form hown6; have OW6 := (OV.out.below (by first | exact (Below.refl _ _) | exact (Below.refl _ _).drew | exact (Below.refl _ _).drew.drew | exact (Below.refl _ _).drew.drew.drew | exact ((Below.refl _ _).alloc (Nat.le_refl _) _) | exact ((Below.refl _ _).alloc (Nat.le_refl _) _).drew | exact ((Below.refl _ _).alloc (Nat.le_refl _) _).drew.drew | exact ((Below.refl _ _).alloc (Nat.le_refl _) _).drew.drew.drew | exact ((Below.refl _ _).alloc (Nat.le_refl _) _).drew.drew.drew.drew)).kept hgrow6 (own_ne (OV.out.below (by first | exact (Below.refl _ _) | exact (Below.refl _ _).drew | exact (Below.refl _ _).drew.drew | exact (Below.refl _ _).drew.drew.drew | exact ((Below.refl _ _).alloc (Nat.le_refl _) _) | exact ((Below.refl _ _).alloc (Nat.le_refl _) _).drew | exact ((Below.refl _ _).alloc (Nat.le_refl _) _).drew.drew | exact ((Below.refl _ _).alloc (Nat.le_refl _) _).drew.drew.drew | exact ((Below.refl _ _).alloc (Nat.le_refl _) _).drew.drew.drew.drew)) (own_below RV.out (by first | exact (Below.refl _ _) | exact (Below.refl _ _).drew | exact (Below.refl _ _).drew.drew | exact (Below.refl _ _).drew.drew.drew | exact ((Below.refl _ _).alloc (Nat.le_refl _) _) | exact ((Below.refl _ _).alloc (Nat.le_refl _) _).drew | exact ((Below.refl _ _).alloc (Nat.le_refl _) _).drew.drew | exact ((Below.refl _ _).alloc (Nat.le_refl _) _).drew.drew.drew | exact ((Below.refl _ _).alloc (Nat.le_refl _) _).drew.drew.drew.drew)) (by decide)); have zz1 := OW6.b1; have gg1 := OW6.frozen 1; have BW6 := (BXV.out.below (by first | exact (Below.refl _ _) | exact (Below.refl _ _).drew | exact (Below.refl _ _).drew.drew | exact (Below.refl _ _).drew.drew.drew | exact ((Below.refl _ _).alloc (Nat.le_refl _) _) | exact ((Below.refl _ _).alloc (Nat.le_refl _) _).drew | exact ((Below.refl _ _).alloc (Nat.le_refl _) _).drew.drew | exact ((Below.refl _ _).alloc (Nat.le_refl _) _).drew.drew.drew | exact ((Below.refl _ _).alloc (Nat.le_refl _) _).drew.drew.drew.drew)).kept hgrow6 (own_ne (BXV.out.below (by first | exact (Below.refl _ _) | exact (Below.refl _ _).drew | exact (Below.refl _ _).drew.drew | exact (Below.refl _ _).drew.drew.drew | exact ((Below.refl _ _).alloc (Nat.le_refl _) _) | exact ((Below.refl _ _).alloc (Nat.le_refl _) _).drew | exact ((Below.refl _ _).alloc (Nat.le_refl _) _).drew.drew | exact ((Below.refl _ _).alloc (Nat.le_refl _) _).drew.drew.drew | exact ((Below.refl _ _).alloc (Nat.le_refl _) _).drew.drew.drew.drew)) (own_below RV.out (by first | exact (Below.refl _ _) | exact (Below.refl _ _).drew | exact (Below.refl _ _).drew.drew | exact (Below.refl _ _).drew.drew.drew | exact ((Below.refl _ _).alloc (Nat.le_refl _) _) | exact ((Below.refl _ _).alloc (Nat.le_refl _) _).drew | exact ((Below.refl _ _).alloc (Nat.le_refl _) _).drew.drew | exact ((Below.refl _ _).alloc (Nat.le_refl _) _).drew.drew.drew | exact ((Below.refl _ _).alloc (Nat.le_refl _) _).drew.drew.drew.drew)) (by decide)); have MW6 := sq_kept (sq_below MV.out (by first | exact (Below.refl _ _) | exact (Below.refl _ _).drew | exact (Below.refl _ _).drew.drew | exact (Below.refl _ _).drew.drew.drew | exact ((Below.refl _ _).alloc (Nat.le_refl _) _) | exact ((Below.refl _ _).alloc (Nat.le_refl _) _).drew | exact ((Below.refl _ _).alloc (Nat.le_refl _) _).drew.drew | exact ((Below.refl _ _).alloc (Nat.le_refl _) _).drew.drew.drew | exact ((Below.refl _ _).alloc (Nat.le_refl _) _).drew.drew.drew.drew)) hgrow6 (own_ne_map (sq_below MV.out (by first | exact (Below.refl _ _) | exact (Below.refl _ _).drew | exact (Below.refl _ _).drew.drew | exact (Below.refl _ _).drew.drew.drew | exact ((Below.refl _ _).alloc (Nat.le_refl _) _) | exact ((Below.refl _ _).alloc (Nat.le_refl _) _).drew | exact ((Below.refl _ _).alloc (Nat.le_refl _) _).drew.drew | exact ((Below.refl _ _).alloc (Nat.le_refl _) _).drew.drew.drew | exact ((Below.refl _ _).alloc (Nat.le_refl _) _).drew.drew.drew.drew)) (own_below RV.out (by first | exact (Below.refl _ _) | exact (Below.refl _ _).drew | exact (Below.refl _ _).drew.drew | exact (Below.refl _ _).drew.drew.drew | exact ((Below.refl _ _).alloc (Nat.le_refl _) _) | exact ((Below.refl _ _).alloc (Nat.le_refl _) _).drew | exact ((Below.refl _ _).alloc (Nat.le_refl _) _).drew.drew | exact ((Below.refl _ _).alloc (Nat.le_refl _) _).drew.drew.drew | exact ((Below.refl _ _).alloc (Nat.le_refl _) _).drew.drew.drew.drew))); have KP6 := Go.Lib.hid (keep_app RV.out (by first | exact (Below.refl _ _) | exact (Below.refl _ _).drew | exact (Below.refl _ _).drew.drew | exact (Below.refl _ _).drew.drew.drew | exact ((Below.refl _ _).alloc (Nat.le_refl _) _) | exact ((Below.refl _ _).alloc (Nat.le_refl _) _).drew | exact ((Below.refl _ _).alloc (Nat.le_refl _) _).drew.drew | exact ((Below.refl _ _).alloc (Nat.le_refl _) _).drew.drew.drew | exact ((Below.refl _ _).alloc (Nat.le_refl _) _).drew.drew.drew.drew) hgrow6); have KW6 := Go.Lib.hid (Below.grown (B0V.out.trans (Below.mono (by first | exact (Below.refl _ _) | exact (Below.refl _ _).drew | exact (Below.refl _ _).drew.drew | exact (Below.refl _ _).drew.drew.drew | exact ((Below.refl _ _).alloc (Nat.le_refl _) _) | exact ((Below.refl _ _).alloc (Nat.le_refl _) _).drew | exact ((Below.refl _ _).alloc (Nat.le_refl _) _).drew.drew | exact ((Below.refl _ _).alloc (Nat.le_refl _) _).drew.drew.drew | exact ((Below.refl _ _).alloc (Nat.le_refl _) _).drew.drew.drew.drew) B0V.out.size)) hgrow6 (Nat.le_trans B0V.out.size (Below.size (by first | exact (Below.refl _ _) | exact (Below.refl _ _).drew | exact (Below.refl _ _).drew.drew | exact (Below.refl _ _).drew.drew.drew | exact ((Below.refl _ _).alloc (Nat.le_refl _) _) | exact ((Below.refl _ _).alloc (Nat.le_refl _) _).drew | exact ((Below.refl _ _).alloc (Nat.le_refl _) _).drew.drew | exact ((Below.refl _ _).alloc (Nat.le_refl _) _).drew.drew.drew | exact ((Below.refl _ _).alloc (Nat.le_refl _) _).drew.drew.drew.drew))) (fun j e => (World.ownsRow.lt RV.out j e).1)))
              | fail)
          all_goals
            have OY : ObjAt (w6.setCell ⟨tb, 1, none⟩ (.slice (some ⟨g6, 0, none⟩) (ln + 1) c6)) tb #[.slice (some ⟨g, o, none⟩) N c, .slice (some ⟨g6, 0, none⟩) (ln + 1) c6, .map (some mb)] 83 := OW6.set 1 _
            have RY := own_set hown6 (a := ⟨tb, 1, none⟩) (own_ne OW6 hown6 (by decide)) (.slice (some ⟨g6, 0, none⟩) (ln + 1) c6)
            have MY := sq_setCell MW6 (a := ⟨tb, 1, none⟩) (sq_ne_obj MW6 OW6) (.slice (some ⟨g6, 0, none⟩) (ln + 1) c6)
            have BY := BW6.other (C := tb) (by have := tlt; omega) 1 (.slice (some ⟨g6, 0, none⟩) (ln + 1) c6)
            have KY := KW6.out.setCell (p := ⟨tb, 1, none⟩) htb (.slice (some ⟨g6, 0, none⟩) (ln + 1) c6)
            have KPY := Go.Lib.hid (keep_trans KP6.out (keep_set OW6 1 (.slice (some ⟨g6, 0, none⟩) (ln + 1) c6)))
            clear OW6 BW6 MW6 KW6 KP6 hown6 hgrow6 zz1 gg1
            generalize w6.setCell ⟨tb, 1, none⟩ (.slice (some ⟨g6, 0, none⟩) (ln + 1) c6) = Y at *
            obtain ⟨w8, hmu, MW8, hg8⟩ := sq_put (sq_drew MY) (by unfold maxLen; omega) (show I64 (R : Int) by unfold I64; omega) iff (show I64 (ln : Int) by unfold I64; omega)
            unfold sq at hmu
            have e1 := OY.b2
            have e2 := BY.a0
            have hYd : Y.drew.heap.size = Y.heap.size := rfl
            have OW8 := Go.Lib.hid (ObjAt.kept (ObjAt.drew OY) hg8 (by intro h; cases h; exact sq_ne_obj MY OY rfl))
            have RW8 := Go.Lib.hid (World.ownsRow.kept (World.ownsRow.drew RY) hg8 (Or.inr (Ne.symm (own_ne_map MY RY))))
            have MW9 := Go.Lib.hid (sq_congr MW8 (fI_put at' R f ln))
            have KW8 := Go.Lib.hid (KY.drew.grown hg8 KY.drew.size (fun j e => by cases e; exact hmb))
            have KP8 := Go.Lib.hid (keep_trans HKZ.out (keep_trans KPY.out (keep_map MY hg8)))
            clear MW8 hg8 MY RY KY KPY
            go_wp2_with fail
            go_region
            all_goals
              go_wp2
              go_end0
              exact ⟨rfl, ⟨rs ++ [⟨R, k, f, R + 1, t⟩], _, ⟨_, mb, n + 1, OW8.out, (by rw [rcC_snoc, List.length_append, LN.out]; exact RW8.out), MW9.out, by omega, htb, hmb⟩, HINV.out, by have := LN.out; simp; omega⟩, KW8.out, KP8.out⟩
    · have HNK := Go.Lib.hid (show ¬ Gd.Kc (plT T) R f t from fun hK => by
        obtain ⟨_, _, _, _, _, _, h2, _⟩ := (HI.out.test (plT_ok T) HAt.out hft).1 hK
        exact hm2 h2)
      have bm : (m == 2) = false := beq_eq_false_iff_ne.2 hm2
      have bm' : ¬ m = 2 := hm2
      have x0F : ∀ p : Bw W, p.w.cell? ⟨tb, 0, none⟩ = some (.slice (some ⟨g, o, none⟩) N c) := fun p => (p.h.cell (p := ⟨tb, 0, none⟩) tl).trans x0
      have r5F : ∀ p : Bw W, p.w.cell? ⟨g, o + R * 6 + 5, none⟩ = some (.slice (some ⟨ga, oa, none⟩) rl rkc) := fun p => (p.h.cell (p := ⟨g, o + R * 6 + 5, none⟩) hg).trans r5
      have c0F : ∀ p : Bw W, p.w.cell? ⟨ga, oa + k * 7, none⟩ = some (.int .i64 b0) := fun p => (p.h.cell (p := ⟨ga, oa + k * 7, none⟩) hga).trans c0
      have c1F : ∀ p : Bw W, p.w.cell? ⟨ga, oa + k * 7 + 1, none⟩ = some (.slice Bp lp cp) := fun p => (p.h.cell (p := ⟨ga, oa + k * 7 + 1, none⟩) hga).trans c1
      have c2F : ∀ p : Bw W, p.w.cell? ⟨ga, oa + k * 7 + 2, none⟩ = some (.int .i64 b2) := fun p => (p.h.cell (p := ⟨ga, oa + k * 7 + 2, none⟩) hga).trans c2
      have c3F : ∀ p : Bw W, p.w.cell? ⟨ga, oa + k * 7 + 3, none⟩ = some (.int .i64 b3) := fun p => (p.h.cell (p := ⟨ga, oa + k * 7 + 3, none⟩) hga).trans c3
      have c4F : ∀ p : Bw W, p.w.cell? ⟨ga, oa + k * 7 + 4, none⟩ = some (.slice Dd ddn ddc) := fun p => (p.h.cell (p := ⟨ga, oa + k * 7 + 4, none⟩) hga).trans c4
      have c5F : ∀ p : Bw W, p.w.cell? ⟨ga, oa + k * 7 + 5, none⟩ = some (.slice Yy yyn yyc) := fun p => (p.h.cell (p := ⟨ga, oa + k * 7 + 5, none⟩) hga).trans c5
      have c6F : ∀ p : Bw W, p.w.cell? ⟨ga, oa + k * 7 + 6, none⟩ = some (.slice F fl fc) := fun p => (p.h.cell (p := ⟨ga, oa + k * 7 + 6, none⟩) hga).trans c6
      clear x0 r5 c0 c1 c2 c3 c4 c5 c6
      go_wp2_with fail
      refine wp_region_bw (W := W) (by kernel_rfl) (by kernel_rfl) (by first | exact Below.refl _ _ | exact (Below.refl _ _).drew | exact (Below.refl _ _).drew.drew) ?_
      repeat (quiet_step (first
        | (go_at_call 79; exact bw_of (fun p => cM.out p.w p.h) _)
        | fail))
      refine wpQuiet_nil ?_
      intro w2 hw'
      have kk : Below W.heap.size W w2 := by obtain ⟨p2, rfl⟩ := hw'; exact p2.h
      clear hw'
      all_goals
        have KZ := Go.Lib.hid (show Below W.heap.size W w2 from kk)
        have HKZ := Go.Lib.hid (keep_trans HKW.out (keep_below KZ.out))
        have OV := Go.Lib.hid (HO1.out.below KZ.out)
        have RV := Go.Lib.hid (own_below HR1.out KZ.out)
        have MV := Go.Lib.hid (sq_below HM1.out KZ.out)
        have BXV := Go.Lib.hid (O1.out.below KZ.out)
        have B0V := Go.Lib.hid (HB1.out.trans (KZ.out.mono HB1.out.size))
        have qa1 : IntKind.i64.wrap ((R : Int) + 1) = (R : Int) + 1 := IntWalk.i64_in _ (by omega)
        have hnew := HI.out.new (plT_ok T) HAt.out hft HNK.out
        rw [LN.out] at hnew
        have HINV := Go.Lib.hid hnew
        clear hnew
        have xx1 := OV.out.b1
        have xx2 := OV.out.b2
        have yy0 := BXV.out.a0
        have yy1 := BXV.out.a1
        have hlen : ln ≤ 1000 := Nat.le_trans hrs hcnt
        have hlz : (0 : Int) ≤ (ln : Int) := by omega
        go_wp2_with fail
        have bxl := BXV.out.lt
        have tbl := OV.out.lt
        have ff1 := OV.out.frozen 1
        go_region_law (first
            | (refine step_append_row (by rfl) _ _ 45 (by rfl) w0.heap.size 50 i0 _ 6 48 Try.underlying45 hi hz0 hz1 hz2 rfl (by decide) _ ln (rcC rs) (by rfl) (own_below RV.out (by first | exact (Below.refl _ _) | exact (Below.refl _ _).drew | exact (Below.refl _ _).drew.drew | exact (Below.refl _ _).drew.drew.drew | exact ((Below.refl _ _).alloc (Nat.le_refl _) _) | exact ((Below.refl _ _).alloc (Nat.le_refl _) _).drew | exact ((Below.refl _ _).alloc (Nat.le_refl _) _).drew.drew | exact ((Below.refl _ _).alloc (Nat.le_refl _) _).drew.drew.drew | exact ((Below.refl _ _).alloc (Nat.le_refl _) _).drew.drew.drew.drew)) w0.heap.size _ 1 (rcV ⟨R, k, f, R + 1, t⟩) (by rfl) (by first | exact World.ownsRow_lit _ _ _ (by have := HSW.out; simp; omega) (by unfold maxLen; omega) rfl | exact (World.ownsRow_lit _ _ _ (by have := HSW.out; simp; omega) (by unfold maxLen; omega) rfl).drew | exact ((World.ownsRow_lit _ _ _ (by have := HSW.out; simp; omega) (by unfold maxLen; omega) rfl).drew).drew | exact (((World.ownsRow_lit _ _ _ (by have := HSW.out; simp; omega) (by unfold maxLen; omega) rfl).drew).drew).drew | exact ((((World.ownsRow_lit _ _ _ (by have := HSW.out; simp; omega) (by unfold maxLen; omega) rfl).drew).drew).drew).drew) (by intro u hu; simp [rcV] at hu; rcases hu with rfl | rfl | rfl | rfl | rfl | rfl <;> rfl) (by unfold maxLen; omega) (by omega) (by have := B0V.out.size; simp; omega) ?_; intro v6 w6 hown6 hgrow6; obtain ⟨g6, c6, rfl⟩ := own_form hown6; have OW6 := (OV.out.below (by first | exact (Below.refl _ _) | exact (Below.refl _ _).drew | exact (Below.refl _ _).drew.drew | exact (Below.refl _ _).drew.drew.drew | exact ((Below.refl _ _).alloc (Nat.le_refl _) _) | exact ((Below.refl _ _).alloc (Nat.le_refl _) _).drew | exact ((Below.refl _ _).alloc (Nat.le_refl _) _).drew.drew | exact ((Below.refl _ _).alloc (Nat.le_refl _) _).drew.drew.drew | exact ((Below.refl _ _).alloc (Nat.le_refl _) _).drew.drew.drew.drew)).kept hgrow6 (own_ne (OV.out.below (by first | exact (Below.refl _ _) | exact (Below.refl _ _).drew | exact (Below.refl _ _).drew.drew | exact (Below.refl _ _).drew.drew.drew | exact ((Below.refl _ _).alloc (Nat.le_refl _) _) | exact ((Below.refl _ _).alloc (Nat.le_refl _) _).drew | exact ((Below.refl _ _).alloc (Nat.le_refl _) _).drew.drew | exact ((Below.refl _ _).alloc (Nat.le_refl _) _).drew.drew.drew | exact ((Below.refl _ _).alloc (Nat.le_refl _) _).drew.drew.drew.drew)) (own_below RV.out (by first | exact (Below.refl _ _) | exact (Below.refl _ _).drew | exact (Below.refl _ _).drew.drew | exact (Below.refl _ _).drew.drew.drew | exact ((Below.refl _ _).alloc (Nat.le_refl _) _) | exact ((Below.refl _ _).alloc (Nat.le_refl _) _).drew | exact ((Below.refl _ _).alloc (Nat.le_refl _) _).drew.drew | exact ((Below.refl _ _).alloc (Nat.le_refl _) _).drew.drew.drew | exact ((Below.refl _ _).alloc (Nat.le_refl _) _).drew.drew.drew.drew)) (by decide)); have zz1 := OW6.b1; have gg1 := OW6.frozen 1; have BW6 := (BXV.out.below (by first | exact (Below.refl _ _) | exact (Below.refl _ _).drew | exact (Below.refl _ _).drew.drew | exact (Below.refl _ _).drew.drew.drew | exact ((Below.refl _ _).alloc (Nat.le_refl _) _) | exact ((Below.refl _ _).alloc (Nat.le_refl _) _).drew | exact ((Below.refl _ _).alloc (Nat.le_refl _) _).drew.drew | exact ((Below.refl _ _).alloc (Nat.le_refl _) _).drew.drew.drew | exact ((Below.refl _ _).alloc (Nat.le_refl _) _).drew.drew.drew.drew)).kept hgrow6 (own_ne (BXV.out.below (by first | exact (Below.refl _ _) | exact (Below.refl _ _).drew | exact (Below.refl _ _).drew.drew | exact (Below.refl _ _).drew.drew.drew | exact ((Below.refl _ _).alloc (Nat.le_refl _) _) | exact ((Below.refl _ _).alloc (Nat.le_refl _) _).drew | exact ((Below.refl _ _).alloc (Nat.le_refl _) _).drew.drew | exact ((Below.refl _ _).alloc (Nat.le_refl _) _).drew.drew.drew | exact ((Below.refl _ _).alloc (Nat.le_refl _) _).drew.drew.drew.drew)) (own_below RV.out (by first | exact (Below.refl _ _) | exact (Below.refl _ _).drew | exact (Below.refl _ _).drew.drew | exact (Below.refl _ _).drew.drew.drew | exact ((Below.refl _ _).alloc (Nat.le_refl _) _) | exact ((Below.refl _ _).alloc (Nat.le_refl _) _).drew | exact ((Below.refl _ _).alloc (Nat.le_refl _) _).drew.drew | exact ((Below.refl _ _).alloc (Nat.le_refl _) _).drew.drew.drew | exact ((Below.refl _ _).alloc (Nat.le_refl _) _).drew.drew.drew.drew)) (by decide)); have MW6 := sq_kept (sq_below MV.out (by first | exact (Below.refl _ _) | exact (Below.refl _ _).drew | exact (Below.refl _ _).drew.drew | exact (Below.refl _ _).drew.drew.drew | exact ((Below.refl _ _).alloc (Nat.le_refl _) _) | exact ((Below.refl _ _).alloc (Nat.le_refl _) _).drew | exact ((Below.refl _ _).alloc (Nat.le_refl _) _).drew.drew | exact ((Below.refl _ _).alloc (Nat.le_refl _) _).drew.drew.drew | exact ((Below.refl _ _).alloc (Nat.le_refl _) _).drew.drew.drew.drew)) hgrow6 (own_ne_map (sq_below MV.out (by first | exact (Below.refl _ _) | exact (Below.refl _ _).drew | exact (Below.refl _ _).drew.drew | exact (Below.refl _ _).drew.drew.drew | exact ((Below.refl _ _).alloc (Nat.le_refl _) _) | exact ((Below.refl _ _).alloc (Nat.le_refl _) _).drew | exact ((Below.refl _ _).alloc (Nat.le_refl _) _).drew.drew | exact ((Below.refl _ _).alloc (Nat.le_refl _) _).drew.drew.drew | exact ((Below.refl _ _).alloc (Nat.le_refl _) _).drew.drew.drew.drew)) (own_below RV.out (by first | exact (Below.refl _ _) | exact (Below.refl _ _).drew | exact (Below.refl _ _).drew.drew | exact (Below.refl _ _).drew.drew.drew | exact ((Below.refl _ _).alloc (Nat.le_refl _) _) | exact ((Below.refl _ _).alloc (Nat.le_refl _) _).drew | exact ((Below.refl _ _).alloc (Nat.le_refl _) _).drew.drew | exact ((Below.refl _ _).alloc (Nat.le_refl _) _).drew.drew.drew | exact ((Below.refl _ _).alloc (Nat.le_refl _) _).drew.drew.drew.drew))); have KP6 := Go.Lib.hid (keep_app RV.out (by first | exact (Below.refl _ _) | exact (Below.refl _ _).drew | exact (Below.refl _ _).drew.drew | exact (Below.refl _ _).drew.drew.drew | exact ((Below.refl _ _).alloc (Nat.le_refl _) _) | exact ((Below.refl _ _).alloc (Nat.le_refl _) _).drew | exact ((Below.refl _ _).alloc (Nat.le_refl _) _).drew.drew | exact ((Below.refl _ _).alloc (Nat.le_refl _) _).drew.drew.drew | exact ((Below.refl _ _).alloc (Nat.le_refl _) _).drew.drew.drew.drew) hgrow6); have KW6 := Go.Lib.hid (Below.grown (B0V.out.trans (Below.mono (by first | exact (Below.refl _ _) | exact (Below.refl _ _).drew | exact (Below.refl _ _).drew.drew | exact (Below.refl _ _).drew.drew.drew | exact ((Below.refl _ _).alloc (Nat.le_refl _) _) | exact ((Below.refl _ _).alloc (Nat.le_refl _) _).drew | exact ((Below.refl _ _).alloc (Nat.le_refl _) _).drew.drew | exact ((Below.refl _ _).alloc (Nat.le_refl _) _).drew.drew.drew | exact ((Below.refl _ _).alloc (Nat.le_refl _) _).drew.drew.drew.drew) B0V.out.size)) hgrow6 (Nat.le_trans B0V.out.size (Below.size (by first | exact (Below.refl _ _) | exact (Below.refl _ _).drew | exact (Below.refl _ _).drew.drew | exact (Below.refl _ _).drew.drew.drew | exact ((Below.refl _ _).alloc (Nat.le_refl _) _) | exact ((Below.refl _ _).alloc (Nat.le_refl _) _).drew | exact ((Below.refl _ _).alloc (Nat.le_refl _) _).drew.drew | exact ((Below.refl _ _).alloc (Nat.le_refl _) _).drew.drew.drew | exact ((Below.refl _ _).alloc (Nat.le_refl _) _).drew.drew.drew.drew))) (fun j e => (World.ownsRow.lt RV.out j e).1)))
            | fail)
        all_goals
          have OY : ObjAt (w6.setCell ⟨tb, 1, none⟩ (.slice (some ⟨g6, 0, none⟩) (ln + 1) c6)) tb #[.slice (some ⟨g, o, none⟩) N c, .slice (some ⟨g6, 0, none⟩) (ln + 1) c6, .map (some mb)] 83 := OW6.set 1 _
          have RY := own_set hown6 (a := ⟨tb, 1, none⟩) (own_ne OW6 hown6 (by decide)) (.slice (some ⟨g6, 0, none⟩) (ln + 1) c6)
          have MY := sq_setCell MW6 (a := ⟨tb, 1, none⟩) (sq_ne_obj MW6 OW6) (.slice (some ⟨g6, 0, none⟩) (ln + 1) c6)
          have BY := BW6.other (C := tb) (by have := tlt; omega) 1 (.slice (some ⟨g6, 0, none⟩) (ln + 1) c6)
          have KY := KW6.out.setCell (p := ⟨tb, 1, none⟩) htb (.slice (some ⟨g6, 0, none⟩) (ln + 1) c6)
          have KPY := Go.Lib.hid (keep_trans KP6.out (keep_set OW6 1 (.slice (some ⟨g6, 0, none⟩) (ln + 1) c6)))
          clear OW6 BW6 MW6 KW6 KP6 hown6 hgrow6 zz1 gg1
          generalize w6.setCell ⟨tb, 1, none⟩ (.slice (some ⟨g6, 0, none⟩) (ln + 1) c6) = Y at *
          obtain ⟨w8, hmu, MW8, hg8⟩ := sq_put (sq_drew MY) (by unfold maxLen; omega) (show I64 (R : Int) by unfold I64; omega) iff (show I64 (ln : Int) by unfold I64; omega)
          unfold sq at hmu
          have e1 := OY.b2
          have e2 := BY.a0
          have hYd : Y.drew.heap.size = Y.heap.size := rfl
          have OW8 := Go.Lib.hid (ObjAt.kept (ObjAt.drew OY) hg8 (by intro h; cases h; exact sq_ne_obj MY OY rfl))
          have RW8 := Go.Lib.hid (World.ownsRow.kept (World.ownsRow.drew RY) hg8 (Or.inr (Ne.symm (own_ne_map MY RY))))
          have MW9 := Go.Lib.hid (sq_congr MW8 (fI_put at' R f ln))
          have KW8 := Go.Lib.hid (KY.drew.grown hg8 KY.drew.size (fun j e => by cases e; exact hmb))
          have KP8 := Go.Lib.hid (keep_trans HKZ.out (keep_trans KPY.out (keep_map MY hg8)))
          clear MW8 hg8 MY RY KY KPY
          go_wp2_with fail
          go_region
          all_goals
            go_wp2
            go_end0
            exact ⟨rfl, ⟨rs ++ [⟨R, k, f, R + 1, t⟩], _, ⟨_, mb, n + 1, OW8.out, (by rw [rcC_snoc, List.length_append, LN.out]; exact RW8.out), MW9.out, by omega, htb, hmb⟩, HINV.out, by have := LN.out; simp; omega⟩, KW8.out, KP8.out⟩
end Go.Proofs.Ytkdhffidkopmcaa

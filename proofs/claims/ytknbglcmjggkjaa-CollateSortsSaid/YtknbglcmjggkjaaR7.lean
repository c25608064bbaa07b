/- Layer 6: the reference's Elements (19). -/
import Derived.Test.YtknbglcmjggkjaaR6
import Derived.Deep.AppendLies
import Derived.Laws.AppendOwnNone
namespace Go.Proofs.Ytknbglcmjggkjaa
open Go.RowKit Go.Shelf Go.Lib Co

theorem elsC_one (l : List El) : ∀ u ∈ elsC l, u.oneCell' = true := by
  intro u hu
  unfold elsC at hu
  obtain ⟨e, _, he⟩ := List.mem_flatMap.1 hu
  exact el_one e u he
theorem REls.news {B : Nat} {w : World} {v : Value} {l : List El} (h : REls B w v l) (hl : 0 < l.length) : ∃ g c, v = .slice (some ⟨g, 0, none⟩) l.length c ∧ ∀ j u, (elsC l)[j]? = some u → w.cell? ((⟨g, 0, none⟩ : Addr).add j) = some u := by
  have h0 : w.ownsRow B 38 3 v l.length (elsC l) := h
  rcases h0.2 with ⟨_, hn⟩ | ⟨g, cap, cur, rfl, _⟩
  · omega
  · refine ⟨g, cap, rfl, fun j u hj => ?_⟩
    have hlt : j < (elsC l).length := (List.getElem?_eq_some_iff.1 hj).1
    rw [elsC_len] at hlt
    rw [show ((⟨g, 0, none⟩ : Addr).add j) = ⟨g, j, none⟩ by simp [Addr.add, eq_comm], h0.cellAt j hlt]
    exact hj
theorem REls.app {B : Nat} {w : World} {v : Value} {l m : List El} (h : w.ownsRow B 38 3 v (l.length + m.length) (elsC l ++ elsC m)) : REls B w v (l ++ m) := by
  unfold REls
  rw [List.length_append, show elsC (l ++ m) = elsC l ++ elsC m by simp [elsC]]
  exact h
theorem REls.mono {B B' : Nat} {w : World} {v : Value} {l : List El} (h : REls B w v l) (hb : B' ≤ B) : REls B' w v l := own_mono h hb
theorem ints_of {w : World} {B : Nat} {v : Value} {P : List Nat} (h : Ints w B v (ptsI P)) : Cp.IntsAt w v P := by
  have h0 : w.ownsRow B 3 1 v (ptsI P).length ((ptsI P).map (Value.int .i64)) := h
  rw [ptsI_len] at h0
  refine Cp.IntsAt.of (base := B) ?_
  rw [show Cp.ints P = (ptsI P).map (Value.int .i64) by unfold Cp.ints ptsI; rw [List.map_map]; rfl]
  exact h0
theorem step_append_row {P : Program} {w : World} {ops : Array Oper} {o : Oper} {a : Act} {K : Act → World → Prop} {Q : Exit → Act → World → Prop} {E : Prop} (hgd : o.guard = none) (s x : Operand) (t : TypeId)
    (ho : o.op = .call { callee := .builtin .append, args := #[s, x], argTypes := #[t, t] })
    (base : Nat) (e : TypeId) (i : TypeInfo) (z : Value) (size bytes : Nat) (ht : P.underlying t = some (.slice e)) (hi : P.info? e = some i) (hz : i.zero = some z)
    (hsize : i.size = size) (hby : i.bytes = bytes) (hzs : z.cells.size = size) (hsz : 0 < size)
    (v : Value) (n : Nat) (xs : List Value) (hs : a.eval s = v) (hown : w.ownsRow base e size v n xs)
    (B5 : Nat) (v5 : Value) (m : Nat) (news : List Value) (hx : a.eval x = v5) (h5 : w.ownsRow B5 e size v5 m news) (h1 : ∀ u ∈ news, u.oneCell' = true)
    (h63 : n + m ≤ maxLen) (hbytes : (n + m) * bytes ≤ 140737488355328) (hbase : base ≤ w.heap.size)
    (h : ∀ v' w', w'.ownsRow base e size v' (n + m) (xs ++ news) → w.grownBy w' v.ownBlock → K (a.put o.dst v') w') :
    if Region.wanted o (yielded ops a.tmps) = true then Oper.wp P o a w K Q else E := by
  have hw : Region.wanted o (yielded ops a.tmps) = true := by simp [Region.wanted, hgd]
  rw [if_pos hw]
  have hlen := h5.1
  rcases h5.2 with ⟨hv, h0⟩ | ⟨g, cap, cur, hv, _⟩
  · subst hv h0
    have hnil : news = [] := List.eq_nil_of_length_eq_zero (by omega)
    subst hnil
    have hrun := run_append_owned_none (P := P) (w := w) base t o.type e i size ht hi v n xs hown
    unfold Oper.wp
    simp [execOp, ho, resolve, invoke, builtin, hs, hx, hrun, Result.andThen]
    exact h v w (by rw [Nat.add_zero, List.append_nil]; exact hown) ⟨rfl, rfl, rfl, Nat.le_refl _, fun _ _ _ => rfl⟩
  · subst hv
    have hcells := h5.cellAt
    refine wp_append_own w s x t ho base e i z size bytes ht hi hz hsize hby hzs hsz v n xs hs hown ⟨g, 0, none⟩ m cap news hx hlen (fun j u hj => ?_) h1 h63 hbytes hbase (fun v' w' a1 a2 _ => h v' w' a1 a2)
    have hlt : j < news.length := (List.getElem?_eq_some_iff.1 hj).1
    rw [show ((⟨g, 0, none⟩ : Addr).add j) = ⟨g, j, none⟩ by simp [Addr.add, eq_comm], hcells j (by omega)]
    exact hj
theorem numE_pos (Q : List Nat) : 0 < (numE Q).length := by unfold numE; simp
theorem digs_at {d j : Nat} {P : List Nat} {k : Nat} (hd : digs (P.drop k) = d) (hj : j < d) (h : k + j < P.length) : dig P[k + j] = true := by
  have h1 := dig_take (P.drop k) P[k + j] ?_
  · exact h1
  · rw [hd]
    refine List.mem_iff_getElem.2 ⟨j, by rw [List.length_take, List.length_drop]; omega, ?_⟩
    rw [List.getElem_take, List.getElem_drop]
theorem digs_end {d : Nat} {P : List Nat} {k : Nat} (hd : digs (P.drop k) = d) (h : k + d < P.length) : dig P[k + d] = false := by
  have key : ∀ (l : List Nat) (hl : digs l < l.length), dig (l[digs l]'hl) = false := by
    intro l
    induction l with
    | nil => intro hl; simp at hl
    | cons a r ih =>
      intro hl
      by_cases ha : dig a = true
      · have e : digs (a :: r) = digs r + 1 := by simp only [digs]; rw [if_pos ha]
        have hr : digs r < r.length := by rw [e] at hl; simpa using hl
        have := ih hr
        simp only [e, List.getElem_cons_succ]
        exact this
      · have e : digs (a :: r) = 0 := by simp only [digs]; rw [if_neg ha]
        simp only [e, List.getElem_cons_zero]
        simpa using ha
  have := key (P.drop k) (by rw [hd, List.length_drop]; omega)
  simp only [hd, List.getElem_drop] at this
  exact this
set_option maxRecDepth 100000 in
set_option maxHeartbeats 40000000 in
theorem relements_any {s : ByteArray} {P : List Nat} (hs : Cp.Str s P []) (h : s.size ≤ 4096) (st : Int) (nu ig uf : Bool) (w : World) :
    Calls Try.prog 19 #[.string s, opV st nu ig uf] w (RElR (elems nu (upN uf) ig P) w) := by
  obtain ⟨i0, hi, hz0, hz1, hz2⟩ := info_parts relInfo
  have hpt := pts_le hs
  have hPl := pts_len hs
  have cP := fun w' => points_ok (Str.of hs (by omega)) w'
  unfold PtsOk at cP
  have cQ := fun (c : Nat) (hc : c ≤ 1114111) w' => rpoint_any (c := c) st nu ig uf w' hc
  have o1 := ObjAt.new w #[.int .i64 st, .bool nu, .bool ig, .bool uf] 34
  have hB : Below w.heap.size w (w.alloc (.cells #[.int .i64 st, .bool nu, .bool ig, .bool uf] 34)) := (Below.refl _ w).alloc (Nat.le_refl _) _
  unfold opV at *
  go_enter Try.func19, Try.ntmps19
  go_wp2_with fail
  generalize w.alloc (.cells #[.int .i64 st, .bool nu, .bool ig, .bool uf] 34) = W at *
  refine (cP _).mono ?_
  rintro e W0 ⟨v1, v2, rfl, hv1, _, k0⟩
  have hv := ints_of hv1
  have o2 := o1.below k0
  have hB0 := hB.trans (k0.mono hB.size)
  have hlo : w.heap.size < W0.heap.size := o2.lt
  clear o1 hB k0 hv1 cP
  rcases hv with ⟨rfl, rfl⟩ | ⟨g, cap, rfl, hgp, ⟨hca, hcb⟩, hc⟩
  · have HB := Go.Lib.hid hB0
    go_wp2_with fail
    go_loopw [8, 9] (fun lv iv wr => lv = .slice none 0 0 ∧ iv = .int .i64 0 ∧ wr = W0) (fun _ _ _ => 0)
    case atStart => exact ⟨rfl, rfl, rfl⟩
    case round =>
      obtain ⟨rfl, rfl, rfl⟩ := hrel
      go_wp2
      go_ret
      exact ⟨_, rfl, by rw [elems_nil]; exact REls.nil0 _ _, HB.out⟩
  · have hcm : (cap : Int) ≤ 9223372036854775807 := by unfold maxLen at hcb; omega
    go_wp2_with fail
    go_loopw [8, 9] (fun lv iv wr => ∃ (k : Nat) (L : List El), k ≤ P.length ∧ iv = .int .i64 (k : Nat) ∧ REls W0.heap.size wr lv L ∧ L.length ≤ 2 * k ∧ Hid (elems nu (upN uf) ig P = L ++ elems nu (upN uf) ig (P.drop k)) ∧ Below W0.heap.size W0 wr) (fun _ iv _ => P.length - (RowKit.intOf iv).toNat)
    case atStart => exact ⟨0, [], Nat.zero_le _, rfl, REls.nil0 _ _, Nat.le_refl _, Go.Lib.hid (by rw [List.drop_zero]; rfl), Below.refl _ _⟩
    case round =>
      obtain ⟨k, L, hk, rfl, hvL, hLl, HL, hbk⟩ := hrel
      by_cases hlt : k < P.length
      · have i0' : (0 : Int) ≤ (k : Int) := by omega
        have i1 : (k : Int) < (P.length : Int) := by omega
        have i2 : (k : Int) ≤ (P.length : Int) := by omega
        have i3 : (P.length : Int) ≤ (cap : Int) := by omega
        have hsk := hbk.size
        have o3 := o2.below hbk
        have y0 := o3.c0
        have y1 := o3.c1
        have y2 := o3.c2
        have y3 := o3.c3
        have hdl := digs_le (P.drop k)
        rw [List.length_drop] at hdl
        cases nu with
        | false =>
          go_wp2_with fail
          go_loopw [10] (fun kv wr' => kv = .int .i64 (k : Nat) ∧ wr = wr') (fun _ _ => 0)
          case atStart => exact ⟨rfl, rfl⟩
          case round =>
            obtain ⟨rfl, rfl⟩ := hrel
            have hn : ¬ (false = true ∧ 0 < digs (P.drop k)) := by simp
            have HLN := Go.Lib.hid (HL.out.trans (by rw [elems_pt hlt hn, ← List.append_assoc]))
            have ki : ¬ (k : Int) < (k : Int) := by omega
            have c0 := (hbk.cell (p := ⟨g, k, none⟩) hgp).trans (hc k hlt)
            have hck := hpt P[k] (List.getElem_mem hlt)
            have cR := fun w' => cQ P[k] hck w'
            have HPL := Go.Lib.hid (pointE_len (upN uf) ig P[k])
            have CK := Go.Lib.hid (hc k hlt)
            generalize hpe : pointE (upN uf) ig P[k] = pe at *
            have CR := Go.Lib.hid cR
            have HPE := Go.Lib.hid hpe
            clear cR hpe
            go_wp2_with fail
            go_region_held3 (fun w' => w'.cell? ⟨w.heap.size, 0, none⟩ = some (.int .i64 st) ∧ w'.cell? ⟨w.heap.size, 1, none⟩ = some (.bool false) ∧ w'.cell? ⟨w.heap.size, 2, none⟩ = some (.bool ig) ∧ w'.cell? ⟨w.heap.size, 3, none⟩ = some (.bool uf) ∧ w'.cell? ⟨g, k, none⟩ = some (.int .i64 ((P[k] : Nat) : Int)))
              (first
                | exact ⟨y0, y1, y2, y3, c0⟩
                | exact ⟨o6.c0, o6.c1, o6.c2, o6.c3, c6⟩
                | exact ⟨o5.c0, o5.c1, o5.c2, o5.c3, c5⟩)
              (first
                | (go_at_call 38; (with_reducible refine (CR.out _).mono ?_); rintro e w5 ⟨v5, rfl, hv5, k5⟩; have hb5 : Below W0.heap.size W0 w5 := hbk.drew.trans (k5.mono hsk); have o5 := o2.below hb5; have c5 := (hb5.cell (p := ⟨g, k, none⟩) hgp).trans CK.out; have hvL5 := REls.below (show REls W0.heap.size wr.drew _ L from World.ownsRow.drew (show World.ownsRow _ _ _ _ _ _ _ from hvL)) k5)
                | (refine step_append_row (by rfl) _ _ 32 (by rfl) W0.heap.size 38 i0 _ 3 24 Try.underlying32 hi hz0 hz1 hz2 rfl (by decide) _ L.length (elsC L) (by rfl) hvL5 _ v5 pe.length (elsC pe) (by rfl) hv5 (elsC_one pe) (by unfold maxLen; have := HPL.out; omega) (by have := HPL.out; omega) (by have := k5.size; simp at this; omega) ?_; intro v6 w6 hown6 hgrow6; have hb6 : Below W0.heap.size W0 w6 := hb5.grown hgrow6 hb5.size (fun j e => (World.ownsRow.lt (show World.ownsRow _ _ _ _ _ _ _ from hvL5) j e).1); have o6 := o2.below hb6; have c6 := (hb6.cell (p := ⟨g, k, none⟩) hgp).trans CK.out)
                | fail)
            have HV6 := Go.Lib.hid (REls.app hown6)
            have HB6 := Go.Lib.hid hb6
            clear hown6 hgrow6 hb6 o6 c6 hb5 o5 c5 k5 hv5 hvL5 hvL
            go_wp2
            go_roundw
            case rel => exact ⟨k + 1, L ++ pe, by omega, by go_num, HV6.out, by have := HPL.out; rw [List.length_append]; omega, HLN, HB6.out⟩
            case measure => simp [RowKit.intOf]; omega
        | true =>
          generalize hd : digs (P.drop k) = d at *
          have HD := Go.Lib.hid hd
          clear hd
          go_wp2_with fail
          go_loopw [10] (fun kv wr' => ∃ j : Nat, j ≤ d ∧ kv = .int .i64 ((k + j : Nat) : Int) ∧ wr = wr') (fun kv _ => k + d - (RowKit.intOf kv).toNat)
          case atStart => exact ⟨0, Nat.zero_le _, rfl, rfl⟩
          case round =>
            obtain ⟨j, hj, rfl, rfl⟩ := hrel
            by_cases hjd : j < d
            · have q0 : (0 : Int) ≤ ((k + j : Nat) : Int) := by omega
              have q1 : ((k + j : Nat) : Int) < (P.length : Int) := by omega
              have q2 : k + j < P.length := by omega
              have d0 := (hbk.cell (p := ⟨g, k + j, none⟩) hgp).trans (hc (k + j) q2)
              have hdj := Go.Lib.hid (digs_at HD.out hjd q2)
              have hpj := hpt P[k + j] (List.getElem_mem q2)
              have cD := fun w' => rdigit_any P[k + j] w' (by omega)
              rw [hdj.out] at cD
              have CD := Go.Lib.hid cD
              clear cD hdj
              generalize P[k + j] = cj at *
              obtain ⟨kj, hkj⟩ : ∃ kj, kj = k + j := ⟨_, rfl⟩
              rw [← hkj] at d0 q0 q1 q2 ⊢
              have HKJ := Go.Lib.hid hkj
              clear hkj
              go_wp2_with (go_at_call 36; (with_reducible refine (CD.out _).mono ?_); rintro e wr ⟨rfl, rfl⟩)
              go_roundw
              case rel => exact ⟨j + 1, by omega, by rw [HKJ.out]; go_num, trivial⟩
              case measure => simp [RowKit.intOf]; have := HKJ.out; omega
            · obtain rfl : j = d := by omega
              by_cases hjl : k + j < P.length
              · have q0 : (0 : Int) ≤ ((k + j : Nat) : Int) := by omega
                have q1 : ((k + j : Nat) : Int) < (P.length : Int) := by omega
                have d0 := (hbk.cell (p := ⟨g, k + j, none⟩) hgp).trans (hc (k + j) hjl)
                have hdj := Go.Lib.hid (digs_end HD.out hjl)
                have hpj := hpt P[k + j] (List.getElem_mem hjl)
                have cD := fun w' => rdigit_any P[k + j] w' (by omega)
                rw [hdj.out] at cD
                have CD := Go.Lib.hid cD
                clear cD hdj
                by_cases hj0 : 0 < j
                · obtain ⟨kj, hkj⟩ : ∃ kj, kj = k + j := ⟨_, rfl⟩
                  generalize P[k + j] = cj at *
                  rw [← hkj] at d0 q0 q1 hjl ⊢
                  have q5 : (k : Int) < (kj : Int) := by omega
                  have q6 : (kj : Int) ≤ (cap : Int) := by omega
                  have q7 : (k : Int) ≤ (kj : Int) := by omega
                  have q8 : kj - k = j := by omega
                  have q9 : kj ≤ P.length := by omega
                  have HKJ := Go.Lib.hid hkj
                  clear hkj
                  have HTL := Go.Lib.hid (show ((P.drop k).take j).length = j by rw [List.length_take, List.length_drop]; omega)
                  have HLN := Go.Lib.hid (HL.out.trans (by rw [elems_num rfl (by rw [HD.out]; exact hj0), HD.out, ← List.append_assoc, List.drop_drop]))
                  have hdd : ∀ c ∈ (P.drop k).take j, dig c = true := by rw [← HD.out]; exact dig_take _
                  have hio : IntsO wr (.slice (some ⟨g, k, none⟩) j (cap - k)) ((P.drop k).take j) := ⟨g, k, cap - k, by rw [HTL.out], Nat.lt_of_lt_of_le hgp hsk, by rw [HTL.out]; omega, by omega, fun i hi => by rw [List.getElem_take, List.getElem_drop]; exact (hbk.cell (p := ⟨g, k + i, none⟩) hgp).trans (hc (k + i) (by rw [HTL.out] at hi; omega))⟩
                  have cN := fun w' => rnumber_any w' (vd := .slice (some ⟨g, k, none⟩) j (cap - k)) (P := (P.drop k).take j)
                  have HN := Go.Lib.hid (show Calls Try.prog 37 #[.slice (some ⟨g, k, none⟩) j (cap - k)] wr (RElR (numE ((P.drop k).take j)) wr) from cN wr hio hdd (by rw [HTL.out]; omega) (by rw [HTL.out]; exact hj0))
                  have HNL := Go.Lib.hid (show (numE ((P.drop k).take j)).length ≤ j + 1 by have := numE_len (Q := (P.drop k).take j); rw [HTL.out] at this; exact this)
                  have HNP := Go.Lib.hid (numE_pos ((P.drop k).take j))
                  clear cN hio hdd
                  generalize numE ((P.drop k).take j) = ne at *
                  go_wp2_with (first
                    | (go_at_call 36; (with_reducible refine (CD.out _).mono ?_); rintro e wr ⟨rfl, rfl⟩)
                    | (go_at_call 37; (with_reducible refine (HN.out).mono ?_); rintro e w5 ⟨v5, rfl, hv5, k5⟩; have hvL5 := REls.below hvL k5; obtain ⟨g5, cap5, hve, hn5⟩ := hv5.news HNP.out; subst hve)
                    | (at_builtin; go_loud (refine wpList_append_own _ rfl _ _ 32 rfl W0.heap.size 38 i0 _ 3 24 Try.underlying32 hi hz0 hz1 hz2 rfl (by decide) _ _ _ rfl hvL5 ⟨g5, 0, none⟩ ne.length cap5 (elsC ne) rfl (elsC_len ne) hn5 (elsC_one ne) (by unfold maxLen; have := HNL.out; omega) (by have := HNL.out; omega) (Nat.le_trans hsk k5.size) ?_; intro v6 w6 hown6 hgrow6 _)))
                  have HV6 := Go.Lib.hid (REls.app hown6)
                  have hb6 : Below W0.heap.size W0 w6 := (hbk.trans (k5.mono hsk)).grown hgrow6 (Nat.le_trans hsk k5.size) (fun j e => (World.ownsRow.lt (show World.ownsRow _ _ _ _ _ _ _ from hvL5) j e).1)
                  have HB6 := Go.Lib.hid hb6
                  clear hown6 hgrow6 hb6 k5 hv5 hvL5 hvL hn5
                  go_wp2
                  go_roundw
                  case rel => exact ⟨kj, L ++ ne, by omega, by go_num, HV6.out, by have := HNL.out; have := HKJ.out; rw [List.length_append]; omega, by rw [HKJ.out]; exact HLN, HB6.out⟩
                  case measure => simp [RowKit.intOf]; omega
                · obtain rfl : j = 0 := by omega
                  simp only [Nat.add_zero] at *
                  have hn : ¬ (true = true ∧ 0 < digs (P.drop k)) := by rw [HD.out]; simp
                  have HLN := Go.Lib.hid (HL.out.trans (by rw [elems_pt hlt hn, ← List.append_assoc]))
                  have ki : ¬ (k : Int) < (k : Int) := by omega
                  have c0 := (hbk.cell (p := ⟨g, k, none⟩) hgp).trans (hc k hlt)
                  have hck := hpt P[k] (List.getElem_mem hlt)
                  have cR := fun w' => cQ P[k] hck w'
                  have HPL := Go.Lib.hid (pointE_len (upN uf) ig P[k])
                  have CK := Go.Lib.hid (hc k hlt)
                  generalize hpe : pointE (upN uf) ig P[k] = pe at *
                  have CR := Go.Lib.hid cR
                  have HPE := Go.Lib.hid hpe
                  clear cR hpe
                  go_wp2_with (go_at_call 36; (with_reducible refine (CD.out _).mono ?_); rintro e wr ⟨rfl, rfl⟩)
                  go_region_held3 (fun w' => w'.cell? ⟨w.heap.size, 0, none⟩ = some (.int .i64 st) ∧ w'.cell? ⟨w.heap.size, 1, none⟩ = some (.bool true) ∧ w'.cell? ⟨w.heap.size, 2, none⟩ = some (.bool ig) ∧ w'.cell? ⟨w.heap.size, 3, none⟩ = some (.bool uf) ∧ w'.cell? ⟨g, k, none⟩ = some (.int .i64 ((P[k] : Nat) : Int)))
                    (first
                      | exact ⟨y0, y1, y2, y3, c0⟩
                      | exact ⟨o6.c0, o6.c1, o6.c2, o6.c3, c6⟩
                      | exact ⟨o5.c0, o5.c1, o5.c2, o5.c3, c5⟩)
                    (first
                      | (go_at_call 38; (with_reducible refine (CR.out _).mono ?_); rintro e w5 ⟨v5, rfl, hv5, k5⟩; have hb5 : Below W0.heap.size W0 w5 := hbk.drew.trans (k5.mono hsk); have o5 := o2.below hb5; have c5 := (hb5.cell (p := ⟨g, k, none⟩) hgp).trans CK.out; have hvL5 := REls.below (show REls W0.heap.size wr.drew _ L from World.ownsRow.drew (show World.ownsRow _ _ _ _ _ _ _ from hvL)) k5)
                      | (refine step_append_row (by rfl) _ _ 32 (by rfl) W0.heap.size 38 i0 _ 3 24 Try.underlying32 hi hz0 hz1 hz2 rfl (by decide) _ L.length (elsC L) (by rfl) hvL5 _ v5 pe.length (elsC pe) (by rfl) hv5 (elsC_one pe) (by unfold maxLen; have := HPL.out; omega) (by have := HPL.out; omega) (by have := k5.size; simp at this; omega) ?_; intro v6 w6 hown6 hgrow6; have hb6 : Below W0.heap.size W0 w6 := hb5.grown hgrow6 hb5.size (fun j e => (World.ownsRow.lt (show World.ownsRow _ _ _ _ _ _ _ from hvL5) j e).1); have o6 := o2.below hb6; have c6 := (hb6.cell (p := ⟨g, k, none⟩) hgp).trans CK.out)
                      | fail)
                  have HV6 := Go.Lib.hid (REls.app hown6)
                  have HB6 := Go.Lib.hid hb6
                  clear hown6 hgrow6 hb6 o6 c6 hb5 o5 c5 k5 hv5 hvL5 hvL
                  go_wp2
                  go_roundw
                  case rel => exact ⟨k + 1, L ++ pe, by omega, by go_num, HV6.out, by have := HPL.out; rw [List.length_append]; omega, HLN, HB6.out⟩
                  case measure => simp [RowKit.intOf]; omega
              · have hj0 : 0 < j := by omega
                obtain ⟨kj, hkj⟩ : ∃ kj, kj = k + j := ⟨_, rfl⟩
                rw [← hkj] at hjl ⊢
                have q1 : ¬ (kj : Int) < (P.length : Int) := by omega
                have q5 : (k : Int) < (kj : Int) := by omega
                have q6 : (kj : Int) ≤ (cap : Int) := by omega
                have q7 : (k : Int) ≤ (kj : Int) := by omega
                have q8 : kj - k = j := by omega
                have q9 : kj ≤ P.length := by omega
                have HKJ := Go.Lib.hid hkj
                clear hkj
                have HTL := Go.Lib.hid (show ((P.drop k).take j).length = j by rw [List.length_take, List.length_drop]; omega)
                have HLN := Go.Lib.hid (HL.out.trans (by rw [elems_num rfl (by rw [HD.out]; exact hj0), HD.out, ← List.append_assoc, List.drop_drop]))
                have hdd : ∀ c ∈ (P.drop k).take j, dig c = true := by rw [← HD.out]; exact dig_take _
                have hio : IntsO wr (.slice (some ⟨g, k, none⟩) j (cap - k)) ((P.drop k).take j) := ⟨g, k, cap - k, by rw [HTL.out], Nat.lt_of_lt_of_le hgp hsk, by rw [HTL.out]; omega, by omega, fun i hi => by rw [List.getElem_take, List.getElem_drop]; exact (hbk.cell (p := ⟨g, k + i, none⟩) hgp).trans (hc (k + i) (by rw [HTL.out] at hi; omega))⟩
                have cN := fun w' => rnumber_any w' (vd := .slice (some ⟨g, k, none⟩) j (cap - k)) (P := (P.drop k).take j)
                have HN := Go.Lib.hid (show Calls Try.prog 37 #[.slice (some ⟨g, k, none⟩) j (cap - k)] wr (RElR (numE ((P.drop k).take j)) wr) from cN wr hio hdd (by rw [HTL.out]; omega) (by rw [HTL.out]; exact hj0))
                have HNL := Go.Lib.hid (show (numE ((P.drop k).take j)).length ≤ j + 1 by have := numE_len (Q := (P.drop k).take j); rw [HTL.out] at this; exact this)
                have HNP := Go.Lib.hid (numE_pos ((P.drop k).take j))
                clear cN hio hdd
                generalize numE ((P.drop k).take j) = ne at *
                go_wp2_with (first
                  | (go_at_call 37; (with_reducible refine (HN.out).mono ?_); rintro e w5 ⟨v5, rfl, hv5, k5⟩; have hvL5 := REls.below hvL k5; obtain ⟨g5, cap5, hve, hn5⟩ := hv5.news HNP.out; subst hve)
                  | (at_builtin; go_loud (refine wpList_append_own _ rfl _ _ 32 rfl W0.heap.size 38 i0 _ 3 24 Try.underlying32 hi hz0 hz1 hz2 rfl (by decide) _ _ _ rfl hvL5 ⟨g5, 0, none⟩ ne.length cap5 (elsC ne) rfl (elsC_len ne) hn5 (elsC_one ne) (by unfold maxLen; have := HNL.out; omega) (by have := HNL.out; omega) (Nat.le_trans hsk k5.size) ?_; intro v6 w6 hown6 hgrow6 _)))
                have HV6 := Go.Lib.hid (REls.app hown6)
                have hb6 : Below W0.heap.size W0 w6 := (hbk.trans (k5.mono hsk)).grown hgrow6 (Nat.le_trans hsk k5.size) (fun j e => (World.ownsRow.lt (show World.ownsRow _ _ _ _ _ _ _ from hvL5) j e).1)
                have HB6 := Go.Lib.hid hb6
                clear hown6 hgrow6 hb6 k5 hv5 hvL5 hvL hn5
                go_wp2
                go_roundw
                case rel => exact ⟨kj, L ++ ne, by omega, by go_num, HV6.out, by have := HNL.out; have := HKJ.out; rw [List.length_append]; omega, by rw [HKJ.out]; exact HLN, HB6.out⟩
                case measure => simp [RowKit.intOf]; omega
      · obtain rfl : k = P.length := by omega
        have i1 : ¬ (P.length : Int) < (P.length : Int) := by omega
        have HO := Go.Lib.hid (show L = elems nu (upN uf) ig P by have := HL.out; rw [List.drop_length, elems_nil, List.append_nil] at this; exact this.symm)
        have hE := REls.mono hvL (Nat.le_of_lt hlo)
        rw [HO.out] at hE
        have HE := Go.Lib.hid hE
        clear hE
        have HB := Go.Lib.hid (show Below w.heap.size w wr from hB0.trans (hbk.mono (Nat.le_of_lt hlo)))
        clear hvL
        go_wp2
        go_ret
        exact ⟨_, rfl, HE.out, HB.out⟩
end Go.Proofs.Ytknbglcmjggkjaa

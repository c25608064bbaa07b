/- Layer 22: groups of revisions by author: Group.with (53), maps of groups. -/
import Derived.Test.YtmpklkhjipclmaaVU
namespace Go.Proofs.Ytmpklkhjipclmaa
open Go.RowKit Go.Lib Go.Maps
set_option linter.unusedVariables false

structure Gp where
  author : ByteArray
  n : Int
  first : Int
  last : Int
deriving DecidableEq
abbrev gp0 : Gp := ⟨⟨#[]⟩, 0, 0, 0⟩
abbrev gpV (g : Gp) : Value := .agg #[.string g.author, .int .i64 g.n, .int .i64 g.first, .int .i64 g.last]
def withG (g : Gp) (x : Rv) : Gp := if g.n = 0 then ⟨x.author, 1, x.time, x.time⟩ else ⟨x.author, g.n + 1, min g.first x.time, max g.last x.time⟩
set_option maxRecDepth 100000 in
set_option maxHeartbeats 8000000 in
theorem with_any (g : Gp) (hg : 0 ≤ g.n ∧ g.n ≤ 1000) (x : Rv) (w : World) : Calls Try.prog 53 #[gpV g, rvV x] w fun e w' => e = .returned (gpV (withG g x)) ∧ Below w.heap.size w w' := by
  obtain ⟨ga, gn, gf, gl⟩ := g
  obtain ⟨xa, xs, xt⟩ := x
  dsimp only at hg
  have k3 := (((Below.refl w.heap.size w).alloc (Nat.le_refl _) (.cells #[.string ga, .int .i64 gn, .int .i64 gf, .int .i64 gl] 66)).alloc (by simp) (.cells #[.int .i64 xa, .string xs, .int .i64 xt] 23)).alloc (by simp; omega) (.cells #[.string ⟨#[]⟩, .int .i64 0, .int .i64 0, .int .i64 0] 66)
  have O1 := ((ObjAt.new w #[.string ga, .int .i64 gn, .int .i64 gf, .int .i64 gl] 66).alloc (.cells #[.int .i64 xa, .string xs, .int .i64 xt] 23)).alloc (.cells #[.string ⟨#[]⟩, .int .i64 0, .int .i64 0, .int .i64 0] 66)
  have O2 := (ObjAt.new (w.alloc (.cells #[.string ga, .int .i64 gn, .int .i64 gf, .int .i64 gl] 66)) #[.int .i64 xa, .string xs, .int .i64 xt] 23).alloc (.cells #[.string ⟨#[]⟩, .int .i64 0, .int .i64 0, .int .i64 0] 66)
  have O3 := ObjAt.new ((w.alloc (.cells #[.string ga, .int .i64 gn, .int .i64 gf, .int .i64 gl] 66)).alloc (.cells #[.int .i64 xa, .string xs, .int .i64 xt] 23)) #[.string ⟨#[]⟩, .int .i64 0, .int .i64 0, .int .i64 0] 66
  rw [World.size_alloc] at O2 O3
  rw [World.size_alloc] at O3
  generalize hW : ((w.alloc (.cells #[.string ga, .int .i64 gn, .int .i64 gf, .int .i64 gl] 66)).alloc (.cells #[.int .i64 xa, .string xs, .int .i64 xt] 23)).alloc (.cells #[.string ⟨#[]⟩, .int .i64 0, .int .i64 0, .int .i64 0] 66) = W at k3 O1 O2 O3
  have x0 := O1.get (k := 0) rfl
  have x1 := O1.get (k := 1) rfl
  have x2 := O1.get (k := 2) rfl
  have x3 := O1.get (k := 3) rfl
  have y0 := O2.b0
  have y1 := O2.b1
  have y2 := O2.b2
  have z0 := O3.get (k := 0) rfl
  have z1 := O3.get (k := 1) rfl
  have z2 := O3.get (k := 2) rfl
  have z3 := O3.get (k := 3) rfl
  have t0 := O3.frozen 0
  have t1 := O3.frozen 1
  have t2 := O3.frozen 2
  have t3 := O3.frozen 3
  have H3 := Lib.hid O3
  have K3 := Lib.hid k3
  by_cases h0 : gn = 0
  · subst h0
    have HE := Lib.hid (show withG ⟨ga, 0, gf, gl⟩ ⟨xa, xs, xt⟩ = ⟨xs, 1, xt, xt⟩ from rfl)
    have P3 := (((H3.out.set 0 (.string xs)).set 1 (.int .i64 1)).set 2 (.int .i64 xt)).set 3 (.int .i64 xt)
    have q0 := P3.get (k := 0) (v := .string xs) (by simp)
    have q1 := P3.get (k := 1) (v := .int .i64 1) (by simp)
    have q2 := P3.get (k := 2) (v := .int .i64 xt) (by simp)
    have q3 := P3.get (k := 3) (v := .int .i64 xt) (by simp)
    have KF := Lib.hid ((((K3.out.setCell (p := ⟨w.heap.size + 1 + 1, 0, none⟩) (by show w.heap.size ≤ w.heap.size + 1 + 1; omega) (.string xs)).setCell (p := ⟨w.heap.size + 1 + 1, 1, none⟩) (by show w.heap.size ≤ w.heap.size + 1 + 1; omega) (.int .i64 1)).setCell (p := ⟨w.heap.size + 1 + 1, 2, none⟩) (by show w.heap.size ≤ w.heap.size + 1 + 1; omega) (.int .i64 xt)).setCell (p := ⟨w.heap.size + 1 + 1, 3, none⟩) (by show w.heap.size ≤ w.heap.size + 1 + 1; omega) (.int .i64 xt))
    clear P3 O1 O2 O3 k3
    go_enter Try.func53, Try.ntmps53
    go_wp2
    exact bodyPost_ret (v := .agg #[.string xs, .int .i64 1, .int .i64 xt, .int .i64 xt]) (by simp [results, Try.results53, go_sem, q0, q1, q2, q3]) rfl ⟨by rw [HE.out], KF.out⟩
  · have h0' : (gn == 0) = false := neB h0
    have HE := Lib.hid (show withG ⟨ga, gn, gf, gl⟩ ⟨xa, xs, xt⟩ = ⟨xs, gn + 1, min gf xt, max gl xt⟩ from if_neg h0)
    have e1 : IntKind.i64.wrap (gn + 1) = gn + 1 := by rw [IntKind.wrap_i64]; omega
    have P3 := (((H3.out.set 0 (.string xs)).set 1 (.int .i64 (gn + 1))).set 2 (.int .i64 (min gf xt))).set 3 (.int .i64 (max gl xt))
    have q0 := P3.get (k := 0) (v := .string xs) (by simp)
    have q1 := P3.get (k := 1) (v := .int .i64 (gn + 1)) (by simp)
    have q2 := P3.get (k := 2) (v := .int .i64 (min gf xt)) (by simp)
    have q3 := P3.get (k := 3) (v := .int .i64 (max gl xt)) (by simp)
    have KF := Lib.hid ((((K3.out.setCell (p := ⟨w.heap.size + 1 + 1, 0, none⟩) (by show w.heap.size ≤ w.heap.size + 1 + 1; omega) (.string xs)).setCell (p := ⟨w.heap.size + 1 + 1, 1, none⟩) (by show w.heap.size ≤ w.heap.size + 1 + 1; omega) (.int .i64 (gn + 1))).setCell (p := ⟨w.heap.size + 1 + 1, 2, none⟩) (by show w.heap.size ≤ w.heap.size + 1 + 1; omega) (.int .i64 (min gf xt))).setCell (p := ⟨w.heap.size + 1 + 1, 3, none⟩) (by show w.heap.size ≤ w.heap.size + 1 + 1; omega) (.int .i64 (max gl xt)))
    clear P3 O1 O2 O3 k3 hg h0
    go_enter Try.func53, Try.ntmps53
    go_wp2
    exact bodyPost_ret (v := .agg #[.string xs, .int .i64 (gn + 1), .int .i64 (min gf xt), .int .i64 (max gl xt)]) (by simp [results, Try.results53, go_sem, q0, q1, q2, q3]) rfl ⟨by rw [HE.out], KF.out⟩
/-- How a group reads as an element of a map. -/
def gpElem : Value → Option (DataW Value × List MemPlace)
  | .agg c => some (.held (.agg c), [])
  | _ => none
def gpD (g : Gp) : DataW Value := .held (gpV g)
theorem gpElem_mk (g : Gp) : gpElem (gpV g) = some (gpD g, []) := rfl
theorem gpElem_inv {v : Value} {g : Gp} {ps : List MemPlace} (h : gpElem v = some (gpD g, ps)) : v = gpV g := by
  unfold gpElem at h
  split at h
  · injection h with h
    injection h with h _
    unfold gpD at h
    injection h
  · cases h
theorem zero66 (w : World) : (zeroValue 66).run Try.prog w = .ok (gpV gp0) w := Try.zeroValue66 w
/-- What an author has. -/
def grp (l : List Rv) (s : ByteArray) : Gp := (l.filter (fun x => decide (x.author = s))).foldl withG gp0
theorem grp_snoc (l : List Rv) (x : Rv) (s : ByteArray) : grp (l ++ [x]) s = if x.author = s then withG (grp l s) x else grp l s := by
  unfold grp
  rw [List.filter_append, List.foldl_append]
  by_cases h : x.author = s
  · rw [if_pos h, List.filter_cons_of_pos (by simpa using h)]; rfl
  · rw [if_neg h, List.filter_cons_of_neg (by simpa using h)]; rfl
/-- Groups by author, a map. -/
def GpM (w : World) (b n : Nat) (l : List Rv) : Prop := ∃ D : DataW Value, w.ownsMap Try.prog 9 gpElem b n D ∧
  (∀ a : ByteArray, a.size ≤ maxLen → has D (.string a.data.toList) = decide (a ∈ l.map (·.author)) ∧ D.atKey (.string a.data.toList) (gpD gp0) = gpD (grp l a))
theorem GpM.new (w : World) : GpM (w.alloc (.map #[] 0)) w.heap.size 0 [] := ⟨.map [], World.ownsMap_made w _ _ _, fun a _ => ⟨by simp [has], WideAt.atKey_none _ (by simp)⟩⟩
theorem GpM.look {w : World} {b n : Nat} {l : List Rv} (h : GpM w b n l) {a : ByteArray} (ha : a.size ≤ maxLen) : (Instr.lookup 86 (.map (some b)) (.string a) false).run Try.prog w = .ok (gpV (grp l a)) w := by
  obtain ⟨D, hD, hf⟩ := h
  obtain ⟨v, ps, hr, hv⟩ := hD.lookup (string_keyed Try.underlying9) Try.underlying86 (zero66 w) (gpElem_mk gp0) (key_s ha)
  rw [(hf a ha).2] at hv
  rw [gpElem_inv hv] at hr
  exact hr
theorem GpM.put {w : World} {b n : Nat} {l : List Rv} (h : GpM w b n l) (hn : n < maxLen) {x : Rv} (hx : x.author.size ≤ maxLen) :
    ∃ w', (Instr.mapUpdate 86 (.map (some b)) (.string x.author) (gpV (withG (grp l x.author) x))).run Try.prog w = .ok () w' ∧ GpM w' b (n + 1) (l ++ [x]) ∧ w.grownBy w' (some b) := by
  obtain ⟨D, hD, hf⟩ := h
  obtain ⟨w', h1, h2, h3⟩ := hD.update (string_keyed Try.underlying9) Try.underlying86 hn (key_s hx) (gpElem_mk (withG (grp l x.author) x))
  refine ⟨w', h1, ⟨_, h2, fun z hz => ?_⟩, h3⟩
  rw [grp_snoc]
  by_cases e : x.author = z
  · subst e
    constructor
    · rw [has_put_same hD.isMap ((string_keyed Try.underlying9).key (key_s hz))]
      simp
    · rw [atKey_put_same hD.isMap ((string_keyed Try.underlying9).key (key_s hz)), if_pos rfl]
  · have hne : (Lit.string z.data.toList) ≠ (Lit.string x.author.data.toList) := fun h => e (u8_inj (by simpa using h)).symm
    obtain ⟨g1, g2⟩ := hf z hz
    constructor
    · rw [has_put_other hne, g1, List.map_append]
      have e' : ¬ z = x.author := fun h => e h.symm
      simp [e']
    · rw [atKey_put_other hne, g2, if_neg e]
theorem GpM.kept {w w' : World} {b n : Nat} {l : List Rv} (h : GpM w b n l) {row : Option Nat} (hg : w.grownBy w' row) (hne : some b ≠ row) : GpM w' b n l := by
  obtain ⟨D, hD, hf⟩ := h
  exact ⟨D, hD.kept hg hne, hf⟩
theorem GpM.lt {w : World} {b n : Nat} {l : List Rv} (h : GpM w b n l) : b < w.heap.size := by obtain ⟨D, hD, _⟩ := h; exact hD.lt
theorem GpM.below {w w' : World} {b n : Nat} {l : List Rv} (h : GpM w b n l) {m : Nat} (hm : b < m) (hb : Below m w w') : GpM w' b n l := by
  obtain ⟨D, ⟨es, clock, h1, h2⟩, hf⟩ := h
  exact ⟨D, ⟨es, clock, (hb.block b hm).trans h1, h2⟩, hf⟩
end Go.Proofs.Ytmpklkhjipclmaa

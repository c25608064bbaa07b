/- Layer 3: the program's read: a string's points and clusters. -/
import Derived.Test.YthjooopppidcfaaDoorKb
import Derived.Test.YthjooopppidcfaaDoorMJ
import Derived.Test.YthjooopppidcfaaDoorMO
import Derived.Test.YthjooopppidcfaaDoorMM
namespace Go.Proofs.YthjooopppidcfaaDoor
open Go.RowKit Go.Shelf Go.Lib
open Gc

theorem Str.cp {s P bad} (h : Str s P bad) : Cp.Str s P bad := ⟨h.eq, h.pts, h.bad, by have := h.size; omega⟩

/-- The clusters: class, from, to. -/
def clu (P : List Nat) : List Span := (cls (cp P)).map fun x => (Sg.classOf ((P.getD x.1 0 : Nat) : Int), ((x.1 : Nat) : Int), ((x.2 : Nat) : Int))
theorem clu_len (P : List Nat) : (clu P).length = (cls (cp P)).length := by simp [clu]
theorem clu_cls (P : List Nat) : Cls (clu P) = segC P := by
  unfold Cls clu segC
  rw [List.map_map]; rfl
theorem clu_get (P : List Nat) (k : Nat) (h : k < (clu P).length) : (clu P)[k] = (Sg.classOf ((P.getD (cut P k) 0 : Nat) : Int), ((cut P k : Nat) : Int), ((cut P (k + 1) : Nat) : Int)) := by
  rw [clu_len] at h
  have h1 := cls_fst (cp P) k h
  have h2 := cls_snd (cp P) k h
  have e1 := cut_get P k (by rw [segC_len]; omega)
  have e2 := cut_get P (k + 1) (by rw [segC_len]; omega)
  have e : (clu P)[k]? = some (Sg.classOf ((P.getD ((cls (cp P))[k]).1 0 : Nat) : Int), ((((cls (cp P))[k]).1 : Nat) : Int), ((((cls (cp P))[k]).2 : Nat) : Int)) := by
    unfold clu
    rw [List.getElem?_map, List.getElem?_eq_getElem h]; rfl
  rw [List.getElem?_eq_getElem (by rw [clu_len]; exact h)] at e
  have e' := Option.some.inj e
  rw [e', h1, h2, ← e1, ← e2]
theorem cut_in (P : List Nat) (k : Nat) (h : k < (clu P).length) : cut P k < P.length := by
  rw [clu_len] at h
  have h1 := cut_lt P k (segC P).length (by rw [segC_len]; exact h) (Nat.le_refl _)
  rw [cut_end] at h1; exact h1
theorem clu_le (P : List Nat) : (clu P).length ≤ P.length := by
  rw [clu_len]
  have := bnd_length_le (cp P)
  rw [cp_len] at this; exact this
theorem bl_get (P : List Nat) (k : Nat) (h : k < (bl (cls (cp P))).length) : (bl (cls (cp P)))[k] = ((cut P k : Nat) : Int) := by
  have hk : k ≤ (segC P).length := by rw [segC_len]; rw [bl_len] at h; omega
  rw [cut_get P k hk]
  simp only [bl_bnd, List.getElem_map]

def rowL (C : List Span) : List Value := C.flatMap fun s => [.int .i64 s.1, .int .i64 s.2.1, .int .i64 s.2.2]
theorem rowL_snoc (C : List Span) (s : Span) : rowL (C ++ [s]) = rowL C ++ [.int .i64 s.1, .int .i64 s.2.1, .int .i64 s.2.2] := by simp [rowL]
theorem rowL_len (C : List Span) : (rowL C).length = C.length * 3 := by
  induction C with
  | nil => rfl
  | cons a C ih => simp [rowL, Nat.add_mul] at *; omega
theorem rowL_get (C : List Span) (k : Nat) (h : k < C.length) (j : Nat) (hj : j < 3) : (rowL C)[k * 3 + j]? = [Value.int .i64 C[k].1, .int .i64 C[k].2.1, .int .i64 C[k].2.2][j]? := by
  have := rowOf_get C k h j hj
  rw [← this]
  show (rowL C)[k * 3 + j]? = ((rowL C).toArray)[k * 3 + j]?
  rw [List.getElem?_toArray]

theorem cell_new3 (w : World) (a b c : Value) (t : TypeId) : ∀ j u, [a, b, c][j]? = some u → (w.alloc (.cells #[a, b, c] t)).cell? ((⟨w.heap.size, 0, none⟩ : Addr).add j) = some u := by
  intro j u hj
  match j, hj with
  | 0, hj => simp at hj; subst hj; simp [Addr.add]
  | 1, hj => simp at hj; subst hj; simp [Addr.add]
  | 2, hj => simp at hj; subst hj; simp [Addr.add]

/-- A row of clusters, as an object. -/
def CObj (w : World) (cv : Value) (C : List Span) : Prop := ∃ g cap cur, cv = .slice (some ⟨g, 0, none⟩) C.length cap ∧ w.heap[g]? = some (.cells cur 93 (0, 0)) ∧ Row w g C
theorem cobj_of {w : World} {base : Nat} {v : Value} {C : List Span} (h : w.ownsRow base 93 3 v C.length (rowL C)) (hne : v ≠ .slice none 0 0) : CObj w v C := by
  have h2 := h
  rcases h.2 with ⟨hv, _⟩ | ⟨g, cap, cur, hv, hb, hg, _⟩
  · exact absurd hv hne
  · subst hv
    refine ⟨g, cap, cur, rfl, hg, (Array.getElem?_eq_some_iff.1 hg).1, fun k hk => ?_⟩
    have e0 := rowL_get C k hk 0 (by decide)
    have e1 := rowL_get C k hk 1 (by decide)
    have e2 := rowL_get C k hk 2 (by decide)
    simp only [Nat.add_zero, List.getElem?_cons_zero, List.getElem?_cons_succ] at e0 e1 e2
    have hl := rowL_len C
    refine ⟨?_, ?_, ?_⟩
    · rw [h2.cellAt (k * 3) (by omega)]; exact e0
    · rw [h2.cellAt (k * 3 + 1) (by omega)]; exact e1
    · rw [h2.cellAt (k * 3 + 2) (by omega)]; exact e2
theorem CObj.below {w w' : World} {cv : Value} {C : List Span} (h : CObj w cv C) (hb : Below w.heap.size w w') : CObj w' cv C := by
  obtain ⟨g, cap, cur, h1, h2, h3⟩ := h
  exact ⟨g, cap, cur, h1, (hb.block g h3.1).trans h2, h3.below hb h3.1⟩

/-- A string's code points in memory: the slice's address. -/
def PAt (w : World) (A : Option Addr) (P : List Nat) : Prop := P = [] ∨ ∃ g, A = some ⟨g, 0, none⟩ ∧ g < w.heap.size ∧ ∀ j (h : j < P.length), w.cell? ⟨g, j, none⟩ = some (.int .i64 ((P[j] : Nat) : Int))
theorem PAt.below {w w' : World} {A : Option Addr} {P : List Nat} (h : PAt w A P) {n : Nat} (hb : Below n w w') (hn : w.heap.size ≤ n) : PAt w' A P := by
  rcases h with h | ⟨g, h1, h2, h3⟩
  · exact .inl h
  · exact .inr ⟨g, h1, Nat.lt_of_lt_of_le h2 hb.size, fun j hj => (hb.cell (p := ⟨g, j, none⟩) (Nat.lt_of_lt_of_le h2 hn)).trans (h3 j hj)⟩
theorem pat_of {w : World} {v : Value} {P : List Nat} (h : Cp.IntsAt w v P) : ∃ A c, v = .slice A P.length c ∧ PAt w A P := by
  rcases h with ⟨rfl, rfl⟩ | ⟨g, cap, rfl, hg, hc⟩
  · exact ⟨none, 0, rfl, .inl rfl⟩
  · exact ⟨_, _, rfl, .inr ⟨g, rfl, hg, hc⟩⟩
/-- What read hands back. -/
def ReadRet (P : List Nat) (w : World) (e : Ending) (w' : World) : Prop :=
  ∃ A pc cv, e = .returned (.tuple #[.agg #[.slice A P.length pc, cv], .int .i64 0]) ∧ PAt w' A P ∧ CObj w' cv (clu P) ∧ Below w.heap.size w w'
theorem info93 : (Tryd.prog.info? 93).map (fun i => (i.zero, i.size, i.bytes)) = some (some (.agg #[.int .i64 0, .int .i64 0, .int .i64 0]), 3, 24) := by kernel_rfl

set_option maxRecDepth 100000 in
set_option maxHeartbeats 2000000 in
theorem read_bad {s P bad} (h : Str s P bad) (hb : bad ≠ []) (w : World) :
    Calls Tryd.prog 35 #[.string s] w fun e w' => e = .returned (.tuple #[.agg #[.slice none 0 0, .slice none 0 0], .int .i64 12]) ∧ Below w.heap.size w w' := by
  go_enter Tryd.func35, Tryd.ntmps35
  go_wp2_with (go_at_call 56; refine (Cp.points_no h.cp hb _).mono ?_; rintro e w1 ⟨rfl, rfl⟩)
  exact bodyPost_ret (v := .tuple #[.agg #[.slice none 0 0, .slice none 0 0], .int .i64 12]) (by simp [results, Tryd.results35, go_sem]) rfl ⟨rfl, (Below.refl _ _).alloc (Nat.le_refl _) _⟩
end Go.Proofs.YthjooopppidcfaaDoor

/- Layer 3: Tokens, whole. -/
import Derived.Test.YthjooopppidcfaaDoorKg
namespace Go.Proofs.YthjooopppidcfaaDoor
open Go.RowKit Go.Shelf Go.Lib
open Gc

theorem own_lower {w : World} {b b' : Nat} {e : TypeId} {s : Nat} {v : Value} {n : Nat} {xs : List Value} (h : w.ownsRow b e s v n xs) (hb : b' ≤ b) : w.ownsRow b' e s v n xs := by
  obtain ⟨h1, h2⟩ := h
  refine ⟨h1, ?_⟩
  rcases h2 with h2 | ⟨g, cap, cur, a1, a2, a3⟩
  · exact .inl h2
  · exact .inr ⟨g, cap, cur, a1, Nat.le_trans hb a2, a3⟩

set_option maxRecDepth 100000 in
theorem seq_any (pa : Option Addr) (pn pc : Nat) (ga : Option Addr) (gn gc : Nat) (w : World) :
    Calls Tryd.prog 37 #[.agg #[.slice pa pn pc, .slice ga gn gc]] w fun e w' => e = .returned (.func (.func 59) #[] #[.pointer (some ⟨w.heap.size, 0, none⟩)]) ∧ w' = w.alloc (.cells #[.slice pa pn pc, .slice ga gn gc] 71) := by
  go_enter Tryd.func37, Tryd.ntmps37
  go_wp2
  go_ret
  exact ⟨rfl, rfl⟩
set_option maxRecDepth 100000 in
theorem collect_any (Bs : Nat) (P : List Nat) (hP : P.length ≤ 1000) (w : World) (hT : TxtAt w Bs P) :
    Calls Tryd.prog 36 #[.func (.func 59) #[] #[.pointer (some ⟨Bs, 0, none⟩)]] w (TokList P w) := by
  have c := callsIn_wide.1 (appendSeq_in Bs P hP w hT)
  go_enter Tryd.func36, Tryd.ntmps36
  go_wp2_with (go_at_call 58; (with_reducible refine c.mono ?_); rintro e w1 ⟨v, rfl, ho, hb⟩; have HO := Go.Lib.hid ho; clear ho)
  go_ret
  exact ⟨v, rfl, HO.out, hb⟩

theorem Row.lt {w : World} {g : Nat} {l : List Span} (h : Row w g l) : g < w.heap.size := h.1
/-- Tokens in memory, read. -/
def TAt (w : World) (A : Option Addr) (l : List (Int × Nat × Nat)) : Prop := l = [] ∨ ∃ g, A = some ⟨g, 0, none⟩ ∧ g < w.heap.size ∧
  ∀ k (h : k < l.length), w.cell? ⟨g, k * 3, none⟩ = some (.int .i64 l[k].1) ∧ w.cell? ⟨g, k * 3 + 1, none⟩ = some (.int .i64 (l[k].2.1 : Nat)) ∧ w.cell? ⟨g, k * 3 + 2, none⟩ = some (.int .i64 (l[k].2.2 : Nat))
theorem TAt.below {w w' : World} {A : Option Addr} {l : List (Int × Nat × Nat)} (h : TAt w A l) {n : Nat} (hb : Below n w w') (hn : w.heap.size ≤ n) : TAt w' A l := by
  rcases h with h | ⟨g, h1, h2, h3⟩
  · exact .inl h
  · have hg := Nat.lt_of_lt_of_le h2 hn
    exact .inr ⟨g, h1, Nat.lt_of_lt_of_le h2 hb.size, fun k hk => ⟨(hb.cell (p := ⟨g, k * 3, none⟩) hg).trans (h3 k hk).1, (hb.cell (p := ⟨g, k * 3 + 1, none⟩) hg).trans (h3 k hk).2.1, (hb.cell (p := ⟨g, k * 3 + 2, none⟩) hg).trans (h3 k hk).2.2⟩⟩
theorem rowT_len (l : List (Int × Nat × Nat)) : (rowT l).length = l.length * 3 := by
  induction l with
  | nil => rfl
  | cons a l ih => simp [rowT, Nat.add_mul] at *; omega
theorem rowT_get (l : List (Int × Nat × Nat)) (k : Nat) (h : k < l.length) (j : Nat) (hj : j < 3) : (rowT l)[k * 3 + j]? = [Value.int .i64 l[k].1, .int .i64 (l[k].2.1 : Nat), .int .i64 (l[k].2.2 : Nat)][j]? := by
  have e : rowT l = rowL (l.map fun x => (x.1, ((x.2.1 : Nat) : Int), ((x.2.2 : Nat) : Int))) := by
    unfold rowT rowL
    rw [List.flatMap_map]
  rw [e, rowL_get _ k (by simpa using h) j hj, List.getElem_map]
theorem tat_of {w : World} {b : Nat} {v : Value} {l : List (Int × Nat × Nat)} (h : w.ownsRow b 34 3 v l.length (rowT l)) : ∃ A cap, v = .slice A l.length cap ∧ TAt w A l := by
  have h2 := h
  rcases h.2 with ⟨hv, h0⟩ | ⟨g, cap, cur, hv, hb, hg, _⟩
  · have : l = [] := List.eq_nil_of_length_eq_zero h0
    subst this
    exact ⟨none, 0, hv, .inl rfl⟩
  · subst hv
    refine ⟨_, cap, rfl, .inr ⟨g, rfl, (Array.getElem?_eq_some_iff.1 hg).1, fun k hk => ?_⟩⟩
    have e0 := rowT_get l k hk 0 (by decide)
    have e1 := rowT_get l k hk 1 (by decide)
    have e2 := rowT_get l k hk 2 (by decide)
    simp only [Nat.add_zero, List.getElem?_cons_zero, List.getElem?_cons_succ] at e0 e1 e2
    refine ⟨?_, ?_, ?_⟩
    · rw [h2.cellAt (k * 3) (by omega)]; exact e0
    · rw [h2.cellAt (k * 3 + 1) (by omega)]; exact e1
    · rw [h2.cellAt (k * 3 + 2) (by omega)]; exact e2

/-- What Tokens hands back. -/
def TokensRet (P : List Nat) (w : World) (e : Ending) (w' : World) : Prop := ∃ A cap, e = .returned (.tuple #[.slice A (utok P).length cap, .int .i64 0]) ∧ TAt w' A (utok P) ∧ Below w.heap.size w w'
def NoneRet (w : World) (e : Ending) (w' : World) : Prop := e = .returned (.tuple #[.slice none 0 0, .int .i64 12]) ∧ Below w.heap.size w w'

set_option maxRecDepth 100000 in
set_option maxHeartbeats 2000000 in
theorem tokens_bad {s P bad} (h : Str s P bad) (hb : bad ≠ []) (w : World) : Calls Tryd.prog 16 #[.string s] w (NoneRet w) := by
  go_enter Tryd.func16, Tryd.ntmps16
  go_wp2_with (go_at_call 35; refine (read_bad h hb _).mono ?_; rintro e w1 ⟨rfl, hb1⟩)
  go_ret2
  exact ⟨rfl, hb1.alloc hb1.size _⟩

theorem txt_new {w : World} {A : Option Addr} {pc g cap : Nat} {cur : Array Value} {P : List Nat} (hPA : PAt w A P) (ho : w.heap[g]? = some (.cells cur 93 (0, 0))) (hr : Row w g (clu P)) :
    TxtAt (w.alloc (.cells #[.slice A P.length pc, .slice (some ⟨g, 0, none⟩) (clu P).length cap] 71)) w.heap.size P :=
  ⟨A, pc, _, World.alloc_heap_new _ _, hPA.below ((Below.refl _ w).alloc (Nat.le_refl _) _) (Nat.le_refl _), CObj.below ⟨g, cap, cur, rfl, ho, hr⟩ ((Below.refl _ w).alloc (Nat.le_refl _) _)⟩

theorem txt_new2 {w : World} {A : Option Addr} {pc g cap : Nat} {cur : Array Value} {P : List Nat} (o : Obj) (hPA : PAt w A P) (ho : w.heap[g]? = some (.cells cur 93 (0, 0))) (hr : Row w g (clu P)) :
    TxtAt ((w.alloc o).alloc (.cells #[.slice A P.length pc, .slice (some ⟨g, 0, none⟩) (clu P).length cap] 71)) (w.heap.size + 1) P := by
  have hb : Below w.heap.size w (w.alloc o) := (Below.refl _ w).alloc (Nat.le_refl _) _
  have := txt_new (pc := pc) (cap := cap) (hPA.below hb (Nat.le_refl _)) ((hb.block g hr.1).trans ho) (hr.below hb hr.1)
  rw [World.size_alloc] at this
  exact this

set_option maxRecDepth 100000 in
set_option maxHeartbeats 2000000 in
theorem tokens_ok {s P} (h : Str s P []) (hP : P.length ≤ 1000) (w : World) (hT : Tabs w) : Calls Tryd.prog 16 #[.string s] w (TokensRet P w) := by
  have cR := read_ok h hP w hT
  have cC := fun Bs w' hT => collect_any Bs P hP w' hT
  clear hT
  go_enter Tryd.func16, Tryd.ntmps16
  go_wp2_with (first
    | (go_at_call 35; (with_reducible refine cR.mono ?_); rintro e w1 ⟨A, pc, cv, rfl, hPA, ⟨g, cap, cur, rfl, ho, hr⟩, hb1⟩; have PA := Go.Lib.hid hPA; have HO := Go.Lib.hid ho; have HR := Go.Lib.hid hr; clear hPA ho hr)
    | (go_at_call 37; refine (seq_any _ _ _ _ _ _ _).mono ?_; rintro e w2 ⟨rfl, rfl⟩)
    | (go_at_call 36; (with_reducible refine (cC _ _ (txt_new2 (pc := pc) (cap := cap) _ PA.out HO.out HR.out)).mono ?_); rintro e w3 ⟨v, rfl, hown, hb3⟩; have OW := Go.Lib.hid hown; clear hown))
  go_ret2
  obtain ⟨A', cap', rfl, hTA⟩ := tat_of OW.out
  exact ⟨A', cap', rfl, hTA, ((hb1.alloc hb1.size _).alloc (by have := hb1.size; simp; omega) _).trans (hb3.mono (by have := hb1.size; simp; omega))⟩
end Go.Proofs.YthjooopppidcfaaDoor

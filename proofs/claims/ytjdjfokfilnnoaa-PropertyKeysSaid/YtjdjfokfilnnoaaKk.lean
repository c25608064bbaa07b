/- Layer 7: the law of keys. -/
import Derived.Test.YtjdjfokfilnnoaaJ5
namespace Go.Proofs.Ytjdjfokfilnnoaa
open Go.RowKit Go.Lib

theorem preset_ok {r : Row} (h : r ∈ tabP) : valE r r.2.2.2.2.2 = 0 := by
  obtain ⟨k, hk, rfl⟩ := List.mem_iff_getElem.1 h
  have hall : ∀ i : Fin 45, valE (tabP[i.val]'i.isLt) (tabP[i.val]'i.isLt).2.2.2.2.2 = 0 := by decide +kernel
  exact hall ⟨k, hk⟩
theorem below6 {w w1 w2 w3 w4 w5 w6 w7 : World} {o : Obj} (h1 : Below w.heap.size w w1) (h2 : Below w1.heap.size w1 w2) (h3 : Below w2.heap.size w2 w3) (h4 : Below w3.heap.size w3 w4) (h5 : Below w4.heap.size w4 w5)
    (h6 : Below (w5.alloc o).heap.size (w5.alloc o) w6) (h7 : Below w6.heap.size w6 w7) : Below w.heap.size w w7 := by
  have a1 := h1.size
  have a2 := h2.size
  have a3 := h3.size
  have a4 := h4.size
  have a5 := h5.size
  have a6 := h6.size
  rw [World.size_alloc] at a6
  exact ((((((h1.trans (h2.mono (by omega))).trans (h3.mono (by omega))).trans (h4.mono (by omega))).trans (h5.mono (by omega))).alloc (by omega) o).trans (h6.mono (by rw [World.size_alloc]; omega))).trans (h7.mono (by omega))
set_option maxRecDepth 100000 in
set_option maxHeartbeats 8000000 in
theorem law_keys_no (p : Int) (hx : ¬ ∃ r ∈ tabP, r.1 = p) (w : World) : Calls Try.prog 3 #[.int .i64 p] w fun e w' => e = .returned (.bool true) ∧ Below w.heap.size w w' := by
  have cK := fun w' => known_any w'
  have c14 := fun w' => group_no p hx w'
  have c15 := fun w' => bounds_no p hx w'
  have c16 := fun w' => preset_no p hx w'
  have c17 := fun w' => name_no p hx w'
  have c18 := fun w' => of_no p hx w'
  clear hx
  go_enter Try.func3, Try.ntmps3
  go_wp2_with (first
    | (go_at_call 14; (with_reducible refine (c14 _).mono ?_); rintro e w1 ⟨rfl, hb1⟩)
    | (go_at_call 15; (with_reducible refine (c15 _).mono ?_); rintro e w2 ⟨rfl, hb2⟩)
    | (go_at_call 16; (with_reducible refine (c16 _).mono ?_); rintro e w3 ⟨rfl, hb3⟩)
    | (go_at_call 17; (with_reducible refine (c17 _).mono ?_); rintro e w4 ⟨rfl, hb4⟩)
    | (go_at_call 18; (with_reducible refine (c18 _).mono ?_); rintro e w5 ⟨rfl, hb5⟩)
    | (go_at_call 19; (with_reducible refine (cK _).mono ?_); rintro e w6 ⟨rfl, hb6⟩))
  go_ret
  exact ⟨ret_bool' (by simp), below6 hb1 hb2 hb3 hb4 hb5 hb6 (Below.refl _ _)⟩
set_option maxRecDepth 100000 in
set_option maxHeartbeats 8000000 in
theorem law_keys_yes (ra : Int) (rb : ByteArray) (rc rd re rf : Int) (hm : (ra, rb, rc, rd, re, rf) ∈ tabP) (w : World) : Calls Try.prog 3 #[.int .i64 ra] w fun e w' => e = .returned (.bool true) ∧ Below w.heap.size w w' := by
  have cK := fun w' => known_any w'
  have c14 := fun w' => group_row ra rb rc rd re rf hm w'
  have c15 := fun w' => bounds_row ra rb rc rd re rf hm w'
  have c16 := fun w' => preset_row ra rb rc rd re rf hm w'
  have c17 := fun w' => name_row ra rb rc rd re rf hm w'
  have c18 := fun w' => of_row ra rb rc rd re rf hm w'
  have c20 := fun w' => checkv_row ra rb rc rd re rf hm rf w'
  rw [preset_ok hm] at c20
  clear hm
  go_enter Try.func3, Try.ntmps3
  go_wp2_with (first
    | (go_at_call 14; (with_reducible refine (c14 _).mono ?_); rintro e w1 ⟨rfl, hb1⟩)
    | (go_at_call 15; (with_reducible refine (c15 _).mono ?_); rintro e w2 ⟨rfl, hb2⟩)
    | (go_at_call 16; (with_reducible refine (c16 _).mono ?_); rintro e w3 ⟨rfl, hb3⟩)
    | (go_at_call 17; (with_reducible refine (c17 _).mono ?_); rintro e w4 ⟨rfl, hb4⟩)
    | (go_at_call 18; (with_reducible refine (c18 _).mono ?_); rintro e w5 ⟨rfl, hb5⟩)
    | (go_at_call 20; (with_reducible refine (c20 _).mono ?_); rintro e w7 ⟨rfl, hb7⟩)
    | (go_at_call 19; (with_reducible refine (cK _).mono ?_); rintro e w6 ⟨rfl, hb6⟩; have o := (ObjAt.new w5 #[.int .i64 ra, .int .i64 rc, .int .i64 rd, .int .i64 re, .int .i64 rf, .string rb] 30).below hb6; have s1 := o.s1; have s2 := o.s2; have s3 := o.s3; have s4 := o.s4; have s5 := o.s5; clear o))
  go_ret
  exact ⟨ret_bool' (by simp), below6 hb1 hb2 hb3 hb4 hb5 hb6 hb7⟩
theorem law_keys (p : Int) (w : World) : Calls Try.prog 3 #[.int .i64 p] w fun e w' => e = .returned (.bool true) ∧ Below w.heap.size w w' := by
  by_cases hx : ∃ r ∈ tabP, r.1 = p
  · obtain ⟨⟨ra, rb, rc, rd, re, rf⟩, hm, rfl⟩ := hx
    exact law_keys_yes ra rb rc rd re rf hm w
  · exact law_keys_no p hx w
end Go.Proofs.Ytjdjfokfilnnoaa

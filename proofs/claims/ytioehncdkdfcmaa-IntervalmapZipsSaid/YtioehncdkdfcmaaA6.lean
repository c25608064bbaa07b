/- Layer 5: appendRun whole; New. -/
import Derived.Test.YtioehncdkdfcmaaA5
namespace Go.Proofs.Ytioehncdkdfcmaa
open Go.RowKit Go.Lib

/-- A range put behind runs (as in the plain texts). -/
def app (J : List Rn) (r : Rn) : List Rn :=
  if r.2.1 ≤ r.1 then J
  else match J.getLast? with
    | some l => if l.2.2 = r.2.2 then J.dropLast ++ [(l.1, r.2.1, l.2.2)] else J ++ [r]
    | none => J ++ [r]
/-- Runs of one's own, handed back. -/
def OwnR (base : Nat) (L : List Rn) (w : World) (e : Ending) (w' : World) : Prop := ∃ B n c, e = .returned (.slice B n c) ∧ w'.ownsRow base 34 3 (.slice B n c) n (rowR L) ∧ L.length = n ∧ Below base w w'
theorem append_any (base : Nat) (B : Option Addr) (n c : Nat) (L : List Rn) (r : Rn) (w : World) (hown : w.ownsRow base 34 3 (.slice B n c) n (rowR L)) (hL : L.length = n) (hb : base ≤ w.heap.size) (hn : n ≤ 2000000) :
    Calls Try.prog 48 #[.slice B n c, rnV r] w (OwnR base (app L r) w) := by
  unfold app
  by_cases hr : r.2.1 ≤ r.1
  · rw [if_pos hr]
    refine (append_skip B n c r w hr hn).mono ?_
    rintro e w' ⟨rfl, hb'⟩
    exact ⟨B, n, c, rfl, row_below hown hb', hL, hb'.mono hb⟩
  · rw [if_neg hr]
    rcases List.eq_nil_or_concat L with hE | ⟨L0, q, hE⟩
    · subst hE
      subst hL
      refine (append_new base B 0 c [] r w hown rfl hb (by omega) (fun k h => absurd h (Nat.not_lt_zero _)) (by omega)).mono ?_
      rintro e w' ⟨B', c', rfl, ho, hbl⟩
      exact ⟨B', 1, c', rfl, ho, rfl, hbl⟩
    · rw [List.concat_eq_append] at hE
      subst hE
      obtain rfl : n = L0.length + 1 := by rw [← hL]; simp
      simp only [List.getLast?_concat, List.dropLast_concat]
      by_cases hz : q.2.2 = r.2.2
      · rw [if_pos hz]
        obtain ⟨g, hB⟩ : ∃ g, B = some ⟨g, 0, none⟩ := by
          obtain ⟨g', cap', hv⟩ := ownsRow_succ hown
          exact ⟨g', by injection hv⟩
        subst hB
        obtain ⟨a, b, z⟩ := q
        obtain ⟨x, y, z'⟩ := r
        dsimp only at hz hr ⊢
        subst hz
        refine (append_join base g L0.length c L0 a b x y z w hown rfl hb (by omega) hn).mono ?_
        rintro e w' ⟨rfl, ho, hbl⟩
        exact ⟨_, _, c, rfl, ho, by simp, hbl⟩
      · rw [if_neg hz]
        refine (append_new base B (L0.length + 1) c (L0 ++ [q]) r w hown hL hb (by omega) (fun k h hk => ?_) hn).mono ?_
        · obtain rfl : k = L0.length := by omega
          rw [List.getElem_append_right (Nat.le_refl _)]
          simpa using hz
        · rintro e w' ⟨B', c', rfl, ho, hbl⟩
          exact ⟨B', _, c', rfl, ho, by simp, hbl⟩
/-- A map of one's own. -/
def MpOwn (w : World) (base b : Nat) (R : List Rn) : Prop := ∃ v, base ≤ b ∧ Boxed w b 84 v ∧ w.ownsRow base 34 3 v R.length (rowR R)
set_option maxRecDepth 100000 in
theorem new_bad (n v : Int) (w : World) (h : n < 0 ∨ 1048576 < n) : Calls Try.prog 33 #[.int .i64 n, .int .i64 v] w fun e w' => e = .returned (.tuple #[.pointer none, .int .i64 2]) ∧ Below w.heap.size w w' := by
  rcases h with h | h
  · go_enter Try.func33, Try.ntmps33
    go_wp2
    go_ret2
    exact ⟨rfl, Below.refl _ _⟩
  · have h0 : ¬ n < 0 := by omega
    go_enter Try.func33, Try.ntmps33
    go_wp2
    go_ret2
    exact ⟨rfl, Below.refl _ _⟩
set_option maxRecDepth 100000 in
set_option maxHeartbeats 4000000 in
theorem new_any (n v : Int) (w : World) (h : 0 ≤ n) (h' : n ≤ 1048576) : Calls Try.prog 33 #[.int .i64 n, .int .i64 v] w fun e w' => ∃ b, e = .returned (.tuple #[.pointer (some ⟨b, 0, none⟩), .int .i64 0]) ∧ MpOwn w' w.heap.size b (app [] (0, n, v)) ∧ Below w.heap.size w w' := by
  have cA := append_any w.heap.size none 0 0 [] (0, n, v) w (World.ownsRow_nil _ _ _ _) rfl (Nat.le_refl _) (by omega)
  unfold rnV at cA
  dsimp only at cA
  generalize app [] (0, n, v) = R at cA
  have h0 : ¬ n < 0 := by omega
  have h1 : ¬ 1048576 < n := by omega
  go_enter Try.func33, Try.ntmps33
  go_wp2_with (go_at_call 48; refine cA.mono ?_; rintro e w1 ⟨B, m, c, rfl, ho, hm, hb1⟩)
  go_ret2
  subst hm
  exact ⟨w1.heap.size, rfl, ⟨_, hb1.size, Boxed.new w1 84 _, ho.alloc _⟩, hb1.alloc hb1.size _⟩
end Go.Proofs.Ytioehncdkdfcmaa

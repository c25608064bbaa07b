/- Layer 23: tests; isIn; the closures of a verdict. -/
import Derived.Test.YtjhppkjngifibaaE3
import Derived.Test.YtjhppkjngifibaaE4
namespace Go.Proofs.Ytjhppkjngifibaa
open Go.RowKit Go.Lib
set_option linter.unusedVariables false

/-- The place of the first element that a test finds, or -1. -/
def fstQ {α : Type} (q : α → Bool) (l : List α) : Int := match l.findIdx? q with
  | some k => (k : Int)
  | none => -1
theorem fstQ_yes {α : Type} {q : α → Bool} {l : List α} {k : Nat} (h : k < l.length) (hp : q l[k] = true) (hn : ∀ j (h : j < l.length), j < k → q l[j] = false) : fstQ q l = (k : Int) := by
  have : l.findIdx? q = some k := by
    rw [List.findIdx?_eq_some_iff_getElem]
    exact ⟨h, hp, fun j hj => by rw [hn j (by omega) hj]; simp⟩
  unfold fstQ; rw [this]
theorem fstQ_no {α : Type} {q : α → Bool} {l : List α} (hn : ∀ j (h : j < l.length), q l[j] = false) : fstQ q l = -1 := by
  have : l.findIdx? q = none := by
    rw [List.findIdx?_eq_none_iff]
    intro x hx
    obtain ⟨j, hj, rfl⟩ := List.mem_iff_getElem.1 hx
    exact hn j hj
  unfold fstQ; rw [this]
theorem fstQ_or {α : Type} (q : α → Bool) (l : List α) : (∃ (k : Nat) (h : k < l.length), fstQ q l = (k : Int) ∧ q l[k] = true ∧ ∀ j (h : j < l.length), j < k → q l[j] = false) ∨ (fstQ q l = -1 ∧ ∀ j (h : j < l.length), q l[j] = false) := by
  cases h : l.findIdx? q with
  | some k =>
    obtain ⟨hk, hp, hn⟩ := List.findIdx?_eq_some_iff_getElem.1 h
    have hn' : ∀ j (hj : j < l.length), j < k → q l[j] = false := fun j hj hl => by have := hn j hl; simpa using this
    exact .inl ⟨k, hk, fstQ_yes hk hp hn', hp, hn'⟩
  | none =>
    have hn : ∀ j (hj : j < l.length), q l[j] = false := fun j hj => List.findIdx?_eq_none_iff.1 h _ (List.getElem_mem hj)
    exact .inr ⟨fstQ_no hn, hn⟩
theorem fstQ_any {α : Type} (q : α → Bool) (l : List α) : decide (0 ≤ fstQ q l) = l.any q := by
  rcases fstQ_or q l with ⟨k, hk, hf, hp, _⟩ | ⟨hf, hn⟩
  · rw [hf, decide_eq_true (by omega)]
    symm
    rw [List.any_eq_true]
    exact ⟨l[k], List.getElem_mem hk, hp⟩
  · rw [hf, decide_eq_false (by decide)]
    symm
    rw [List.any_eq_false]
    intro x hx
    obtain ⟨j, hj, rfl⟩ := List.mem_iff_getElem.1 hx
    rw [hn j hj]; decide
def BeforeQ {α : Type} (q : α → Bool) (l : List α) (k : Nat) : Prop := ∀ j (h : j < l.length), j < k → q l[j] = false
theorem BeforeQ.zero {α : Type} (q : α → Bool) (l : List α) : BeforeQ q l 0 := fun j _ h => absurd h (Nat.not_lt_zero _)
theorem BeforeQ.succ {α : Type} {q : α → Bool} {l : List α} {k : Nat} (h : BeforeQ q l k) (hk : k < l.length) (hp : q l[k] = false) : BeforeQ q l (k + 1) := fun j hj hl => if e : j = k then by subst e; exact hp else h j hj (by omega)
/-- A test of numbers by a function value. -/
structure TestN (g : Nat) (cb : Array Value) (f : Int → Bool) (B : Nat) (w : World) : Prop where
  en : ∀ args w, (callFunc g args).run Try.prog w = .ok (.enter g args) w
  run : ∀ (n : Int) (w' : World), Below B w w' → Calls Try.prog g (#[.int .i64 n] ++ cb) w' fun e w'' => e = .returned (.bool (f n)) ∧ Below w'.heap.size w' w''
theorem TestN.later {g : Nat} {cb : Array Value} {f : Int → Bool} {B B' : Nat} {w w1 : World} (h : TestN g cb f B w) (hb : Below B w w1) (hB : B ≤ B') : TestN g cb f B' w1 :=
  ⟨h.en, fun n w' h' => h.run n w' (hb.trans (h'.mono hB))⟩
/-- A test of deletions by a function value. -/
structure TestD (g : Nat) (cb : Array Value) (f : Dl → Bool) (B : Nat) (w : World) : Prop where
  en : ∀ args w, (callFunc g args).run Try.prog w = .ok (.enter g args) w
  run : ∀ (x y : Int) (w' : World), Below B w w' → Calls Try.prog g (#[.agg #[.int .i64 x, .int .i64 y]] ++ cb) w' fun e w'' => e = .returned (.bool (f ⟨x, y⟩)) ∧ Below w'.heap.size w' w''
theorem TestD.later {g : Nat} {cb : Array Value} {f : Dl → Bool} {B B' : Nat} {w w1 : World} (h : TestD g cb f B w) (hb : Below B w w1) (hB : B ≤ B') : TestD g cb f B' w1 :=
  ⟨h.en, fun x y w' h' => h.run x y w' (hb.trans (h'.mono hB))⟩
theorem en61 : ∀ args w, (callFunc 61 args).run Try.prog w = .ok (.enter 61 args) w := enters_of Try.func61 (by kernel_rfl) rfl
theorem en60 : ∀ args w, (callFunc 60 args).run Try.prog w = .ok (.enter 60 args) w := enters_of Try.func60 (by kernel_rfl) rfl
theorem en78 : ∀ args w, (callFunc 78 args).run Try.prog w = .ok (.enter 78 args) w := enters_of Try.func78 (by kernel_rfl) rfl
theorem en83 : ∀ args w, (callFunc 83 args).run Try.prog w = .ok (.enter 83 args) w := enters_of Try.func83 (by kernel_rfl) rfl
theorem en106 : ∀ args w, (callFunc 106 args).run Try.prog w = .ok (.enter 106 args) w := enters_of Try.func106 (by kernel_rfl) rfl
theorem test_always (B : Nat) (w : World) : TestN 61 #[] (fun _ => true) B w := ⟨en61, fun n w' _ => (always_any n w').mono fun e w'' h => And.intro h.1 ( by rw [← h.2]; exact Below.refl _ _)⟩
theorem test_never (B : Nat) (w : World) : TestN 60 #[] (fun _ => false) B w := ⟨en60, fun n w' _ => (never_any n w').mono fun e w'' h => And.intro h.1 ( by rw [← h.2]; exact Below.refl _ _)⟩
set_option maxRecDepth 100000 in
set_option maxHeartbeats 4000000 in
/-- Whether a number is in an increasing list: isIn's function. -/
theorem isin_any (l : List Int) (n : Nat) (hn : l.length = n) (hs : l.Pairwise (· < ·)) (h1000 : n ≤ 1000) (A : Option Addr) (c : Nat) (b1 : Nat) (x : Int) (w : World) (hA : NsAt w A l) (h1 : w.cell? ⟨b1, 0, none⟩ = some (.slice A n c)) :
    Calls Try.prog 78 #[.int .i64 x, .pointer (some ⟨b1, 0, none⟩)] w fun e w' => e = .returned (.bool (decide (x ∈ l))) ∧ Below w.heap.size w w' := by
  have cS := fun w' (hA : NsAt w' A l) => searchI_any l (upK_of_lt hs) A c x w' (by rw [hn]; exact h1000) hA
  rw [hn] at cS
  have HS := Lib.hid hs
  have HN := Lib.hid hn
  clear hs hn
  go_enter Try.func78, Try.ntmps78
  go_wp2_with (go_at_call 79; (with_reducible refine (cS _ hA).mono ?_); rintro e w1 ⟨i, PT, hb1, rfl⟩; have P := Go.Lib.hid PT; clear PT)
  go_ret
  obtain ⟨h1, h2, h3⟩ := P.out
  refine ⟨congrArg (fun b => Ending.returned (.bool b)) (decide_eq_decide.2 ⟨fun ⟨h, e⟩ => by rw [← e]; exact List.getElem_mem h, fun hx => ?_⟩), hb1⟩
  obtain ⟨k, hk, e⟩ := List.mem_iff_getElem.1 hx
  have hik : ¬ k < i := fun h => by have := h2 k hk h; omega
  have hil : i < l.length := by omega
  have h4 := upK_of_lt HS.out i k hil hk (by omega)
  have h5 := h3 i hil (Nat.le_refl _)
  exact ⟨hil, by omega⟩
theorem test_isin (l : List Int) (n : Nat) (hn : l.length = n) (hs : l.Pairwise (· < ·)) (h1000 : n ≤ 1000) (A : Option Addr) (c b1 : Nat) (w : World) (hA : NsAt w A l) (h1 : w.cell? ⟨b1, 0, none⟩ = some (.slice A n c)) :
    TestN 78 #[.pointer (some ⟨b1, 0, none⟩)] (fun x => decide (x ∈ l)) w.heap.size w :=
  ⟨en78, fun x w' hb => isin_any l n hn hs h1000 A c b1 x w' (hA.below hb (Nat.le_refl _)) ((hb.cell (p := ⟨b1, 0, none⟩) (World.block_lt_of_cell? w ⟨b1, 0, none⟩ h1)).trans h1)⟩
set_option maxRecDepth 100000 in
set_option maxHeartbeats 4000000 in
theorem f83_any (g : Nat) (cb : Array Value) (f : Int → Bool) (B vb : Nat) (x y : Int) (w : World) (hB : B ≤ w.heap.size) (hT : TestN g cb f B w) (h1 : w.cell? ⟨vb, 1, none⟩ = some (.func (.func g) #[] cb)) :
    Calls Try.prog 83 #[.agg #[.int .i64 x, .int .i64 y], .pointer (some ⟨vb, 0, none⟩)] w fun e w' => e = .returned (.bool (f x)) ∧ Below w.heap.size w w' := by
  have b0 := (Below.refl w.heap.size w).alloc (Nat.le_refl _) (.cells #[.int .i64 x, .int .i64 y] 59)
  have cT := hT.run x (w.alloc (.cells #[.int .i64 x, .int .i64 y] 59)) (b0.mono hB)
  have hv := World.block_lt_of_cell? w ⟨vb, 1, none⟩ h1
  have z1 := (b0.cell (p := ⟨vb, 1, none⟩) hv).trans h1
  have eg := hT.en
  have s0 := b0.size
  have HB := Lib.hid b0
  clear b0 hT h1
  go_enter Try.func83, Try.ntmps83
  go_wp2_with (go_at_fn g; (with_reducible refine cT.mono ?_); rintro e w1 ⟨rfl, hb1⟩; have K1 := Lib.hid (HB.out.trans (hb1.mono s0)))
  go_ret
  exact ⟨rfl, K1.out⟩
theorem test_f83 (g : Nat) (cb : Array Value) (f : Int → Bool) (vb : Nat) (w : World) (hT : TestN g cb f w.heap.size w) (h1 : w.cell? ⟨vb, 1, none⟩ = some (.func (.func g) #[] cb)) :
    TestD 83 #[.pointer (some ⟨vb, 0, none⟩)] (fun d => f d.rev) w.heap.size w :=
  ⟨en83, fun x y w' hb => f83_any g cb f w'.heap.size vb x y w' (Nat.le_refl _) (hT.later hb hb.size) ((hb.cell (p := ⟨vb, 1, none⟩) (World.block_lt_of_cell? w ⟨vb, 1, none⟩ h1)).trans h1)⟩
set_option maxRecDepth 100000 in
set_option maxHeartbeats 4000000 in
theorem f106_any (g : Nat) (cb : Array Value) (f : Int → Bool) (B vb : Nat) (x y : Int) (w : World) (hB : B ≤ w.heap.size) (hT : TestN g cb f B w) (h1 : w.cell? ⟨vb, 0, none⟩ = some (.func (.func g) #[] cb)) :
    Calls Try.prog 106 #[.agg #[.int .i64 x, .int .i64 y], .pointer (some ⟨vb, 0, none⟩)] w fun e w' => e = .returned (.bool (f x)) ∧ Below w.heap.size w w' := by
  have b0 := (Below.refl w.heap.size w).alloc (Nat.le_refl _) (.cells #[.int .i64 x, .int .i64 y] 59)
  have cT := hT.run x (w.alloc (.cells #[.int .i64 x, .int .i64 y] 59)) (b0.mono hB)
  have hv := World.block_lt_of_cell? w ⟨vb, 0, none⟩ h1
  have z1 := (b0.cell (p := ⟨vb, 0, none⟩) hv).trans h1
  have eg := hT.en
  have s0 := b0.size
  have HB := Lib.hid b0
  clear b0 hT h1
  go_enter Try.func106, Try.ntmps106
  go_wp2_with (go_at_fn g; (with_reducible refine cT.mono ?_); rintro e w1 ⟨rfl, hb1⟩; have K1 := Lib.hid (HB.out.trans (hb1.mono s0)))
  go_ret
  exact ⟨rfl, K1.out⟩
theorem test_f106 (g : Nat) (cb : Array Value) (f : Int → Bool) (vb : Nat) (w : World) (hT : TestN g cb f w.heap.size w) (h1 : w.cell? ⟨vb, 0, none⟩ = some (.func (.func g) #[] cb)) :
    TestD 106 #[.pointer (some ⟨vb, 0, none⟩)] (fun d => f d.rev) w.heap.size w :=
  ⟨en106, fun x y w' hb => f106_any g cb f w'.heap.size vb x y w' (Nat.le_refl _) (hT.later hb hb.size) ((hb.cell (p := ⟨vb, 0, none⟩) (World.block_lt_of_cell? w ⟨vb, 0, none⟩ h1)).trans h1)⟩
end Go.Proofs.Ytjhppkjngifibaa

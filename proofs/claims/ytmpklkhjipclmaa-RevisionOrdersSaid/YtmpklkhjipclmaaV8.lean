/- Layer 22: the conditions of a filter: closures (65, 66, 67, 69, 80, 82, 83), oneOf (64, 68), and (63), condition (46). -/
import Derived.Test.YtmpklkhjipclmaaV6
import Derived.Test.YtmpklkhjipclmaaV7
import Derived.Deep.RegionHeld3
import Derived.StillTailTactics
import Derived.Deep.RegionLaw
import Derived.Deep.QuietTactic
import Derived.Deep.RegionWith
namespace Go.Proofs.Ytmpklkhjipclmaa
open Go.RowKit Go.Lib
set_option linter.unusedVariables false

/-- A world below which W is as it was. -/
structure Bw (W : World) where
  w : World
  h : Below W.heap.size W w
instance bwInh (W : World) : Inhabited (Bw W) := ⟨⟨W, Below.refl _ _⟩⟩
theorem bw_of {W : World} {f : FuncId} {args : Array Value} {v : Value} (h : ∀ p : Bw W, Calls Try.prog f args p.w fun e w' => e = .returned v ∧ Below p.w.heap.size p.w w') (p : Bw W) :
    Calls Try.prog f args p.w fun e w'' => e = .returned v ∧ ∃ p' : Bw W, w'' = p'.w :=
  (h p).mono fun _ w'' ⟨he, hb⟩ => ⟨he, ⟨w'', p.h.trans (hb.mono p.h.size)⟩, rfl⟩
theorem wp_region_bw {id : Nat} {Q : Exit → Act → World → Prop} {a : Act} {W w : World} {l : List Oper} (hm : Try.prog.follows .mixedOrders = true) (hB : Region.lexB .any l.toArray = true) (hw : Below W.heap.size W w)
    (h : wpQuiet Try.prog l.toArray (fun w' => ∃ p : Bw W, w' = p.w) (fun a' => ∀ w', (∃ p : Bw W, w' = p.w) → Q .normal a' w') l a) : (Code.region id l.toArray true).wp Try.prog Q a w :=
  wp_region_quiet (C := fun w' => ∃ p : Bw W, w' = p.w) hm hB ⟨⟨w.drew, hw.drew⟩, rfl⟩ (by simpa using h)
set_option maxRecDepth 100000 in
theorem f65_any (x : Rv) (w : World) : Calls Try.prog 65 #[rvV x] w fun e w' => e = .returned (.string x.author) ∧ Below w.heap.size w w' := by
  have hb := Lib.hid ((Below.refl w.heap.size w).alloc (Nat.le_refl _) (.cells #[.int .i64 x.id, .string x.author, .int .i64 x.time] 23))
  go_enter Try.func65, Try.ntmps65
  go_wp2
  go_ret
  exact ⟨rfl, hb.out⟩
set_option maxRecDepth 100000 in
theorem f69_any (x : Rv) (w : World) : Calls Try.prog 69 #[rvV x] w fun e w' => e = .returned (.int .i64 x.id) ∧ Below w.heap.size w w' := by
  have hb := Lib.hid ((Below.refl w.heap.size w).alloc (Nat.le_refl _) (.cells #[.int .i64 x.id, .string x.author, .int .i64 x.time] 23))
  go_enter Try.func69, Try.ntmps69
  go_wp2
  go_ret
  exact ⟨rfl, hb.out⟩
set_option maxRecDepth 100000 in
set_option maxHeartbeats 4000000 in
theorem f66_any (x : Rv) (fb : Nat) (fr : Int) (w : World) (h1 : w.cell? ⟨fb, 1, none⟩ = some (.int .i64 fr)) : Calls Try.prog 66 #[rvV x, .pointer (some ⟨fb, 0, none⟩)] w fun e w' => e = .returned (.bool (decide (fr ≤ x.time))) ∧ Below w.heap.size w w' := by
  have hf : fb < w.heap.size := World.block_lt_of_cell? w ⟨fb, 1, none⟩ h1
  have b0 := (Below.refl w.heap.size w).alloc (Nat.le_refl _) (.cells #[.int .i64 x.id, .string x.author, .int .i64 x.time] 23)
  have z1 := (b0.cell (p := ⟨fb, 1, none⟩) hf).trans h1
  have hb := Lib.hid b0
  clear b0 h1
  by_cases h : fr ≤ x.time
  · rw [decide_eq_true h]
    go_enter Try.func66, Try.ntmps66
    go_wp2
    go_ret
    exact ⟨rfl, hb.out⟩
  · rw [decide_eq_false h]
    go_enter Try.func66, Try.ntmps66
    go_wp2
    go_ret
    exact ⟨rfl, hb.out⟩
set_option maxRecDepth 100000 in
set_option maxHeartbeats 4000000 in
theorem f67_any (x : Rv) (fb : Nat) (t : Int) (w : World) (h1 : w.cell? ⟨fb, 2, none⟩ = some (.int .i64 t)) : Calls Try.prog 67 #[rvV x, .pointer (some ⟨fb, 0, none⟩)] w fun e w' => e = .returned (.bool (t == 0 || decide (x.time ≤ t))) ∧ Below w.heap.size w w' := by
  have hf : fb < w.heap.size := World.block_lt_of_cell? w ⟨fb, 2, none⟩ h1
  have b0 := (Below.refl w.heap.size w).alloc (Nat.le_refl _) (.cells #[.int .i64 x.id, .string x.author, .int .i64 x.time] 23)
  have z1 := (b0.cell (p := ⟨fb, 2, none⟩) hf).trans h1
  have hb := Lib.hid b0
  clear b0 h1
  by_cases h0 : (t == 0) = true
  · rw [h0]
    go_enter Try.func67, Try.ntmps67
    go_wp2
    go_ret
    exact ⟨rfl, hb.out⟩
  have h0' : (t == 0) = false := by simpa using h0
  rw [h0']
  clear h0
  by_cases h : x.time ≤ t
  · rw [decide_eq_true h]
    go_enter Try.func67, Try.ntmps67
    go_wp2
    go_ret
    exact ⟨rfl, hb.out⟩
  · rw [decide_eq_false h]
    go_enter Try.func67, Try.ntmps67
    go_wp2
    go_ret
    exact ⟨rfl, hb.out⟩

attribute [local irreducible] wpQuiet in
set_option maxRecDepth 100000 in
set_option maxHeartbeats 8000000 in
theorem ones_any (x : Rv) (hx : x.author.size ≤ maxLen) (l : List ByteArray) (pb fb b n : Nat) (w : World) (h1 : w.cell? ⟨pb, 0, none⟩ = some (.map (some b))) (h2 : w.cell? ⟨fb, 0, none⟩ = some (.func (.func 65) #[] #[])) (hS : SetS w b n l) :
    Calls Try.prog 82 #[rvV x, .pointer (some ⟨pb, 0, none⟩), .pointer (some ⟨fb, 0, none⟩)] w fun e w' => e = .returned (.bool (l.isEmpty || decide (x.author ∈ l))) ∧ Below w.heap.size w w' := by
  have hp : pb < w.heap.size := World.block_lt_of_cell? w ⟨pb, 0, none⟩ h1
  have hf : fb < w.heap.size := World.block_lt_of_cell? w ⟨fb, 0, none⟩ h2
  have b0 := (Below.refl w.heap.size w).alloc (Nat.le_refl _) (.cells #[.int .i64 x.id, .string x.author, .int .i64 x.time] 23)
  have hbl := hS.lt
  have O0 := ObjAt.new w #[.int .i64 x.id, .string x.author, .int .i64 x.time] 23
  generalize hW : w.alloc (.cells #[.int .i64 x.id, .string x.author, .int .i64 x.time] 23) = W at b0 O0
  have HW := Lib.hid hW
  have y1F : ∀ p : Bw W, p.w.cell? ⟨pb, 0, none⟩ = some (.map (some b)) := fun p => ((b0.trans (p.h.mono b0.size)).cell (p := ⟨pb, 0, none⟩) hp).trans h1
  have y2F : ∀ p : Bw W, p.w.cell? ⟨fb, 0, none⟩ = some (.func (.func 65) #[] #[]) := fun p => ((b0.trans (p.h.mono b0.size)).cell (p := ⟨fb, 0, none⟩) hf).trans h2
  have x0F : ∀ p : Bw W, p.w.cell? ⟨w.heap.size, 0, none⟩ = some (.int .i64 x.id) := fun p => (O0.below p.h).b0
  have x1F : ∀ p : Bw W, p.w.cell? ⟨w.heap.size, 1, none⟩ = some (.string x.author) := fun p => (O0.below p.h).b1
  have x2F : ∀ p : Bw W, p.w.cell? ⟨w.heap.size, 2, none⟩ = some (.int .i64 x.time) := fun p => (O0.below p.h).b2
  have sF : ∀ p : Bw W, SetS p.w b n l := fun p => hS.below hbl (b0.trans (p.h.mono b0.size))
  have kF : ∀ p : Bw W, (Instr.lookup 110 (.map (some b)) (.string x.author) false).run Try.prog p.w = .ok (.bool (decide (x.author ∈ l))) p.w := fun p => (sF p).look hx
  obtain ⟨s, hs0, hsl⟩ := hS.lens
  have lF : ∀ (p : Bw W) ty, (Builtin.len_ #[110] ty #[.map (some b)]).run Try.prog p.w = .ok (.int .i64 (s : Nat)) p.w := fun p ty => hsl p.w (b0.trans (p.h.mono b0.size)) ty
  have HB0 := Lib.hid b0
  have s0 := b0.size
  cases hl : l with
  | nil =>
    obtain rfl : s = 0 := hs0.2 hl
    clear sF kF hs0 hsl h1 h2 hS O0 b0
    subst hl
    go_enter Try.func82, Try.ntmps82
    go_wp2_with fail
    refine wp_region_bw (W := W) (by kernel_rfl) (by kernel_rfl) (by rw [← HW.out]; exact Below.refl _ _) ?_
    repeat (quiet_step (fail))
    refine wpQuiet_nil ?_
    intro w7 hw'
    have kk : Below W.heap.size W w7 := by obtain ⟨p2, rfl⟩ := hw'; exact p2.h
    have K7 := Go.Lib.hid (HB0.out.trans (kk.mono s0))
    clear hw' kk y1F y2F
    go_wp2
    go_ret
    exact ⟨rfl, K7.out⟩
  | cons a t =>
    have hsn : ((s : Int) == 0) = false := neB (fun e => by rw [hl] at hs0; have := hs0.1 (by omega); cases this)
    have HI := Lib.hid (show ((a :: t).isEmpty || decide (x.author ∈ a :: t)) = decide (x.author ∈ l) by rw [hl]; rfl)
    generalize hd : decide (x.author ∈ l) = r at kF
    have HD := Lib.hid hd
    clear hs0 hsl h1 h2 hS O0 b0 hl sF hd
    go_enter Try.func82, Try.ntmps82
    go_wp2_with fail
    refine wp_region_bw (W := W) (by kernel_rfl) (by kernel_rfl) (by rw [← HW.out]; exact Below.refl _ _) ?_
    repeat (quiet_step (first
      | (go_at_call 65; exact bw_of (fun p => f65_any x p.w) _)
      | fail))
    refine wpQuiet_nil ?_
    intro w7 hw'
    have kk : Below W.heap.size W w7 := by obtain ⟨p2, rfl⟩ := hw'; exact p2.h
    have K7 := Go.Lib.hid (HB0.out.trans (kk.mono s0))
    clear hw' kk y1F y2F
    go_wp2
    go_ret
    exact ⟨by rw [HI.out, HD.out]; rfl, K7.out⟩

attribute [local irreducible] wpQuiet in
set_option maxRecDepth 100000 in
set_option maxHeartbeats 8000000 in
theorem onei_any (x : Rv) (hx : I64 x.id) (l : List Int) (pb fb b n : Nat) (w : World) (h1 : w.cell? ⟨pb, 0, none⟩ = some (.map (some b))) (h2 : w.cell? ⟨fb, 0, none⟩ = some (.func (.func 69) #[] #[])) (hS : SetI w b n l) :
    Calls Try.prog 83 #[rvV x, .pointer (some ⟨pb, 0, none⟩), .pointer (some ⟨fb, 0, none⟩)] w fun e w' => e = .returned (.bool (l.isEmpty || decide (x.id ∈ l))) ∧ Below w.heap.size w w' := by
  have hp : pb < w.heap.size := World.block_lt_of_cell? w ⟨pb, 0, none⟩ h1
  have hf : fb < w.heap.size := World.block_lt_of_cell? w ⟨fb, 0, none⟩ h2
  have b0 := (Below.refl w.heap.size w).alloc (Nat.le_refl _) (.cells #[.int .i64 x.id, .string x.author, .int .i64 x.time] 23)
  have hbl := hS.lt
  have O0 := ObjAt.new w #[.int .i64 x.id, .string x.author, .int .i64 x.time] 23
  generalize hW : w.alloc (.cells #[.int .i64 x.id, .string x.author, .int .i64 x.time] 23) = W at b0 O0
  have HW := Lib.hid hW
  have y1F : ∀ p : Bw W, p.w.cell? ⟨pb, 0, none⟩ = some (.map (some b)) := fun p => ((b0.trans (p.h.mono b0.size)).cell (p := ⟨pb, 0, none⟩) hp).trans h1
  have y2F : ∀ p : Bw W, p.w.cell? ⟨fb, 0, none⟩ = some (.func (.func 69) #[] #[]) := fun p => ((b0.trans (p.h.mono b0.size)).cell (p := ⟨fb, 0, none⟩) hf).trans h2
  have x0F : ∀ p : Bw W, p.w.cell? ⟨w.heap.size, 0, none⟩ = some (.int .i64 x.id) := fun p => (O0.below p.h).b0
  have x1F : ∀ p : Bw W, p.w.cell? ⟨w.heap.size, 1, none⟩ = some (.string x.author) := fun p => (O0.below p.h).b1
  have x2F : ∀ p : Bw W, p.w.cell? ⟨w.heap.size, 2, none⟩ = some (.int .i64 x.time) := fun p => (O0.below p.h).b2
  have sF : ∀ p : Bw W, SetI p.w b n l := fun p => hS.below hbl (b0.trans (p.h.mono b0.size))
  have kF : ∀ p : Bw W, (Instr.lookup 71 (.map (some b)) (.int .i64 x.id) false).run Try.prog p.w = .ok (.bool (decide (x.id ∈ l))) p.w := fun p => (sF p).look hx
  obtain ⟨s, hs0, hsl⟩ := hS.lens
  have lF : ∀ (p : Bw W) ty, (Builtin.len_ #[71] ty #[.map (some b)]).run Try.prog p.w = .ok (.int .i64 (s : Nat)) p.w := fun p ty => hsl p.w (b0.trans (p.h.mono b0.size)) ty
  have HB0 := Lib.hid b0
  have s0 := b0.size
  cases hl : l with
  | nil =>
    obtain rfl : s = 0 := hs0.2 hl
    clear sF kF hs0 hsl h1 h2 hS O0 b0
    subst hl
    go_enter Try.func83, Try.ntmps83
    go_wp2_with fail
    refine wp_region_bw (W := W) (by kernel_rfl) (by kernel_rfl) (by rw [← HW.out]; exact Below.refl _ _) ?_
    repeat (quiet_step (fail))
    refine wpQuiet_nil ?_
    intro w7 hw'
    have kk : Below W.heap.size W w7 := by obtain ⟨p2, rfl⟩ := hw'; exact p2.h
    have K7 := Go.Lib.hid (HB0.out.trans (kk.mono s0))
    clear hw' kk y1F y2F
    go_wp2
    go_ret
    exact ⟨rfl, K7.out⟩
  | cons a t =>
    have hsn : ((s : Int) == 0) = false := neB (fun e => by rw [hl] at hs0; have := hs0.1 (by omega); cases this)
    have HI := Lib.hid (show ((a :: t).isEmpty || decide (x.id ∈ a :: t)) = decide (x.id ∈ l) by rw [hl]; rfl)
    generalize hd : decide (x.id ∈ l) = r at kF
    have HD := Lib.hid hd
    clear hs0 hsl h1 h2 hS O0 b0 hl sF hd
    go_enter Try.func83, Try.ntmps83
    go_wp2_with fail
    refine wp_region_bw (W := W) (by kernel_rfl) (by kernel_rfl) (by rw [← HW.out]; exact Below.refl _ _) ?_
    repeat (quiet_step (first
      | (go_at_call 69; exact bw_of (fun p => f69_any x p.w) _)
      | fail))
    refine wpQuiet_nil ?_
    intro w7 hw'
    have kk : Below W.heap.size W w7 := by obtain ⟨p2, rfl⟩ := hw'; exact p2.h
    have K7 := Go.Lib.hid (HB0.out.trans (kk.mono s0))
    clear hw' kk y1F y2F
    go_wp2
    go_ret
    exact ⟨by rw [HI.out, HD.out]; rfl, K7.out⟩
end Go.Proofs.Ytmpklkhjipclmaa

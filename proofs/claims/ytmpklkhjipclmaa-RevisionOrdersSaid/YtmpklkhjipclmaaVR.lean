/- Layer 22: few (27). -/
import Derived.Test.YtmpklkhjipclmaaVP
import Derived.Test.YtmpklkhjipclmaaVO
namespace Go.Proofs.Ytmpklkhjipclmaa
open Go.RowKit Go.Lib
set_option linter.unusedVariables false

def fewF (f : Fl) : Fl := ⟨f.authors.take 10, f.frm, f.to, f.ids.take 40⟩
set_option maxRecDepth 100000 in
set_option maxHeartbeats 16000000 in
theorem few_raw (A B : Option Addr) (n c m d : Nat) (fr tt : Int) (hn : n ≤ c ∧ c ≤ maxLen) (hm : m ≤ d ∧ d ≤ maxLen) (p q : Nat) (hp : min n 10 = p) (hq : min m 40 = q) (w : World) :
    Calls Try.prog 27 #[.agg #[.slice A n c, .int .i64 fr, .int .i64 tt, .slice B m d]] w fun e w' => e = .returned (.agg #[.slice A p c, .int .i64 fr, .int .i64 tt, .slice B q d]) ∧ Below w.heap.size w w' := by
  have hn1 := hn.1
  have hn2 := hn.2
  have hm1 := hm.1
  have hm2 := hm.2
  unfold maxLen at hn2 hm2
  have e1 : min (n : Int) 10 = (p : Int) := by omega
  have e2 : min (m : Int) 40 = (q : Int) := by omega
  have e3 : (p : Int) ≤ (c : Int) := by omega
  have e4 : (q : Int) ≤ (d : Int) := by omega
  have e5 : p ≤ c := by omega
  have e6 : q ≤ d := by omega
  have O1 := (ObjAt.new w #[.slice A n c, .int .i64 fr, .int .i64 tt, .slice B m d] 52).alloc (.cells #[.slice none 0 0, .int .i64 0, .int .i64 0, .slice none 0 0] 52)
  have O2 := ObjAt.new (w.alloc (.cells #[.slice A n c, .int .i64 fr, .int .i64 tt, .slice B m d] 52)) #[.slice none 0 0, .int .i64 0, .int .i64 0, .slice none 0 0] 52
  rw [World.size_alloc] at O2
  clear hn hm hp hq
  go_enter Try.func27, Try.ntmps27
  go_wp2_with fail
  go_region
  have P1 := (ObjAt.new w #[.slice A p c, .int .i64 fr, .int .i64 tt, .slice B q d] 52).alloc (.cells #[.slice none 0 0, .int .i64 0, .int .i64 0, .slice none 0 0] 52)
  have P2 := ObjAt.new (w.alloc (.cells #[.slice A p c, .int .i64 fr, .int .i64 tt, .slice B q d] 52)) #[.slice none 0 0, .int .i64 0, .int .i64 0, .slice none 0 0] 52
  rw [World.size_alloc] at P2
  have kk := (((Below.refl w.heap.size w).alloc (Nat.le_refl _) (.cells #[.slice A p c, .int .i64 fr, .int .i64 tt, .slice B q d] 52)).alloc (by simp) (.cells #[.slice none 0 0, .int .i64 0, .int .i64 0, .slice none 0 0] 52)).drew
  have P1 : ObjAt (((w.alloc (.cells #[.slice A p c, .int .i64 fr, .int .i64 tt, .slice B q d] 52)).alloc (.cells #[.slice none 0 0, .int .i64 0, .int .i64 0, .slice none 0 0] 52)).drew) w.heap.size #[.slice A p c, .int .i64 fr, .int .i64 tt, .slice B q d] 52 := P1
  have P2 : ObjAt (((w.alloc (.cells #[.slice A p c, .int .i64 fr, .int .i64 tt, .slice B q d] 52)).alloc (.cells #[.slice none 0 0, .int .i64 0, .int .i64 0, .slice none 0 0] 52)).drew) (w.heap.size + 1) #[.slice none 0 0, .int .i64 0, .int .i64 0, .slice none 0 0] 52 := P2
  generalize ((w.alloc (.cells #[.slice A p c, .int .i64 fr, .int .i64 tt, .slice B q d] 52)).alloc (.cells #[.slice none 0 0, .int .i64 0, .int .i64 0, .slice none 0 0] 52)).drew = V at P1 P2 kk ⊢
  have x0 := P1.get (k := 0) rfl
  have x1 := P1.get (k := 1) rfl
  have x2 := P1.get (k := 2) rfl
  have x3 := P1.get (k := 3) rfl
  have y0 := P2.get (k := 0) rfl
  have y1 := P2.get (k := 1) rfl
  have y2 := P2.get (k := 2) rfl
  have y3 := P2.get (k := 3) rfl
  have t0 := P2.frozen 0
  have t1 := P2.frozen 1
  have t2 := P2.frozen 2
  have t3 := P2.frozen 3
  have P3 := ((((P2.set 0 (.slice A p c)).set 1 (.int .i64 fr)).set 2 (.int .i64 tt)).set 3 (.slice B q d))
  have q0 := P3.get (k := 0) (v := .slice A p c) (by simp)
  have q1 := P3.get (k := 1) (v := .int .i64 fr) (by simp)
  have q2 := P3.get (k := 2) (v := .int .i64 tt) (by simp)
  have q3 := P3.get (k := 3) (v := .slice B q d) (by simp)
  have KF := Lib.hid ((((kk.setCell (p := ⟨w.heap.size + 1, 0, none⟩) (Nat.le_succ _) (.slice A p c)).setCell (p := ⟨w.heap.size + 1, 1, none⟩) (Nat.le_succ _) (.int .i64 fr)).setCell (p := ⟨w.heap.size + 1, 2, none⟩) (Nat.le_succ _) (.int .i64 tt)).setCell (p := ⟨w.heap.size + 1, 3, none⟩) (Nat.le_succ _) (.slice B q d))
  clear P1 P2 P3 kk O1 O2
  go_wp2
  exact bodyPost_ret (v := .agg #[.slice A p c, .int .i64 fr, .int .i64 tt, .slice B q d]) (by simp [results, Try.results27, go_sem, q0, q1, q2, q3]) rfl ⟨rfl, KF.out⟩
theorem few_any (f : Fl) (A : Option Addr) (c : Nat) (B : Option Addr) (d : Nat) (ha : f.authors.length ≤ c ∧ c ≤ maxLen) (hi : f.ids.length ≤ d ∧ d ≤ maxLen) (w : World) :
    Calls Try.prog 27 #[flV f A c B d] w fun e w' => e = .returned (flV (fewF f) A c B d) ∧ Below w.heap.size w w' :=
  few_raw A B f.authors.length c f.ids.length d f.frm f.to ha hi (fewF f).authors.length (fewF f).ids.length (by unfold fewF; rw [List.length_take]; omega) (by unfold fewF; rw [List.length_take]; omega) w
theorem few_ok {f : Fl} (h1 : ∀ x ∈ f.authors, x.size ≤ maxLen) (h2 : ∀ x ∈ f.ids, I64 x) : FlOk (fewF f) :=
  ⟨by unfold fewF; rw [List.length_take]; omega, by unfold fewF; rw [List.length_take]; omega, fun x hx => h1 x (List.mem_of_mem_take hx), fun x hx => h2 x (List.mem_of_mem_take hx)⟩
end Go.Proofs.Ytmpklkhjipclmaa

/- Layer 6: levels (39) and its functions (58, 62, 64, 66). -/
import Derived.Test.YtknbglcmjggkjaaU3
import Derived.Lib.AppendStr
namespace Go.Proofs.Ytknbglcmjggkjaa
open Go.RowKit Go.Shelf Go.Lib Co

/-- What a function of a level hands back. -/
def LevRet (B : Nat) (l : List UInt8) (w : World) (e : Ending) (w' : World) : Prop := ∃ v', e = .returned v' ∧ Byt B w' v' l ∧ Below B w w'
theorem grow_below {B : Nat} {w w' : World} {v : Value} {l : List UInt8} (hB : B ≤ w.heap.size) (hv : Byt B w v l) (h : GrowR w w' v.ownBlock) : Below B w w' :=
  (Below.refl B w).grown h hB (fun j e => (World.ownsRow.lt (show World.ownsRow _ _ _ _ _ _ _ from hv) j e.symm.symm).1)
theorem lev_len (f : El → Nat) (l : List El) : (lev f l).length ≤ l.length := by
  unfold lev
  have := List.length_filter_le (fun x => decide (x ≠ 0)) (l.map f)
  rwa [List.length_map] at this
theorem lev_lt {f : El → Nat} {l : List El} {b : Nat} (h : ∀ e ∈ l, f e < b) : ∀ x ∈ lev f l, x < b := by
  intro x hx
  unfold lev at hx
  obtain ⟨h1, _⟩ := List.mem_filter.1 hx
  obtain ⟨e, he, rfl⟩ := List.mem_map.1 h1
  exact h e he
theorem strCells_bv (s : ByteArray) : strCells s = bv s.data.toList := by
  unfold bv
  first | rfl | simp [strCells]
set_option maxRecDepth 100000 in
set_option maxHeartbeats 8000000 in
theorem lev3_any {B : Nat} {v : Value} {key : List UInt8} {s : ByteArray} {A : Option Addr} {m d : Nat} {l : List El} (w : World) (hB : B ≤ w.heap.size) (hv : Byt B w v key) (hlm : l.length = m) (hm : m ≤ 10000) (hkl : key.length ≤ 60000) (hA : ElsIn w (.slice A m d) l) (hdis : ∀ g, (Value.slice A m d).ownBlock = some g → g < B) (hok : ∀ e ∈ l, ElOk e) :
    Calls Try.prog 58 #[v, .agg #[.string s, .slice A m d]] w (LevRet B (key ++ encL 3 (lev (fun e => e.1) l)) w) := by
  have hlt := World.ownsRow.lt (show World.ownsRow _ _ _ _ _ _ _ from hv)
  have hb3 : Below w.heap.size w (((w.alloc (.cells #[.string s, .slice A m d] 77)).alloc (.cells #[.string s, .slice A m d] 77)).alloc (.cells #[.func (.func 61) #[] #[]] 105)) := (((Below.refl _ w).alloc (Nat.le_refl _) _).alloc (by simp) _).alloc (by simp; omega) _
  have o1 : ObjAt (((w.alloc (.cells #[.string s, .slice A m d] 77)).alloc (.cells #[.string s, .slice A m d] 77)).alloc (.cells #[.func (.func 61) #[] #[]] 105)) (w.heap.size + 1) #[.string s, .slice A m d] 77 := by
    have := (ObjAt.new (w.alloc (.cells #[.string s, .slice A m d] 77)) #[.string s, .slice A m d] 77).alloc (.cells #[.func (.func 61) #[] #[]] 105)
    rwa [World.size_alloc] at this
  have o2 : Boxed (((w.alloc (.cells #[.string s, .slice A m d] 77)).alloc (.cells #[.string s, .slice A m d] 77)).alloc (.cells #[.func (.func 61) #[] #[]] 105)) (w.heap.size + 2) 105 (.func (.func 61) #[] #[]) := by
    have := Boxed.new ((w.alloc (.cells #[.string s, .slice A m d] 77)).alloc (.cells #[.string s, .slice A m d] 77)) 105 (.func (.func 61) #[] #[])
    rwa [World.size_alloc, World.size_alloc] at this
  have hv3 := Byt.below hv hb3
  have hsz : (((w.alloc (.cells #[.string s, .slice A m d] 77)).alloc (.cells #[.string s, .slice A m d] 77)).alloc (.cells #[.func (.func 61) #[] #[]] 105)).heap.size = w.heap.size + 3 := by simp
  have hll := lev_len (fun e => e.1) l
  have cL := Go.Lib.hid (callsIn_wide.1 (level_in (n := 3) (ws := lev (fun e => e.1) l) (lb := #[.pointer (some ⟨w.heap.size + 1, 0, none⟩), .pointer (some ⟨w.heap.size + 2, 0, none⟩)]) _ (by rw [hsz]; omega) hv3 (by omega) (by decide) (lev_lt (fun e he => (hok e he).1)) (fun Bs w' => prim_seq 5 (by decide) (w.heap.size + 1) (w.heap.size + 2) Bs s A m d l hlm (by omega) _ w' (ElsIn.below hA hb3) o1 o2 v.ownBlock (fun g hg e => by have := hdis g hg; have := hlt g e.symm; omega) (fun e => by have := hlt _ e.symm; omega) (fun e => by have := hlt _ e.symm; omega))))
  have HB := Go.Lib.hid (fun w9 (h : GrowR _ w9 v.ownBlock) => ((hb3.mono hB).trans (grow_below (by rw [hsz]; omega) hv3 h) : Below B w w9))
  clear hv3 hsz hll o1 o2 hb3
  go_enter Try.func58, Try.ntmps58
  go_wp2_with (first
    | (go_at_call 60; (with_reducible refine (weights_any s (.slice A m d) (.func (.func 61) #[] #[]) ⟨_, _, _, rfl⟩ ⟨_, rfl⟩ _).mono ?_); rintro e w2 ⟨rfl, rfl⟩)
    | (go_at_call 59; refine (cL.out).mono ?_; rintro e w9 ⟨v9, rfl, hv9, hg9, ho9⟩))
  have HV := Go.Lib.hid hv9
  have HB9 := Go.Lib.hid (HB.out _ hg9)
  clear hv9 hg9 ho9
  go_wp2
  go_ret
  exact ⟨_, rfl, HV.out, HB9.out⟩
set_option maxRecDepth 100000 in
set_option maxHeartbeats 8000000 in
theorem lev2_any {B : Nat} {v : Value} {key : List UInt8} {s : ByteArray} {A : Option Addr} {m d : Nat} {l : List El} (w : World) (hB : B ≤ w.heap.size) (hv : Byt B w v key) (hlm : l.length = m) (hm : m ≤ 10000) (hkl : key.length ≤ 60000) (hA : ElsIn w (.slice A m d) l) (hdis : ∀ g, (Value.slice A m d).ownBlock = some g → g < B) (hok : ∀ e ∈ l, ElOk e) :
    Calls Try.prog 62 #[v, .agg #[.string s, .slice A m d]] w (LevRet B (key ++ encL 2 (lev (fun e => e.2.1) l)) w) := by
  have hlt := World.ownsRow.lt (show World.ownsRow _ _ _ _ _ _ _ from hv)
  have hb3 : Below w.heap.size w (((w.alloc (.cells #[.string s, .slice A m d] 77)).alloc (.cells #[.string s, .slice A m d] 77)).alloc (.cells #[.func (.func 63) #[] #[]] 105)) := (((Below.refl _ w).alloc (Nat.le_refl _) _).alloc (by simp) _).alloc (by simp; omega) _
  have o1 : ObjAt (((w.alloc (.cells #[.string s, .slice A m d] 77)).alloc (.cells #[.string s, .slice A m d] 77)).alloc (.cells #[.func (.func 63) #[] #[]] 105)) (w.heap.size + 1) #[.string s, .slice A m d] 77 := by
    have := (ObjAt.new (w.alloc (.cells #[.string s, .slice A m d] 77)) #[.string s, .slice A m d] 77).alloc (.cells #[.func (.func 63) #[] #[]] 105)
    rwa [World.size_alloc] at this
  have o2 : Boxed (((w.alloc (.cells #[.string s, .slice A m d] 77)).alloc (.cells #[.string s, .slice A m d] 77)).alloc (.cells #[.func (.func 63) #[] #[]] 105)) (w.heap.size + 2) 105 (.func (.func 63) #[] #[]) := by
    have := Boxed.new ((w.alloc (.cells #[.string s, .slice A m d] 77)).alloc (.cells #[.string s, .slice A m d] 77)) 105 (.func (.func 63) #[] #[])
    rwa [World.size_alloc, World.size_alloc] at this
  have hv3 := Byt.below hv hb3
  have hsz : (((w.alloc (.cells #[.string s, .slice A m d] 77)).alloc (.cells #[.string s, .slice A m d] 77)).alloc (.cells #[.func (.func 63) #[] #[]] 105)).heap.size = w.heap.size + 3 := by simp
  have hll := lev_len (fun e => e.2.1) l
  have cL := Go.Lib.hid (callsIn_wide.1 (level_in (n := 2) (ws := lev (fun e => e.2.1) l) (lb := #[.pointer (some ⟨w.heap.size + 1, 0, none⟩), .pointer (some ⟨w.heap.size + 2, 0, none⟩)]) _ (by rw [hsz]; omega) hv3 (by omega) (by decide) (lev_lt (fun e he => (hok e he).2.1)) (fun Bs w' => sec_seq 5 (by decide) (w.heap.size + 1) (w.heap.size + 2) Bs s A m d l hlm (by omega) _ w' (ElsIn.below hA hb3) o1 o2 v.ownBlock (fun g hg e => by have := hdis g hg; have := hlt g e.symm; omega) (fun e => by have := hlt _ e.symm; omega) (fun e => by have := hlt _ e.symm; omega))))
  have HB := Go.Lib.hid (fun w9 (h : GrowR _ w9 v.ownBlock) => ((hb3.mono hB).trans (grow_below (by rw [hsz]; omega) hv3 h) : Below B w w9))
  clear hv3 hsz hll o1 o2 hb3
  go_enter Try.func62, Try.ntmps62
  go_wp2_with (first
    | (go_at_call 60; (with_reducible refine (weights_any s (.slice A m d) (.func (.func 63) #[] #[]) ⟨_, _, _, rfl⟩ ⟨_, rfl⟩ _).mono ?_); rintro e w2 ⟨rfl, rfl⟩)
    | (go_at_call 59; refine (cL.out).mono ?_; rintro e w9 ⟨v9, rfl, hv9, hg9, ho9⟩))
  have HV := Go.Lib.hid hv9
  have HB9 := Go.Lib.hid (HB.out _ hg9)
  clear hv9 hg9 ho9
  go_wp2
  go_ret
  exact ⟨_, rfl, HV.out, HB9.out⟩
set_option maxRecDepth 100000 in
set_option maxHeartbeats 8000000 in
theorem lev1_any {B : Nat} {v : Value} {key : List UInt8} {s : ByteArray} {A : Option Addr} {m d : Nat} {l : List El} (w : World) (hB : B ≤ w.heap.size) (hv : Byt B w v key) (hlm : l.length = m) (hm : m ≤ 10000) (hkl : key.length ≤ 60000) (hA : ElsIn w (.slice A m d) l) (hdis : ∀ g, (Value.slice A m d).ownBlock = some g → g < B) (hok : ∀ e ∈ l, ElOk e) :
    Calls Try.prog 64 #[v, .agg #[.string s, .slice A m d]] w (LevRet B (key ++ encL 1 (lev (fun e => e.2.2) l)) w) := by
  have hlt := World.ownsRow.lt (show World.ownsRow _ _ _ _ _ _ _ from hv)
  have hb3 : Below w.heap.size w (((w.alloc (.cells #[.string s, .slice A m d] 77)).alloc (.cells #[.string s, .slice A m d] 77)).alloc (.cells #[.func (.func 65) #[] #[]] 105)) := (((Below.refl _ w).alloc (Nat.le_refl _) _).alloc (by simp) _).alloc (by simp; omega) _
  have o1 : ObjAt (((w.alloc (.cells #[.string s, .slice A m d] 77)).alloc (.cells #[.string s, .slice A m d] 77)).alloc (.cells #[.func (.func 65) #[] #[]] 105)) (w.heap.size + 1) #[.string s, .slice A m d] 77 := by
    have := (ObjAt.new (w.alloc (.cells #[.string s, .slice A m d] 77)) #[.string s, .slice A m d] 77).alloc (.cells #[.func (.func 65) #[] #[]] 105)
    rwa [World.size_alloc] at this
  have o2 : Boxed (((w.alloc (.cells #[.string s, .slice A m d] 77)).alloc (.cells #[.string s, .slice A m d] 77)).alloc (.cells #[.func (.func 65) #[] #[]] 105)) (w.heap.size + 2) 105 (.func (.func 65) #[] #[]) := by
    have := Boxed.new ((w.alloc (.cells #[.string s, .slice A m d] 77)).alloc (.cells #[.string s, .slice A m d] 77)) 105 (.func (.func 65) #[] #[])
    rwa [World.size_alloc, World.size_alloc] at this
  have hv3 := Byt.below hv hb3
  have hsz : (((w.alloc (.cells #[.string s, .slice A m d] 77)).alloc (.cells #[.string s, .slice A m d] 77)).alloc (.cells #[.func (.func 65) #[] #[]] 105)).heap.size = w.heap.size + 3 := by simp
  have hll := lev_len (fun e => e.2.2) l
  have cL := Go.Lib.hid (callsIn_wide.1 (level_in (n := 1) (ws := lev (fun e => e.2.2) l) (lb := #[.pointer (some ⟨w.heap.size + 1, 0, none⟩), .pointer (some ⟨w.heap.size + 2, 0, none⟩)]) _ (by rw [hsz]; omega) hv3 (by omega) (by decide) (lev_lt (fun e he => (hok e he).2.2)) (fun Bs w' => ter_seq 5 (by decide) (w.heap.size + 1) (w.heap.size + 2) Bs s A m d l hlm (by omega) _ w' (ElsIn.below hA hb3) o1 o2 v.ownBlock (fun g hg e => by have := hdis g hg; have := hlt g e.symm; omega) (fun e => by have := hlt _ e.symm; omega) (fun e => by have := hlt _ e.symm; omega))))
  have HB := Go.Lib.hid (fun w9 (h : GrowR _ w9 v.ownBlock) => ((hb3.mono hB).trans (grow_below (by rw [hsz]; omega) hv3 h) : Below B w w9))
  clear hv3 hsz hll o1 o2 hb3
  go_enter Try.func64, Try.ntmps64
  go_wp2_with (first
    | (go_at_call 60; (with_reducible refine (weights_any s (.slice A m d) (.func (.func 65) #[] #[]) ⟨_, _, _, rfl⟩ ⟨_, rfl⟩ _).mono ?_); rintro e w2 ⟨rfl, rfl⟩)
    | (go_at_call 59; refine (cL.out).mono ?_; rintro e w9 ⟨v9, rfl, hv9, hg9, ho9⟩))
  have HV := Go.Lib.hid hv9
  have HB9 := Go.Lib.hid (HB.out _ hg9)
  clear hv9 hg9 ho9
  go_wp2
  go_ret
  exact ⟨_, rfl, HV.out, HB9.out⟩
set_option maxRecDepth 100000 in
set_option maxHeartbeats 8000000 in
theorem lev4_any {B : Nat} {v : Value} {key : List UInt8} {s : ByteArray} {A : Option Addr} {m d : Nat} (w : World) (hB : B ≤ w.heap.size) (hv : Byt B w v key) (hkl : key.length ≤ 60000) (hs : s.size ≤ 10000) :
    Calls Try.prog 66 #[v, .agg #[.string s, .slice A m d]] w (LevRet B (key ++ s.data.toList) w) := by
  obtain ⟨i0, hi, hz0, hz1, hz2⟩ := info_parts byInfo
  go_enter Try.func66, Try.ntmps66
  go_wp2_with (at_builtin; go_loud (refine wpList_append_own_string _ rfl _ _ 65 9 rfl B 5 i0 Try.underlying65 Try.underlying9 hi hz0 hz1 hz2 _ _ _ rfl (World.ownsRow.alloc hv _) _ rfl (by unfold maxLen; omega) (by omega) (by simp; omega) ?_; intro v1 w1 hown1 hgrow1 _))
  have HV := Go.Lib.hid (show Byt B w1 v1 (key ++ s.data.toList) by
    unfold Byt
    rw [List.length_append, show bv (key ++ s.data.toList) = bv key ++ bv s.data.toList by simp [bv], ← strCells_bv]
    exact hown1)
  have HB9 := Go.Lib.hid (show Below B w w1 from ((Below.refl B w).alloc hB _).grown hgrow1 (by simp; omega) (fun j e => (World.ownsRow.lt (show World.ownsRow _ _ _ _ _ _ _ from hv) j e).1))
  clear hown1 hgrow1
  go_wp2
  go_ret
  exact ⟨_, rfl, HV.out, HB9.out⟩
/-- The functions of the levels. -/
def lvF : Array Value := #[.func (.func 58) #[] #[], .func (.func 62) #[] #[], .func (.func 64) #[] #[], .func (.func 66) #[] #[]]
set_option maxRecDepth 100000 in
set_option maxHeartbeats 8000000 in
theorem levels_any (w : World) : Calls Try.prog 39 #[] w fun e w' => e = .returned (.slice (some ⟨w.heap.size, 0, none⟩) 4 4) ∧ w' = w.alloc (.cells lvF 75) := by
  unfold lvF
  go_enter Try.func39, Try.ntmps39
  go_wp2
  go_ret
  exact ⟨rfl, rfl⟩
end Go.Proofs.Ytknbglcmjggkjaa

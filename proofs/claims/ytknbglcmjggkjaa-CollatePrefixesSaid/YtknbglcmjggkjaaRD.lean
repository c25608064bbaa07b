/- Layer 6: Collect (70), primaries (46). -/
import Derived.Test.YtknbglcmjggkjaaRC
namespace Go.Proofs.Ytknbglcmjggkjaa
open Go.RowKit Go.Shelf Go.Lib Co

set_option maxRecDepth 100000 in
set_option maxHeartbeats 8000000 in
theorem collect_any {s : ByteArray} {A : Option Addr} {m d Bt Bl : Nat} {l : List El} (w : World) (hA : ElsIn w (.slice A m d) l) (ht : ObjAt w Bt #[.string s, .slice A m d] 77) (hl : Boxed w Bl 105 (.func (.func 61) #[] #[])) (hlm : l.length = m) (hm : m ≤ 10000) :
    Calls Try.prog 70 #[.func (.func 79) #[] #[.pointer (some ⟨Bt, 0, none⟩), .pointer (some ⟨Bl, 0, none⟩)]] w (IntsOwn (lev (fun e => e.1) l) w) := by
  have hlt := ht.lt
  have hll := lev_len (fun e => e.1) l
  have cS := Go.Lib.hid (callsIn_wide.1 (appendSeq_in (ws := lev (fun e => e.1) l) (lb := #[.pointer (some ⟨Bt, 0, none⟩), .pointer (some ⟨Bl, 0, none⟩)]) w (by omega) (by omega) (fun Bs w' => prim_seq 5 (by decide) Bt Bl Bs s A m d l hlm (by omega) w w' hA ht hl none (fun g _ e => by cases e) (fun e => by cases e) (fun e => by cases e))))
  clear hA ht hl
  go_enter Try.func70, Try.ntmps70
  go_wp2_with fail
  refine (cS.out).mono ?_
  rintro e w2 ⟨v, rfl, hv, k2⟩
  have HV := Go.Lib.hid hv
  clear hv
  go_wp2
  go_ret
  exact ⟨_, rfl, HV.out, k2⟩
/-- What primaries hands back. -/
def PrAns (er : Int) (P : List Nat) (w : World) (e : Ending) (w' : World) : Prop :=
  ∃ v, e = .returned (.tuple #[v, .int .i64 er]) ∧ (er ≠ 0 → v = .slice none 0 0) ∧ (er = 0 → w'.ownsRow w.heap.size 3 1 v P.length (Cp.ints P)) ∧ Below w.heap.size w w'
/-- The weights of a string on level 1. -/
def wts (nu ig uf : Bool) (P : List Nat) : List Nat := lev (fun e => e.1) (elems nu (upN uf) ig P)
set_option maxRecDepth 100000 in
set_option maxHeartbeats 8000000 in
theorem prims_any {x : Sx} (sx : x.s.size ≤ 4096) (st : Int) (nu ig uf : Bool) (w : World) :
    Calls Try.prog 46 #[.string x.s, opV st nu ig uf] w (PrAns (faultN st [x]) (wts nu ig uf x.P) w) := by
  have cE := fun w' => elements_any x.str st nu ig uf w'
  rw [err_one sx] at cE
  have hlx : (elems nu (upN uf) ig x.P).length ≤ 10000 := by have := elems_len nu ig (upN uf) x.P; have := pts_len x.str; omega
  unfold wts
  generalize elems nu (upN uf) ig x.P = ex at *
  generalize faultN st [x] = f at *
  have o1 := ObjAt.new w #[.int .i64 st, .bool nu, .bool ig, .bool uf] 23
  have hB : Below w.heap.size w (w.alloc (.cells #[.int .i64 st, .bool nu, .bool ig, .bool uf] 23)) := (Below.refl _ w).alloc (Nat.le_refl _) _
  unfold opV at *
  have z0 := o1.o0
  have z1 := o1.o1
  have z2 := o1.o2
  have z3 := o1.o3
  have CE := Go.Lib.hid cE
  clear cE
  go_enter Try.func46, Try.ntmps46
  go_wp2_with fail
  generalize w.alloc (.cells #[.int .i64 st, .bool nu, .bool ig, .bool uf] 23) = W at *
  refine (CE.out W).mono ?_
  rintro e w1 ⟨ve, rfl, hv0, hv1, k1⟩
  have hB1 := hB.trans (k1.mono hB.size)
  clear z0 z1 z2 z3 o1 hB k1
  by_cases h0 : f = 0
  · subst h0
    obtain ⟨A, m, d, rfl, hin, hlm⟩ := (hv1 rfl).form
    clear hv0 hv1
    have hs1 := hB1.size
    have hb3 : Below w1.heap.size w1 ((w1.alloc (.cells #[.string x.s, .slice A m d] 77)).alloc (.cells #[.func (.func 61) #[] #[]] 105)) := ((Below.refl _ w1).alloc (Nat.le_refl _) _).alloc (by simp) _
    have p1 : ObjAt ((w1.alloc (.cells #[.string x.s, .slice A m d] 77)).alloc (.cells #[.func (.func 61) #[] #[]] 105)) w1.heap.size #[.string x.s, .slice A m d] 77 := (ObjAt.new w1 #[.string x.s, .slice A m d] 77).alloc _
    have p2 : Boxed ((w1.alloc (.cells #[.string x.s, .slice A m d] 77)).alloc (.cells #[.func (.func 61) #[] #[]] 105)) (w1.heap.size + 1) 105 (.func (.func 61) #[] #[]) := by
      have := Boxed.new (w1.alloc (.cells #[.string x.s, .slice A m d] 77)) 105 (.func (.func 61) #[] #[])
      rwa [World.size_alloc] at this
    have cC := Go.Lib.hid (collect_any _ (ElsIn.below hin hb3) p1 p2 hlm (by omega))
    have HB3 := Go.Lib.hid (hB1.trans (hb3.mono hs1))
    clear p1 p2 hb3 hin
    go_wp2_with (go_at_call 60; (with_reducible refine (weights_any x.s (.slice A m d) (.func (.func 61) #[] #[]) ⟨_, _, _, rfl⟩ ⟨_, rfl⟩ _).mono ?_); rintro e w2 ⟨rfl, rfl⟩)
    refine (cC.out).mono ?_
    rintro e w5 ⟨v, rfl, hv, k5⟩
    have HV := Go.Lib.hid (own_mono hv HB3.out.size)
    have HB5 := Go.Lib.hid (HB3.out.trans (k5.mono HB3.out.size))
    clear hv k5 cC
    go_wp2
    go_ret2
    exact ⟨_, rfl, fun h => absurd rfl h, fun _ => HV.out, HB5.out⟩
  · obtain rfl := hv0 h0
    have H0 := Go.Lib.hid h0
    clear hv0 hv1
    go_wp2
    go_ret2
    exact ⟨_, rfl, fun _ => rfl, fun h => absurd h H0.out, hB1⟩
end Go.Proofs.Ytknbglcmjggkjaa

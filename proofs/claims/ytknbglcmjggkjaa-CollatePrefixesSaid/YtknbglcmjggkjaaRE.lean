/- Layer 6: Initial (32), the reference's (33). -/
import Derived.Test.YtknbglcmjggkjaaRD
import Derived.Test.YtknbglcmjggkjaaRA
import Derived.Test.YtknbglcmjggkjaaK6
namespace Go.Proofs.Ytknbglcmjggkjaa
open Go.RowKit Go.Shelf Go.Lib Co

/-- A primary weight lies in one of the groups. -/
def Pr (e : El) : Prop := e.1 ≤ 32868 ∨ 65536 ≤ e.1
theorem oneE_pr {up : Nat} {ig : Bool} {c : Nat} : ∀ e ∈ oneE up ig c, Pr e := by
  intro e he
  unfold oneE at he
  unfold Pr
  by_cases hd : dig c = true
  · have : 48 ≤ c ∧ c ≤ 57 := by simpa [dig] using hd
    repeat' split at he
    all_goals first
      | (simp at he; done)
      | (rw [List.mem_singleton] at he; subst he; simp only; omega)
  · repeat' split at he
    all_goals first
      | (simp at he; done)
      | (rename_i h; exact absurd h hd)
      | (rw [List.mem_singleton] at he; subst he; simp only; omega)
theorem elems_pr {nu ig : Bool} {up : Nat} (l : List Nat) (hl : l.length ≤ 5000) : ∀ e ∈ elems nu up ig l, Pr e := by
  induction hn : l.length using Nat.strongRecOn generalizing l with
  | ind n ih =>
    cases l with
    | nil => rw [elems_nil]; intro e he; simp at he
    | cons c r =>
      rw [elems]
      simp only [List.length_cons] at hn hl
      have h2 := digs_le (c :: r)
      simp only [List.length_cons] at h2
      by_cases h : nu = true ∧ 0 < digs (c :: r)
      · rw [if_pos h]
        intro e he
        rcases List.mem_append.1 he with he | he
        · unfold numE at he
          rcases List.mem_cons.1 he with rfl | he
          · have h5 := strip_len ((c :: r).take (digs (c :: r)))
            rw [List.length_take, List.length_cons] at h5
            unfold Pr; simp only; omega
          · obtain ⟨d, hd, rfl⟩ := List.mem_map.1 he
            have := dig_take (c :: r) d (strip_mem _ d hd)
            have : 48 ≤ d ∧ d ≤ 57 := by simpa [dig] using this
            unfold Pr; simp only; omega
        · have h3 : ((c :: r).drop (digs (c :: r))).length = r.length + 1 - digs (c :: r) := by rw [List.length_drop, List.length_cons]
          exact ih _ (by rw [h3]; omega) _ (by rw [h3]; omega) rfl e he
      · rw [if_neg h]
        intro e he
        rcases List.mem_append.1 he with he | he
        · unfold pointE at he
          by_cases h6 : pairN c = (0, 0)
          · rw [if_pos h6] at he
            exact oneE_pr e he
          · rw [if_neg h6] at he
            rcases List.mem_append.1 he with he | he
            · exact oneE_pr e he
            · exact oneE_pr e he
        · exact ih r.length (by omega) r (by omega) rfl e he
theorem oneE_up (up up' : Nat) (ig : Bool) (c : Nat) : (oneE up ig c).map (·.1) = (oneE up' ig c).map (·.1) := by
  unfold oneE
  repeat' split
  all_goals rfl
theorem pointE_up (up up' : Nat) (ig : Bool) (c : Nat) : (pointE up ig c).map (·.1) = (pointE up' ig c).map (·.1) := by
  unfold pointE
  by_cases h : pairN c = (0, 0)
  · rw [if_pos h, if_pos h]; exact oneE_up _ _ _ _
  · rw [if_neg h, if_neg h, List.map_append, List.map_append, oneE_up up up', oneE_up up up']
theorem elems_up (nu ig : Bool) (up up' : Nat) (l : List Nat) : (elems nu up ig l).map (·.1) = (elems nu up' ig l).map (·.1) := by
  induction hn : l.length using Nat.strongRecOn generalizing l with
  | ind n ih =>
    cases l with
    | nil => rw [elems_nil, elems_nil]
    | cons c r =>
      rw [elems, elems]
      simp only [List.length_cons] at hn
      have h2 := digs_le (c :: r)
      simp only [List.length_cons] at h2
      by_cases h : nu = true ∧ 0 < digs (c :: r)
      · rw [if_pos h, if_pos h, List.map_append, List.map_append]
        have h3 : ((c :: r).drop (digs (c :: r))).length = r.length + 1 - digs (c :: r) := by rw [List.length_drop, List.length_cons]
        rw [ih _ (by rw [h3]; omega) ((c :: r).drop (digs (c :: r))) rfl]
      · rw [if_neg h, if_neg h, List.map_append, List.map_append, pointE_up up up', ih r.length (by omega) r rfl]
theorem wts_up (nu ig uf uf' : Bool) (P : List Nat) : wts nu ig uf P = wts nu ig uf' P := by
  unfold wts lev
  rw [elems_up nu ig (upN uf) (upN uf') P]
/-- The heading. -/
def iniB : List Nat → List UInt8
  | [] => []
  | p :: _ => if p < 512 then [] else if p < 32768 then [48, 45, 57] else if p < 65536 then [UInt8.ofNat (65 + (p - 32768) / 4)] else []
theorem ini_cons (p : Nat) (r : List Nat) : iniB (p :: r) = if p < 512 then [] else if p < 32768 then [48, 45, 57] else if p < 65536 then [UInt8.ofNat (65 + (p - 32768) / 4)] else [] := rfl
theorem wts_pr {nu ig uf : Bool} {x : Sx} (sx : x.s.size ≤ 4096) : ∀ p ∈ wts nu ig uf x.P, p ≤ 32868 ∨ 65536 ≤ p := by
  intro p hp
  unfold wts lev at hp
  obtain ⟨h1, _⟩ := List.mem_filter.1 hp
  obtain ⟨e, he, rfl⟩ := List.mem_map.1 h1
  exact elems_pr x.P (by have := pts_len x.str; omega) e he
theorem wts_len (nu ig uf : Bool) (x : Sx) (sx : x.s.size ≤ 4096) : (wts nu ig uf x.P).length ≤ 10000 := by
  have := lev_len (fun e => e.1) (elems nu (upN uf) ig x.P)
  have := elems_len nu ig (upN uf) x.P
  have := pts_len x.str
  unfold wts
  omega
/-- What Initial hands back. -/
def IniAns (er : Int) (l : List UInt8) (w : World) (e : Ending) (w' : World) : Prop := e = .returned (.tuple #[.string (bs (if er = 0 then l else [])), .int .i64 er]) ∧ Below w.heap.size w w'
theorem own_head {w : World} {B : Nat} {v : Value} {p : Nat} {r : List Nat} (h : w.ownsRow B 3 1 v (p :: r).length (Cp.ints (p :: r))) : ∃ g d, v = .slice (some ⟨g, 0, none⟩) (r.length + 1) d ∧ w.cell? ⟨g, 0, none⟩ = some (.int .i64 ((p : Nat) : Int)) := by
  rcases Cp.IntsAt.of h with ⟨h0, _⟩ | ⟨g, cap, hv, _, _, hc⟩
  · cases h0
  · exact ⟨g, cap, hv, hc 0 (by simp)⟩
set_option maxRecDepth 100000 in
set_option maxHeartbeats 8000000 in
theorem initial_any {x : Sx} (sx : x.s.size ≤ 4096) (st : Int) (nu ig uf : Bool) (w : World) :
    Calls Try.prog 32 #[.string x.s, opV st nu ig uf] w (IniAns (faultN st [x]) (iniB (wts nu ig uf x.P)) w) := by
  have cE := fun w' => prims_any sx st nu ig uf w'
  have hpr := wts_pr (nu := nu) (ig := ig) (uf := uf) sx
  have hln := wts_len nu ig uf x sx
  generalize wts nu ig uf x.P = ws at *
  generalize faultN st [x] = f at *
  have o1 := ObjAt.new w #[.int .i64 st, .bool nu, .bool ig, .bool uf] 23
  have hB : Below w.heap.size w (w.alloc (.cells #[.int .i64 st, .bool nu, .bool ig, .bool uf] 23)) := (Below.refl _ w).alloc (Nat.le_refl _) _
  unfold opV at *
  have z0 := o1.o0
  have z1 := o1.o1
  have z2 := o1.o2
  have z3 := o1.o3
  have CE := Go.Lib.hid cE
  clear cE
  go_enter Try.func32, Try.ntmps32
  go_wp2_with fail
  generalize w.alloc (.cells #[.int .i64 st, .bool nu, .bool ig, .bool uf] 23) = W at *
  refine (CE.out W).mono ?_
  rintro e w1 ⟨ve, rfl, hv0, hv1, k1⟩
  have hB1 := hB.trans (k1.mono hB.size)
  clear z0 z1 z2 z3 o1 hB k1
  by_cases h0 : f = 0
  · subst h0
    have hv := hv1 rfl
    clear hv0 hv1
    cases ws with
    | nil =>
      obtain ⟨A, m, d, rfl⟩ := own_slice hv
      obtain rfl : m = 0 := by
        rcases hv.2 with ⟨h1, _⟩ | ⟨g, cap, cur, h1, _⟩
        · injection h1 with _ h2 _
        · injection h1 with _ h2 _
      clear hv
      go_wp2
      go_ret2
      exact ⟨rfl, hB1⟩
    | cons p r =>
      have hp := hpr p (by simp)
      obtain ⟨g, d, rfl, c0⟩ := own_head hv
      have hne : ¬ ((r.length + 1 : Nat) : Int) = 0 := by omega
      have hne2 : ¬ (r.length : Int) + 1 = 0 := by omega
      have hpos : (0 : Int) < (r.length : Int) + 1 := by omega
      clear hv hpr hln
      obtain ⟨pz, hpz⟩ : ∃ pz : Int, pz = (p : Int) := ⟨_, rfl⟩
      rw [← hpz] at c0
      rcases (show p < 512 ∨ (512 ≤ p ∧ p < 32768) ∨ (32768 ≤ p ∧ p ≤ 32868) ∨ 65536 ≤ p by omega) with h | ⟨h, h'⟩ | ⟨h, h'⟩ | h
      · have HE := Go.Lib.hid (show iniB (p :: r) = [] by rw [ini_cons, if_pos h])
        have i1 : pz < 512 := by omega
        clear h hp hpz
        go_wp2
        go_ret2
        exact ⟨by rw [HE.out]; rfl, hB1⟩
      · have HE := Go.Lib.hid (show iniB (p :: r) = [48, 45, 57] by rw [ini_cons, if_neg (by omega), if_pos h'])
        have i1 : ¬ pz < 512 := by omega
        have i2 : pz < 32768 := by omega
        clear h h' hp hpz
        go_wp2
        go_ret2
        exact ⟨by rw [HE.out]; rfl, hB1⟩
      · have HE := Go.Lib.hid (show iniB (p :: r) = [UInt8.ofNat (65 + (p - 32768) / 4)] by rw [ini_cons, if_neg (by omega), if_neg (by omega), if_pos (by omega)])
        have i1 : ¬ pz < 512 := by omega
        have i2 : ¬ pz < 32768 := by omega
        have i3 : pz < 65536 := by omega
        obtain ⟨qz, hqz⟩ : ∃ qz : Int, qz = pz - 32768 := ⟨_, rfl⟩
        have cv := conv1 w1 (65 + qz / 4) (UInt8.ofNat (65 + (p - 32768) / 4)) (by rw [UInt8.toNat_ofNat', Nat.mod_eq_of_lt (by omega)]; omega)
        have e1 : pz - 32768 = qz := hqz.symm
        have e2 : qz.tdiv 4 = qz / 4 := Int.tdiv_eq_ediv_of_nonneg (by omega)
        have HB2 := Go.Lib.hid (hB1.alloc hB1.size (.cells #[.int .u8 (65 + qz / 4)] 5))
        obtain ⟨S, hS⟩ : ∃ S, S = bs [UInt8.ofNat (65 + (p - 32768) / 4)] := ⟨_, rfl⟩
        rw [← hS] at cv
        have HS := Go.Lib.hid hS
        have i4 : qz / 4 < 191 := by omega
        have i5 : (0 : Int) ≤ qz / 4 := by omega
        have i6 : IntKind.u8.wrap (qz / 4) = qz / 4 := by rw [IntKind.wrap_u8]; omega
        have i7 : IntKind.u8.wrap (65 + qz / 4) = 65 + qz / 4 := by rw [IntKind.wrap_u8]; omega
        clear h h' hp hS hB1 hqz hpz
        go_wp2
        go_ret2
        exact ⟨by rw [HE.out, HS.out]; rfl, HB2.out⟩
      · have HE := Go.Lib.hid (show iniB (p :: r) = [] by rw [ini_cons, if_neg (by omega), if_neg (by omega), if_neg (by omega)])
        have i1 : ¬ pz < 512 := by omega
        have i2 : ¬ pz < 32768 := by omega
        have i3 : ¬ pz < 65536 := by omega
        clear h hp hpz
        go_wp2
        go_ret2
        exact ⟨by rw [HE.out]; rfl, hB1⟩
  · obtain rfl := hv0 h0
    have H0 := Go.Lib.hid h0
    clear hv0 hv1
    go_wp2
    go_ret2
    exact ⟨by rw [if_neg H0.out]; rfl, hB1⟩
end Go.Proofs.Ytknbglcmjggkjaa

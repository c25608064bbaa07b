/- Layer 22: sorted lists of numbers, plainly; the keys of a set, sorted (47, 48); Select (28). -/
import Derived.Test.YtmpklkhjipclmaaVA
import Derived.Test.YtmpklkhjipclmaaSk
namespace Go.Proofs.Ytmpklkhjipclmaa
open Go.RowKit Go.Lib Go.Maps Go.Sort Go.Shelf
set_option linter.unusedVariables false

/-- One more number in its place, once. -/
def insU (L : List Int) (n : Int) : List Int := if n ∈ L then L else L.filter (fun x => decide (x < n)) ++ n :: L.filter (fun x => decide (n < x))
theorem insU_mem (L : List Int) (n x : Int) : x ∈ insU L n ↔ x ∈ L ∨ x = n := by
  unfold insU
  split
  · rename_i h
    constructor
    · exact .inl
    · rintro (h1 | rfl)
      · exact h1
      · exact h
  · rename_i h
    simp only [List.mem_append, List.mem_cons, List.mem_filter, decide_eq_true_eq]
    constructor
    · rintro (⟨h1, _⟩ | rfl | ⟨h1, _⟩)
      · exact .inl h1
      · exact .inr rfl
      · exact .inl h1
    · rintro (h1 | rfl)
      · rcases Int.lt_trichotomy x n with h2 | h2 | h2
        · exact .inl ⟨h1, h2⟩
        · exact .inr (.inl h2)
        · exact .inr (.inr ⟨h1, h2⟩)
      · exact .inr (.inl rfl)
theorem insU_srt {L : List Int} {n : Int} (h : L.Pairwise (· < ·)) : (insU L n).Pairwise (· < ·) := by
  unfold insU
  split
  · exact h
  · refine List.pairwise_append.2 ⟨h.filter _, List.pairwise_cons.2 ⟨fun a ha => by simpa using (List.mem_filter.1 ha).2, h.filter _⟩, fun a ha b hb => ?_⟩
    have h1 : a < n := by simpa using (List.mem_filter.1 ha).2
    rcases List.mem_cons.1 hb with rfl | hb
    · exact h1
    · have h2 : n < b := by simpa using (List.mem_filter.1 hb).2
      omega
/-- A list's numbers in order, each once. -/
def srtU (l : List Int) : List Int := l.foldl insU []
theorem srtU_snoc (l : List Int) (n : Int) : srtU (l ++ [n]) = insU (srtU l) n := by unfold srtU; rw [List.foldl_append]; rfl
theorem foldl_srt (l : List Int) : ∀ L : List Int, L.Pairwise (· < ·) → (l.foldl insU L).Pairwise (· < ·) ∧ ∀ x, x ∈ l.foldl insU L ↔ x ∈ L ∨ x ∈ l := by
  induction l with
  | nil => intro L h; exact ⟨h, fun x => by simp⟩
  | cons a l ih =>
    intro L h
    obtain ⟨h1, h2⟩ := ih (insU L a) (insU_srt h)
    refine ⟨h1, fun x => ?_⟩
    show x ∈ l.foldl insU (insU L a) ↔ _
    rw [h2 x, insU_mem, List.mem_cons, or_assoc]
theorem srtU_srt (l : List Int) : (srtU l).Pairwise (· < ·) := (foldl_srt l [] List.Pairwise.nil).1
theorem srtU_mem (l : List Int) (x : Int) : x ∈ srtU l ↔ x ∈ l := by rw [srtU, (foldl_srt l [] List.Pairwise.nil).2 x]; simp
theorem insU_len (L : List Int) (n : Int) : (insU L n).length ≤ L.length + 1 := by
  unfold insU
  split
  · omega
  · rename_i h
    rw [List.length_append, List.length_cons]
    have : (L.filter (fun x => decide (x < n))).length + (L.filter (fun x => decide (n < x))).length ≤ L.length := by
      clear h
      induction L with
      | nil => simp
      | cons a L ih =>
        rw [List.filter_cons, List.filter_cons]
        by_cases h1 : a < n
        · have h2 : ¬ n < a := by omega
          simp only [h1, h2, decide_true, decide_false, if_true, if_false, List.length_cons, Bool.false_eq_true]
          omega
        · simp only [h1, decide_false, Bool.false_eq_true, if_false]
          by_cases h2 : n < a
          · simp only [h2, decide_true, if_true, List.length_cons]; omega
          · simp only [h2, decide_false, Bool.false_eq_true, if_false, List.length_cons]; omega
    omega
theorem srtU_len (l : List Int) : (srtU l).length ≤ l.length := by
  have : ∀ (l L : List Int), (l.foldl insU L).length ≤ L.length + l.length := by
    intro l
    induction l with
    | nil => intro L; simp
    | cons a l ih => intro L; have := ih (insU L a); have := insU_len L a; simp only [List.foldl_cons, List.length_cons]; omega
  have h := this l []
  rw [List.length_nil, Nat.zero_add] at h
  exact h
theorem srtU_sort (l : List Int) : (srtU l).mergeSort leI = srtU l := by
  have tr : ∀ a b c : Int, leI a b = true → leI b c = true → leI a c = true := fun a b c h1 h2 => by simp only [leI, decide_eq_true_eq] at *; exact Int.le_trans h1 h2
  have to : ∀ a b : Int, (leI a b || leI b a) = true := fun a b => by simp only [leI, Bool.or_eq_true, decide_eq_true_eq]; exact Int.le_total a b
  refine List.Perm.eq_of_pairwise (le := fun a b => leI a b = true) (fun a b _ _ h1 h2 => ?_) (List.pairwise_mergeSort tr to _) ((srtU_srt l).imp (fun {a b} h => by simp only [leI, decide_eq_true_eq]; omega)) (List.mergeSort_perm _ leI)
  simp only [leI, decide_eq_true_eq] at h1 h2
  exact Int.le_antisymm h1 h2
theorem SetI.keys {w : World} {b n : Nat} {l : List Int} {D : DataW Unit} (hD : w.ownsMap Try.prog 3 (plainElem Try.prog 4) b n D) (hf : ∀ a : Int, I64 a → has D (.int .i64 a) = decide (a ∈ l)) (hi : ∀ a ∈ l, I64 a) : (srtU l).Perm (intKeys D) := by
  obtain ⟨es, rfl, hpw, _⟩ := hD.entries (int_keyed Try.underlying3)
  obtain ⟨es', hD', hko⟩ := hD.keysOf
  obtain rfl : es = es' := by simpa using hD'
  have hk : ∀ p ∈ es, ∃ x, p.1 = .int .i64 x ∧ I64 x := fun p hp => by
    obtain ⟨v, hv⟩ := hko p hp
    obtain ⟨x, _, hx, hw⟩ := Maps.keyOf_i64 Try.underlying3 hv
    exact ⟨x, hx, by simpa [Lit.wf, IntKind.bits, IntKind.signed, IntKind.min, IntKind.max, I64] using hw⟩
  refine perm_intKeys hpw (fun p hp => by obtain ⟨x, hx, _⟩ := hk p hp; exact ⟨x, hx⟩) ((srtU_srt l).imp (fun {a b} h => by omega)) (fun x => ?_)
  rw [srtU_mem]
  constructor
  · intro hx
    rw [hf x (hi x hx)]
    exact decide_eq_true hx
  · intro hx
    have h64 : I64 x := by
      rw [has_eq, List.any_eq_true] at hx
      obtain ⟨p, hp, hs⟩ := hx
      obtain ⟨y, hy, hy2⟩ := hk p hp
      rw [hy] at hs
      have e : y = x := by simpa [Lit.sameKey] using hs
      rw [← e]; exact hy2
    rw [hf x h64] at hx
    exact of_decide_eq_true hx
theorem sortsI (m : Nat) : AnyZI.SortsIn Try.prog Try.sorted47_ren Fence.wide m :=
  ⟨fun blk off cap ss W hH hblk hsz => callsIn_wide.2 (AnyM.slices_Sort_int Try.sort71 blk off cap ss W hH hblk hsz),
   fun p cap W => callsIn_wide.2 (AnyM.slices_Sort_int_none Try.sort71 p cap W)⟩
theorem keys48_any (mb : Option Nat) (W : World) : Calls Try.prog 48 #[.map mb] W fun e w' => e = .returned (.func (.func 72) #[] #[.pointer (some ⟨W.heap.size, 0, none⟩)]) ∧ w' = W.alloc (.cells #[.map mb] 71) :=
  (callsIn_wide (n := 5)).1 (AnyZI.keys_in Try.keys48 Fence.wide 5 trivial rfl mb W)
set_option maxHeartbeats 1000000 in
theorem sorted47_own {H : Type} (b nn : Nat) (D0 : DataW H) (R : Value → Option (DataW H × List MemPlace)) (w : World) (hown : w.ownsMap Try.prog 3 R b nn D0) (hmax : Maps.size D0 ≤ maxLen) (hbytes : Maps.size D0 * 8 ≤ 140737488355328) :
    Calls Try.prog 47 #[.func (.func 72) #[] #[.pointer (some ⟨w.heap.size, 0, none⟩)]] (w.alloc (.cells #[.map (some b)] 71)) fun e w' => ∃ (v : Value) (ss : List Int), e = .returned v ∧ ss.Perm (intKeys D0) ∧
      w'.ownsRow (w.alloc (.cells #[.map (some b)] 71)).heap.size 3 1 v ss.length ((ss.mergeSort (fun x y => decide (x ≤ y))).map encZ) ∧ (v = .slice none 0 0 ↔ ss = []) ∧ Below (w.alloc (.cells #[.map (some b)] 71)).heap.size (w.alloc (.cells #[.map (some b)] 71)) w' := by
  have hbl := hown.lt
  have hseq : SeqGives Fence.wide 2 Try.prog 72 #[.pointer (some ⟨w.heap.size, 0, none⟩)] encZ (fun ss => ss.Perm (intKeys D0)) (Maps.size D0) (w.alloc (.cells #[.map (some b)] 71)) :=
    AnyZI.keys_gives (ρ := Try.keys48_ren) { Try.keys48 with } Fence.wide _ trivial rfl (by omega) w.heap.size b nn D0 _ (by simp) (by simp) (by
      obtain ⟨es, clock, hb, Ft, hs, hD⟩ := hown
      exact ⟨es, clock, (Below.heap_alloc _ _ b hbl).trans hb, Ft, hs, hD⟩)
  exact (callsIn_wide (n := 5)).1 (AnyZI.sorted_in Try.sorted47 Fence.wide 5 trivial trivial trivial trivial rfl (by omega) (sortsI _) (enters_of Try.func71 (by kernel_rfl) rfl) 72 #[.pointer (some ⟨w.heap.size, 0, none⟩)] trivial (enters_of Try.func72 (by kernel_rfl) rfl) _ _ hmax hbytes _ hseq)
/-- Numbers in a row of one's own. -/
def NsR (base : Nat) (L : List Int) (w : World) (e : Ending) (w' : World) : Prop := ∃ A cb, e = .returned (.slice A L.length cb) ∧ w'.ownsRow base 3 1 (.slice A L.length cb) L.length (L.map encZ) ∧ Below w.heap.size w w'
theorem sorted47_any (b n : Nat) (l : List Int) (w : World) (hS : SetI w b n l) (h1000 : n ≤ 1000) :
    Calls Try.prog 47 #[.func (.func 72) #[] #[.pointer (some ⟨w.heap.size, 0, none⟩)]] (w.alloc (.cells #[.map (some b)] 71)) (NsR w.heap.size (srtU l) (w.alloc (.cells #[.map (some b)] 71))) := by
  obtain ⟨D, hD, hf, _, hi⟩ := hS
  have hp := SetI.keys hD (fun a ha => (hf a ha).1) hi
  have hsz := hD.size_le
  refine (sorted47_own b n D _ w hD (by unfold maxLen; omega) (by omega)).mono ?_
  rintro e w' ⟨v, ss, rfl, hss, hrow, _, hb⟩
  have e1 : ss.mergeSort (fun x y => decide (x ≤ y)) = srtU l := by
    rw [show (ss.mergeSort (fun x y => decide (x ≤ y))) = (srtU l).mergeSort leI from mergeSort_of_perm_i (hss.trans hp.symm)]
    exact srtU_sort l
  have e2 : ss.length = (srtU l).length := (hss.trans hp.symm).length_eq
  rw [e1, e2] at hrow
  rcases hrow.2 with ⟨hv, h0⟩ | ⟨g, cap, cur, hv, _⟩
  · exact ⟨none, 0, by rw [hv, h0], by have := own_lower hrow (b' := w.heap.size) (by simp); rw [hv, h0] at this; rw [h0]; exact this, hb⟩
  · exact ⟨_, cap, by rw [hv], by have := own_lower hrow (b' := w.heap.size) (by simp); rw [hv] at this; exact this, hb⟩
theorem make71n (w : World) : (Instr.makeMap 71 none).run Try.prog w = .ok (.map (some w.heap.size)) (w.alloc (.map #[] 0)) := by
  simp [Instr.makeMap, Result.andThen]
/-- What a filter selects. -/
def selI (f : Fl) (l : List Rv) : List Int := (l.filter (selQ f)).map (·.id)
theorem selI_snoc (f : Fl) (l : List Rv) (k : Nat) (h : k < l.length) : selI f (l.take (k + 1)) = selI f (l.take k) ++ (if selQ f l[k] = true then [l[k].id] else []) := by
  unfold selI
  rw [List.take_succ_eq_append_getElem h, List.filter_append, List.map_append]
  congr 1
  rw [List.filter_cons]
  split <;> simp_all
/-- What comes in as a table. -/
def RsOk (l : List Rv) : Prop := ∀ x ∈ l, I64 x.id ∧ I64 x.time ∧ x.author.size ≤ maxLen
set_option maxRecDepth 100000 in
set_option maxHeartbeats 16000000 in
theorem select_any (l : List Rv) (n : Nat) (hn : l.length = n) (h1000 : n ≤ 1000) (hok : RsOk l) (A : Option Addr) (c : Nat) (f : Fl) (hf : FlOk f) (B : Option Addr) (d : Nat) (B' : Option Addr) (d' : Nat) (w : World) (hA : RsAt w A l) (hB : SsAt w B f.authors) (hB' : NsAt w B' f.ids) :
    Calls Try.prog 28 #[.slice A n c, flV f B d B' d'] w (NsR w.heap.size (srtU (selI f l)) w) := by
  have b0 := (Below.refl w.heap.size w).alloc (Nat.le_refl _) (.cells #[.slice B f.authors.length d, .int .i64 f.frm, .int .i64 f.to, .slice B' f.ids.length d'] 52)
  have cC := condition_any f hf B d B' d' (w.alloc (.cells #[.slice B f.authors.length d, .int .i64 f.frm, .int .i64 f.to, .slice B' f.ids.length d'] 52)) (hB.below b0) (hB'.below b0)
  have HB0 := Lib.hid b0
  have s0 := b0.size
  have HA := Lib.hid hA
  have HN := Lib.hid hn
  have HOK := Lib.hid hok
  clear b0 hA hB hB' hn hok hf
  go_enter Try.func28, Try.ntmps28
  go_wp2_with fail
  (with_reducible refine cC.mono ?_)
  rintro e w1 ⟨cb, rfl, hC, k1⟩
  have K1 := Lib.hid (HB0.out.trans (k1.mono s0))
  have s1 := K1.out.size
  have HC := Lib.hid hC
  have hcb := hC.lt
  clear cC k1 hC
  have hmk := make71n w1
  have B1 := Lib.hid ((Below.refl w1.heap.size w1).alloc (Nat.le_refl _) (.map #[] 0))
  have S0 := Lib.hid (SetI.new w1)
  go_wp2_with fail
  clear hmk
  go_loopw [8, 14] (fun _ s14 wr => ∃ k : Nat, k ≤ n ∧ s14 = .int .i64 (k : Nat) ∧ Hid (SetI wr w1.heap.size k (selI f (l.take k))) ∧ Hid (Below w1.heap.size w1 wr)) (fun _ s14 _ => n - (intOf s14).toNat)
  case atStart => exact ⟨0, Nat.zero_le _, rfl, S0, B1⟩
  case round =>
    clear S0 B1
    obtain ⟨k, hk, rfl, HS, HB⟩ := hrel
    have sB := HB.out.size
    have hbl := HS.out.lt
    by_cases hlt : k < n
    · have hkl : k < l.length := by rw [HN.out]; exact hlt
      obtain ⟨g, o, rfl, hg, hcl⟩ := HA.out.pos (by omega)
      obtain ⟨c0, c1, c2⟩ := hcl k hkl
      have KW := K1.out.trans (HB.out.mono s1)
      have z0 := (KW.cell (p := ⟨g, o + k * 3, none⟩) hg).trans c0
      have z1 := (KW.cell (p := ⟨g, o + k * 3 + 1, none⟩) hg).trans c1
      have z2 := (KW.cell (p := ⟨g, o + k * 3 + 2, none⟩) hg).trans c2
      have f1 : (k : Int) < (n : Int) := by omega
      obtain ⟨i1, i2, i3⟩ := HOK.out _ (List.getElem_mem hkl)
      have cc := cond_any f cb l[k] i1 i3 (wr.alloc (.cells #[.int .i64 l[k].id, .string l[k].author, .int .i64 l[k].time] 23)) ((HC.out.below HB.out).below ((Below.refl wr.heap.size wr).alloc (Nat.le_refl _) (.cells #[.int .i64 l[k].id, .string l[k].author, .int .i64 l[k].time] 23)))
      have HL := Lib.hid (selI_snoc f l k hkl)
      have I1 := Lib.hid i1
      clear hcl c0 c1 c2 KW i2 i3 i1
      generalize l[k] = x at z0 z1 z2 cc HL I1
      obtain ⟨a, s, t⟩ := x
      dsimp only at z0 z1 z2 cc I1
      have U := Lib.hid (ObjAt.new wr #[.int .i64 a, .string s, .int .i64 t] 23)
      have B5 := Lib.hid (HB.out.alloc sB (.cells #[.int .i64 a, .string s, .int .i64 t] 23))
      have s5 := B5.out.size
      have HS5 := Lib.hid (HS.out.kept (World.grownBy_alloc wr (.cells #[.int .i64 a, .string s, .int .i64 t] 23) none) (by simp))
      cases hv : selQ f ⟨a, s, t⟩ with
      | false =>
        rw [hv] at cc
        have HL2 := Lib.hid (HL.out.trans (by rw [hv, if_neg (by decide), List.append_nil]))
        clear HL hv
        go_wp2_with fail
        (with_reducible refine cc.mono ?_)
        rintro e w7 ⟨rfl, k7⟩
        have B7 := Lib.hid (B5.out.trans (k7.mono s5))
        have HS7 := Lib.hid ((HS5.out.below HS5.out.lt k7).mono (Nat.le_succ k))
        clear cc k7 z0 z1 z2 HS5
        go_wp2
        go_roundw
        case rel => exact ⟨k + 1, by omega, by go_num, Lib.hid (by rw [HL2.out]; exact HS7.out), B7⟩
        case measure => simp [intOf]; omega
      | true =>
        rw [hv] at cc
        have HL2 := Lib.hid (HL.out.trans (by rw [hv, if_pos rfl]))
        clear HL hv
        go_wp2_with fail
        (with_reducible refine cc.mono ?_)
        rintro e w7 ⟨rfl, k7⟩
        have B7 := Lib.hid (B5.out.trans (k7.mono s5))
        have s7 := B7.out.size
        have u0 := (U.out.below k7).b0
        obtain ⟨w8, hru, hS8, hg8⟩ := (HS5.out.below HS5.out.lt k7).put (by unfold maxLen; omega) I1.out
        have B8 := Lib.hid (B7.out.grown hg8 s7 (fun e h => by cases h; exact Nat.le_refl _))
        have HS8 := Lib.hid hS8
        clear cc k7 z0 z1 z2 HS5 hS8 hg8
        go_wp2
        go_roundw
        case rel => exact ⟨k + 1, by omega, by go_num, Lib.hid (by rw [HL2.out]; exact HS8.out), B8⟩
        case measure => simp [intOf]; omega
    · obtain rfl : k = n := by omega
      have cK := keys48_any (some w1.heap.size) wr
      have HS2 := Lib.hid (by have := HS.out; rw [List.take_of_length_le (by rw [HN.out]; exact Nat.le_refl _)] at this; exact this : SetI wr w1.heap.size k (selI f l))
      have cS := sorted47_any w1.heap.size k (selI f l) wr HS2.out h1000
      have HBW := Lib.hid ((HB.out.alloc sB (.cells #[.map (some w1.heap.size)] 71)))
      have sBW := HBW.out.size
      go_wp2_with (first
        | (go_at_call 48; (with_reducible refine cK.mono ?_); rintro e w' ⟨rfl, rfl⟩)
        | (go_at_call 47; (with_reducible refine cS.mono ?_); rintro e w7 ⟨AA, cbb, rfl, hr, k7⟩)
        | fail)
      go_ret
      exact ⟨AA, cbb, rfl, own_lower (b' := w.heap.size) hr (by omega), K1.out.trans ((HBW.out.trans (k7.mono sBW)).mono s1)⟩
end Go.Proofs.Ytmpklkhjipclmaa

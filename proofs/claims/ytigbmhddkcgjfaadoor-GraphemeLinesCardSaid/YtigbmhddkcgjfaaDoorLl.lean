import Derived.Test.YtigbmhddkcgjfaaDoorLb
namespace Go.Proofs.YtigbmhddkcgjfaaDoor
open Go.RowKit Go.Shelf
open Gc

theorem inner_snoc (cs : List Int) (r : List Int) (k : Nat) (c : Int) : inner r k (cs ++ [c]) = inner r k cs ++ if refB (cs.reverse ++ r) c then [((k + cs.length : Nat) : Int)] else [] := by
  induction cs generalizing r k with
  | nil => by_cases h : refB r c = true <;> simp [inner, h]
  | cons a cs ih =>
    rw [List.cons_append, inner, ih, inner, List.append_assoc]
    have e : (a :: cs).reverse ++ r = cs.reverse ++ (a :: r) := by simp
    rw [e]
    have e2 : k + 1 + cs.length = k + (a :: cs).length := by rw [List.length_cons]; omega
    rw [e2]
theorem cls_len_inner (c : Int) (cs : List Int) : (cls (c :: cs)).length = (inner [c] 1 cs).length + 1 := by
  have h := congrArg List.length (bnd_bounds (c :: cs))
  rw [List.length_map, bnd_len] at h
  simp [bounds] at h
  omega
theorem cls_len_snoc (c : Int) (cs : List Int) (d : Int) : (cls ((c :: cs) ++ [d])).length = (cls (c :: cs)).length + if refB ((c :: cs).reverse) d then 1 else 0 := by
  rw [List.cons_append, cls_len_inner, cls_len_inner, inner_snoc, List.length_append]
  have e : cs.reverse ++ [c] = (c :: cs).reverse := by simp
  rw [e]
  split <;> simp
theorem refB_asc : ∀ f c : Int, (f = 0 ∨ f = 1 ∨ f = 2 ∨ f = 3) → (c = 0 ∨ c = 1 ∨ c = 2 ∨ c = 3) → ∀ r, refB (f :: r) c = !(decide (f = 1) && decide (c = 2)) := by
  intro f c hf hc r
  unfold refB
  rcases hf with rfl | rfl | rfl | rfl <;> rcases hc with rfl | rfl | rfl | rfl <;> simp [Gc.control, Gc.syllable]
theorem asc_class : ∀ p < 128, (classOf (p : Nat) = 0 ∨ classOf (p : Nat) = 1 ∨ classOf (p : Nat) = 2 ∨ classOf (p : Nat) = 3) ∧ (classOf (p : Nat) = 1 ↔ p = 13) ∧ (classOf (p : Nat) = 2 ↔ p = 10) := by decide +kernel
/-- How many clusters these points have. -/
def lc (l : List Nat) : Nat := (cls (cp l)).length
theorem lc_nil : lc [] = 0 := rfl
theorem lc_one (p : Nat) : lc [p] = 1 := by
  unfold lc
  show (cls [classOf (p : Nat)]).length = 1
  rw [cls_len_inner]; rfl
theorem lc_snoc (l : List Nat) (q p : Nat) (hq : q < 128) (hp : p < 128) : lc (l ++ [q] ++ [p]) = lc (l ++ [q]) + if p = 10 ∧ q = 13 then 0 else 1 := by
  have e : ∀ a b : List Nat, cp (a ++ b) = cp a ++ cp b := fun a b => by simp [cp, clsOf]
  have e1 : ∀ a : Nat, cp [a] = [classOf (a : Nat)] := fun a => rfl
  unfold lc
  rw [e (l ++ [q]) [p], e1]
  obtain ⟨c, cs, hcs⟩ : ∃ c cs, cp (l ++ [q]) = c :: cs := by
    cases h : cp (l ++ [q]) with
    | nil => rw [e] at h; simp [e1] at h
    | cons c cs => exact ⟨c, cs, rfl⟩
  rw [hcs, cls_len_snoc, ← hcs, e, e1, List.reverse_append]
  simp only [List.reverse_cons, List.reverse_nil, List.nil_append, List.cons_append]
  rw [refB_asc _ _ (asc_class q hq).1 (asc_class p hp).1]
  have h1 := (asc_class q hq).2.1
  have h2 := (asc_class p hp).2.2
  have h3 : (p = 10 ∧ q = 13) ↔ (classOf (p : Nat) = 2 ∧ classOf (q : Nat) = 1) := by rw [h1, h2]
  simp only [h3]
  by_cases a : classOf (q : Nat) = 1 <;> by_cases b : classOf (p : Nat) = 2 <;> simp [a, b]
theorem lc_le (l : List Nat) : lc l ≤ l.length := by
  have := bnd_length_le (cp l)
  unfold lc
  simpa [cp, clsOf] using this

/-- The text of points below 128. -/
def asc (l : List Nat) : ByteArray := ⟨(l.map fun p => p.toUInt8).toArray⟩
theorem asc_str (l : List Nat) (hl : l.length ≤ 100000) (h : ∀ p ∈ l, p < 128) : Str (asc l) l [] := by
  refine ⟨fun p hp => ?_, ?_, rfl, ?_⟩
  · have := h p hp
    exact ⟨by omega, by omega⟩
  · rw [List.append_nil]
    show (l.map fun p => p.toUInt8) = U.bytes l
    induction l with
    | nil => rfl
    | cons p l ih =>
      rw [U.bytes_cons, List.map_cons, ih (by simp at hl; omega) (fun x hx => h x (List.mem_cons_of_mem _ hx))]
      have hp := h p (List.mem_cons_self ..)
      have : U.enc p = [p.toUInt8] := by
        unfold U.enc U.encN
        rw [if_pos (by omega)]; rfl
      rw [this]; rfl
  · unfold asc
    show (l.map _).toArray.size ≤ _
    simp; exact hl

theorem asc_snoc (l : List Nat) (p : Nat) : asc (l ++ [p]) = asc l ++ ⟨#[p.toUInt8]⟩ := by
  apply ByteArray.ext
  rw [ByteArray.data_append]
  unfold asc
  simp
theorem asc_size (l : List Nat) : (asc l).size = l.length := by
  show (l.map _).toArray.size = _
  simp

theorem conv_one (w : World) (p : Nat) (hp : p < 128) : (convert 52 9 (.slice (some ⟨w.heap.size, 0, none⟩) 1 1)).run Tryd.prog (w.alloc (.cells #[.int .u8 p] 5)) = .ok (.string ⟨#[p.toUInt8]⟩) (w.alloc (.cells #[.int .u8 p] 5)) := by
  refine run_convert_bytes_back _ 52 9 5 _ 1 [p.toUInt8] Tryd.underlying52 Tryd.underlying5 Tryd.underlying9 ?_
  intro j hj
  match j, hj with
  | 0, _ =>
    have e : (p.toUInt8.toNat : Int) = p := by simp [Nat.toUInt8]; omega
    rw [List.getElem_cons_zero, e]; simp [Addr.add]
set_option maxRecDepth 100000 in
set_option maxHeartbeats 4000000 in
theorem lines_some (b off len cap : Nat) (zs : List Int) (ps : List Nat) (n : Nat) (hn : ps.length = n) (hzn : zs.length = n) (hn0 : 0 < n) (hn1 : n ≤ 300) (hmin : min (len : Int) 300 = (n : Int)) (hnl : n ≤ len) (hl : len ≤ cap) (hcap : cap ≤ maxLen)
    (hp : ∀ p ∈ ps, p < 128) (hpz : ∀ k (h : k < zs.length) (h2 : k < ps.length), (zs[k]).tmod 128 = (ps[k] : Nat) ∧ 0 ≤ zs[k] ∧ zs[k] ≤ 255) (w : World) (hb : b < w.heap.size)
    (hc : ∀ k (h : k < zs.length), w.cell? ⟨b, off + k, none⟩ = some (.int .u8 zs[k])) (hT : Tabs w) :
    Calls Tryd.prog 11 #[.slice (some ⟨b, off, none⟩) len cap] w (BoolPost true w) := by
  have HT := Go.Lib.hid hT
  have HC := Go.Lib.hid hc
  have HP := Go.Lib.hid hp
  have HZ := Go.Lib.hid hpz
  have N := Go.Lib.hid hn
  have M := Go.Lib.hid hzn
  unfold maxLen at hcap
  clear hT hc hp hpz hn hzn
  go_enter Tryd.func11, Tryd.ntmps11
  go_wp2
  go_loopw [3, 4, 5] (fun o c i wr => ∃ k : Nat, k ≤ n ∧ i = .int .i64 (k : Nat) ∧ o = .string (asc (ps.take k)) ∧ c = .int .i64 (lc (ps.take k) : Nat) ∧ Hid (Below w.heap.size w wr)) (fun _ _ i _ => n - (intOf i).toNat)
  case atStart => exact ⟨0, Nat.zero_le _, rfl, rfl, rfl, Go.Lib.hid (Below.refl _ _)⟩
  case round =>
    obtain ⟨k, hk, rfl, rfl, rfl, HB⟩ := hrel
    have hwr := HB.out.size
    by_cases hlt : k < n
    · have hkz : k < zs.length := by have := M.out; omega
      have hkp : k < ps.length := by have := N.out; omega
      have c1 : wr.cell? ⟨b, off + k, none⟩ = some (.int .u8 zs[k]) := (HB.out.cell (p := ⟨b, off + k, none⟩) hb).trans (HC.out k hkz)
      obtain ⟨z1, z2, z3⟩ := HZ.out k hkz hkp
      have z4 := HP.out _ (List.getElem_mem hkp)
      have hle := lc_le (ps.take k)
      have hsz := asc_size (ps.take k)
      have htl : (ps.take k).length = k := by rw [List.length_take]; omega
      rw [htl] at hle hsz
      have hst := asc_snoc (ps.take k) ps[k]
      rw [← List.take_succ_eq_append_getElem hkp] at hst
      have HST := Go.Lib.hid hst
      by_cases hk0 : k = 0
      · subst hk0
        rw [Nat.add_zero] at c1
        have hl1 : lc (ps.take (0 + 1)) = lc (ps.take 0) + 1 := by
          rw [List.take_succ_eq_append_getElem hkp]; simp [lc_one, lc_nil]
        have HL1 := Go.Lib.hid hl1
        generalize hP : ps[0] = p at z1 z4 HST
        generalize zs[0] = z at c1 z1 z2 z3
        generalize asc (ps.take 0) = T at HST hsz
        generalize lc (ps.take 0) = q at HL1 hle
        clear hst hl1 hP
        have kc := conv_one wr p z4
        by_cases h10 : p = 10
        all_goals
          first | have hb := (show (((p : Nat) : Int) != 10) = false by subst h10; rfl) | have hb := (show (((p : Nat) : Int) != 10) = true by simp; omega)
          clear h10
          go_wp2
          go_roundw
          case rel => exact ⟨0 + 1, by omega, by go_num, by rw [HST.out], by rw [HL1.out]; rfl, Go.Lib.hid (by first | exact HB.out.alloc hwr _ | exact HB.out)⟩
          case measure => simp [intOf]; omega
      · obtain ⟨m, rfl⟩ : ∃ m, k = m + 1 := ⟨k - 1, by omega⟩
        have hmz : m < zs.length := by omega
        have hmp : m < ps.length := by omega
        have c2 : wr.cell? ⟨b, off + m, none⟩ = some (.int .u8 zs[m]) := (HB.out.cell (p := ⟨b, off + m, none⟩) hb).trans (HC.out m hmz)
        obtain ⟨y1, y2, y3⟩ := HZ.out m hmz hmp
        have y4 := HP.out _ (List.getElem_mem hmp)
        have hl1 := lc_snoc (ps.take m) ps[m] ps[m + 1] y4 z4
        rw [← List.take_succ_eq_append_getElem hmp, ← List.take_succ_eq_append_getElem hkp] at hl1
        have HL1 := Go.Lib.hid hl1
        have hm1 : ((m + 1 : Nat) : Int) - 1 = (m : Nat) := by omega
        have hm2 : (((m + 1 : Nat) : Int) == 0) = false := by simp; omega
        generalize ps[m + 1] = p at z1 z4 HST HL1
        generalize ps[m] = r at y1 y4 HL1
        generalize zs[m + 1] = z at c1 z1 z2 z3
        generalize zs[m] = y at c2 y1 y2 y3
        generalize asc (ps.take (m + 1)) = T at HST hsz
        generalize lc (ps.take (m + 1)) = q at HL1 hle
        clear hst hl1
        have kc := conv_one wr p z4
        by_cases h10 : p = 10
        · have hb := (show (((p : Nat) : Int) != 10) = false by subst h10; rfl)
          by_cases h13 : r = 13
          · have HL2 := Go.Lib.hid (show lc (ps.take (m + 1 + 1)) = q by rw [HL1.out, if_pos ⟨h10, h13⟩]; rfl)
            have hb2 := (show (((r : Nat) : Int) != 13) = false by subst h13; rfl)
            clear h10 h13
            go_wp2
            go_roundw
            case rel => exact ⟨m + 1 + 1, by omega, by go_num, by rw [HST.out], by rw [HL2.out], Go.Lib.hid (by first | exact HB.out.alloc hwr _ | exact HB.out)⟩
            case measure => simp [intOf]; omega
          · have HL2 := Go.Lib.hid (show lc (ps.take (m + 1 + 1)) = q + 1 by rw [HL1.out, if_neg (fun h => h13 h.2)])
            have hb2 := (show (((r : Nat) : Int) != 13) = true by simp; omega)
            clear h10 h13
            go_wp2
            go_roundw
            case rel => exact ⟨m + 1 + 1, by omega, by go_num, by rw [HST.out], by rw [HL2.out]; rfl, Go.Lib.hid (by first | exact HB.out.alloc hwr _ | exact HB.out)⟩
            case measure => simp [intOf]; omega
        · have HL2 := Go.Lib.hid (show lc (ps.take (m + 1 + 1)) = q + 1 by rw [HL1.out, if_neg (fun h => h10 h.1)])
          have hb := (show (((p : Nat) : Int) != 10) = true by simp; omega)
          clear h10
          go_wp2
          go_roundw
          case rel => exact ⟨m + 1 + 1, by omega, by go_num, by rw [HST.out], by rw [HL2.out]; rfl, Go.Lib.hid (by first | exact HB.out.alloc hwr _ | exact HB.out)⟩
          case measure => simp [intOf]; omega
    · obtain rfl : k = n := by omega
      have htk : ps.take k = ps := List.take_of_length_le (by have := N.out; omega)
      rw [htk]
      have kC := fun w' hT' => count_any (asc_str ps (by have := N.out; omega) HP.out) w' hT'
      have hle := lc_le ps
      rw [N.out] at hle
      change ∀ w', Tabs w' → Calls Tryd.prog 21 #[.string (asc ps)] w' (Pair2 (.int .i64 (lc ps : Nat)) (.int .i64 0) w') at kC
      generalize asc ps = T at kC
      generalize lc ps = q at kC hle
      go_wp2_with (first
        | (go_at_call 21; (with_reducible refine (kC _ (HT.out.below HB.out)).mono ?_); rintro e w4 ⟨rfl, b4⟩; have B4 := Go.Lib.hid (HB.out.trans (b4.mono HB.out.size)); clear b4)
        | (go_at_call 12; (with_reducible refine (known_any _ (HT.out.below B4.out)).mono ?_); rintro e w5 ⟨rfl, b5⟩; have B5 := Go.Lib.hid (B4.out.trans (b5.mono B4.out.size)); clear b5))
      go_ret
      exact ⟨ret_bool (by simp), B5.out⟩

theorem empty_lines : Str ByteArray.empty [] [] := ⟨(fun _ h => by cases h), rfl, rfl, by decide⟩
set_option maxRecDepth 100000 in
set_option maxHeartbeats 4000000 in
theorem lines_none (a : Option Addr) (cap : Nat) (hcap : cap ≤ maxLen) (w : World) (hT : Tabs w) :
    Calls Tryd.prog 11 #[.slice a 0 cap] w (BoolPost true w) := by
  have HT := Go.Lib.hid hT
  clear hT
  unfold maxLen at hcap
  have kC : ∀ w', Tabs w' → Calls Tryd.prog 21 #[.string ⟨#[]⟩] w' (Pair2 (.int .i64 0) (.int .i64 0) w') := fun w' hT' => count_any empty_lines w' hT'
  go_enter Tryd.func11, Tryd.ntmps11
  go_wp2
  go_loopw [3, 4, 5] (fun o c i wr => wr = w ∧ i = .int .i64 0 ∧ o = .string ⟨#[]⟩ ∧ c = .int .i64 0) (fun _ _ _ _ => 0)
  case atStart => exact ⟨rfl, rfl, rfl, rfl⟩
  case round =>
    obtain ⟨rfl, rfl, rfl, rfl⟩ := hrel
    go_wp2_with (first
      | (go_at_call 21; (with_reducible refine (kC _ HT.out).mono ?_); rintro e w4 ⟨rfl, b4⟩; have B4 := Go.Lib.hid b4; clear b4)
      | (go_at_call 12; (with_reducible refine (known_any _ (HT.out.below B4.out)).mono ?_); rintro e w5 ⟨rfl, b5⟩; have B5 := Go.Lib.hid (B4.out.trans (b5.mono B4.out.size)); clear b5))
    go_ret
    exact ⟨ret_bool (by simp), B5.out⟩
end Go.Proofs.YtigbmhddkcgjfaaDoor

/- Layer 6: Key (21). -/
import Derived.Test.YtknbglcmjggkjaaU4
namespace Go.Proofs.Ytknbglcmjggkjaa
open Go.RowKit Go.Shelf Go.Lib Co

def bs (l : List UInt8) : ByteArray := ⟨l.toArray⟩
theorem bs_list (s : ByteArray) : bs s.data.toList = s := by unfold bs; cases s; simp
theorem bs_size (l : List UInt8) : (bs l).size = l.length := by unfold bs; simp [ByteArray.size]
theorem bs_data (l : List UInt8) : (bs l).data.toList = l := by unfold bs; simp
theorem elems_len (nu ig : Bool) (up : Nat) (l : List Nat) : (elems nu up ig l).length ≤ 2 * l.length := by
  induction hn : l.length using Nat.strongRecOn generalizing l with
  | ind n ih =>
    cases l with
    | nil => rw [elems_nil]; simp
    | cons c r =>
      rw [elems]
      simp only [List.length_cons] at hn
      by_cases h : nu = true ∧ 0 < digs (c :: r)
      · rw [if_pos h, List.length_append]
        have h1 := numE_len (Q := (c :: r).take (digs (c :: r)))
        have h2 := digs_le (c :: r)
        simp only [List.length_cons] at h2
        have h3 : ((c :: r).drop (digs (c :: r))).length = r.length + 1 - digs (c :: r) := by rw [List.length_drop, List.length_cons]
        have h4 := ih _ (by rw [h3]; omega) ((c :: r).drop (digs (c :: r))) rfl
        rw [List.length_take, List.length_cons] at h1
        rw [h3] at h4
        omega
      · rw [if_neg h, List.length_append]
        have h1 := pointE_len up ig c
        have h4 := ih r.length (by omega) r rfl
        omega
theorem oneE_ok {up : Nat} {ig : Bool} {c : Nat} (hu : up ≤ 3) (hc : c ≤ 1114111) : ∀ e ∈ oneE up ig c, ElOk e := by
  intro e he
  unfold oneE at he
  repeat' split at he
  all_goals first
    | (simp at he; done)
    | (rw [List.mem_singleton] at he; subst he; refine ⟨?_, ?_, ?_⟩ <;> simp only <;> omega)
theorem strip_mem (l : List Nat) : ∀ c ∈ strip l, c ∈ l := by
  induction l with
  | nil => intro c hc; exact hc
  | cons a r ih =>
    cases r with
    | nil => intro c hc; exact hc
    | cons b r =>
      intro c hc
      unfold strip at hc
      split at hc
      · exact List.mem_cons_of_mem _ (ih c hc)
      · exact hc
theorem strip_len (l : List Nat) : (strip l).length ≤ l.length := by
  induction l with
  | nil => exact Nat.le_refl _
  | cons c r ih =>
    cases r with
    | nil => exact Nat.le_refl _
    | cons d r => unfold strip; split <;> simp at * <;> omega
theorem elems_ok {nu ig : Bool} {up : Nat} (hu : up ≤ 3) (l : List Nat) (hl : l.length ≤ 5000) (hp : ∀ c ∈ l, c ≤ 1114111) : ∀ e ∈ elems nu up ig l, ElOk e := by
  induction hn : l.length using Nat.strongRecOn generalizing l with
  | ind n ih =>
    cases l with
    | nil => rw [elems_nil]; intro e he; simp at he
    | cons c r =>
      rw [elems]
      simp only [List.length_cons] at hn hl
      have h2 := digs_le (c :: r)
      simp only [List.length_cons] at h2
      by_cases h : nu = true ∧ 0 < digs (c :: r)
      · rw [if_pos h]
        intro e he
        rcases List.mem_append.1 he with he | he
        · unfold numE at he
          rcases List.mem_cons.1 he with rfl | he
          · have h5 := strip_len ((c :: r).take (digs (c :: r)))
            rw [List.length_take, List.length_cons] at h5
            refine ⟨?_, ?_, ?_⟩ <;> simp only <;> omega
          · obtain ⟨d, hd, rfl⟩ := List.mem_map.1 he
            have := hp d (List.mem_of_mem_take (strip_mem _ d hd))
            refine ⟨?_, ?_, ?_⟩ <;> simp only <;> omega
        · have h3 : ((c :: r).drop (digs (c :: r))).length = r.length + 1 - digs (c :: r) := by rw [List.length_drop, List.length_cons]
          exact ih _ (by rw [h3]; omega) _ (by rw [h3]; omega) (fun d hd => hp d (List.mem_of_mem_drop hd)) rfl e he
      · rw [if_neg h]
        intro e he
        rcases List.mem_append.1 he with he | he
        · unfold pointE at he
          by_cases h6 : pairN c = (0, 0)
          · rw [if_pos h6] at he
            exact oneE_ok hu (hp c (by simp)) e he
          · rw [if_neg h6] at he
            obtain ⟨_, _, p2, p3, _⟩ := pair_facts c (pair_hi h6).2 h6
            rcases List.mem_append.1 he with he | he
            · exact oneE_ok hu (by omega) e he
            · exact oneE_ok hu (by omega) e he
        · exact ih r.length (by omega) r (by omega) (fun d hd => hp d (List.mem_cons_of_mem _ hd)) rfl e he
theorem upN_le (uf : Bool) : upN uf ≤ 3 := by cases uf <;> decide
theorem encL_len (n : Nat) (ws : List Nat) : (encL n ws).length = n * ws.length + n := by rw [encL_eq, List.length_append, encs_len, encW_len]
/-- The key's parts. -/
def lvs (s : List UInt8) (l : List El) : List (List UInt8) := [encL 3 (lev (fun e => e.1) l), encL 2 (lev (fun e => e.2.1) l), encL 1 (lev (fun e => e.2.2) l), s]
def keyN (k : Nat) (s : List UInt8) (l : List El) : List UInt8 := ((lvs s l).take k).flatten
theorem keyN_B {k : Nat} (h1 : 1 ≤ k) (h2 : k ≤ 4) (s : List UInt8) (l : List El) : keyN k s l = keyB k s l := by
  rcases (show k = 1 ∨ k = 2 ∨ k = 3 ∨ k = 4 by omega) with rfl | rfl | rfl | rfl <;> simp [keyN, lvs, keyB]
theorem keyN_len (k : Nat) (s : List UInt8) (l : List El) : (keyN k s l).length ≤ 6 * l.length + 6 + s.length := by
  have h1 := lev_len (fun e => e.1) l
  have h2 := lev_len (fun e => e.2.1) l
  have h3 := lev_len (fun e => e.2.2) l
  have e1 := encL_len 3 (lev (fun e => e.1) l)
  have e2 := encL_len 2 (lev (fun e => e.2.1) l)
  have e3 := encL_len 1 (lev (fun e => e.2.2) l)
  have e0 : (keyN k s l).length ≤ (lvs s l).flatten.length := by
    have := congrArg (fun x => x.flatten.length) (List.take_append_drop k (lvs s l))
    simp only [List.flatten_append, List.length_append] at this
    unfold keyN
    omega
  refine Nat.le_trans e0 ?_
  unfold lvs
  simp only [List.flatten_cons, List.flatten_nil, List.length_append, List.length_nil]
  omega
theorem Byt.conv {B : Nat} {W : World} {v : Value} {l : List UInt8} (h : Byt B W v l) (hl : l ≠ []) : (convert 65 9 v).run Try.prog W = .ok (.string (bs l)) W := by
  have h0 : W.ownsRow B 5 1 v l.length (bv l) := h
  rcases h0.2 with ⟨_, hn⟩ | ⟨g, cap, cur, rfl, _⟩
  · exact absurd (List.eq_nil_of_length_eq_zero hn) hl
  · refine run_convert_bytes_back _ 65 9 5 ⟨g, 0, none⟩ cap l Try.underlying65 Try.underlying5 Try.underlying9 (fun j hj => ?_)
    rw [show ((⟨g, 0, none⟩ : Addr).add j) = ⟨g, j, none⟩ by simp [Addr.add, eq_comm], h0.cellAt j (by omega)]
    simp [bv, hj]
/-- What Key hands back. -/
def KeyAns (er : Int) (key : List UInt8) (w : World) (e : Ending) (w' : World) : Prop :=
  e = .returned (.tuple #[.string (bs (if er = 0 then key else [])), .int .i64 er]) ∧ Below w.heap.size w w'
set_option maxRecDepth 100000 in
set_option maxHeartbeats 8000000 in
theorem key_any {s : ByteArray} {P : List Nat} {bad : List UInt8} (hs : Cp.Str s P bad) (st : Int) (nu ig uf : Bool) (w : World) :
    Calls Try.prog 21 #[.string s, opV st nu ig uf] w (KeyAns (errS st s bad) (keyB st.toNat s.data.toList (elems nu (upN uf) ig P)) w) := by
  have hB : Below w.heap.size w (w.alloc (.cells #[.int .i64 st, .bool nu, .bool ig, .bool uf] 23)) := (Below.refl _ w).alloc (Nat.le_refl _) _
  have hlW : w.heap.size < (w.alloc (.cells #[.int .i64 st, .bool nu, .bool ig, .bool uf] 23)).heap.size := by rw [World.size_alloc]; exact Nat.lt_succ_self _
  have z0 : (w.alloc (.cells #[.int .i64 st, .bool nu, .bool ig, .bool uf] 23)).cell? ⟨w.heap.size, 0, none⟩ = some (.int .i64 st) := by rw [World.cell?_alloc_new]; rfl
  have cE := fun w' => elements_any hs st nu ig uf w'
  have cE := Go.Lib.hid cE
  unfold opV
  go_enter Try.func21, Try.ntmps21
  go_wp2_with fail
  generalize w.alloc (.cells #[.int .i64 st, .bool nu, .bool ig, .bool uf] 23) = W at *
  refine (cE.out W).mono ?_
  rintro e w1 ⟨ve, rfl, hv0, hv1, k1⟩
  have hB1 : Below w.heap.size w w1 := hB.trans (k1.mono (Nat.le_of_lt hlW))
  have y0 := (k1.cell (p := ⟨w.heap.size, 0, none⟩) hlW).trans z0
  have hs1 := hB1.size
  have hl1 : w.heap.size < w1.heap.size := Nat.lt_of_lt_of_le hlW k1.size
  clear z0 hB hlW
  by_cases h0 : errS st s bad = 0
  · have HV := Go.Lib.hid (hv1 h0)
    obtain ⟨⟨hst1, hst2⟩, hs4, hbad⟩ := errS_zero h0
    subst hbad
    have hPl := pts_len hs
    have hll := elems_len nu ig (upN uf) P
    have hok := elems_ok (nu := nu) (ig := ig) (upN_le uf) P (by omega) (pts_le hs)
    have H0 := Go.Lib.hid h0
    rw [h0]
    clear hv0 hv1 k1 h0 cE
    obtain ⟨l, hlE⟩ : ∃ l, elems nu (upN uf) ig P = l := ⟨_, rfl⟩
    rw [hlE] at HV hll hok
    have HLE := Go.Lib.hid hlE
    clear hlE
    obtain ⟨A, m, d, rfl⟩ := own_slice HV.out
    have hin := ElsIn.of HV.out
    have hlm : l.length = m := by
      rcases hin with ⟨e1, e2⟩ | ⟨g, cap, e2, _⟩
      · cases e2; rw [e1]; rfl
      · injection e2 with _ e3 _; exact e3.symm
    have hdis : ∀ g, (Value.slice A m d).ownBlock = some g → g < w1.heap.size := fun g hg => (World.ownsRow.lt (show World.ownsRow _ _ _ _ _ _ _ from HV.out) g hg).2
    clear HV
    obtain ⟨n, rfl⟩ : ∃ n : Nat, st = (n : Nat) := ⟨st.toNat, by omega⟩
    have hn1 : (n : Int) ≤ 4 := hst2
    have hn0 : (0 : Int) ≤ (n : Int) := by omega
    have HIN := Go.Lib.hid hin
    have HOK := Go.Lib.hid hok
    have HDS := Go.Lib.hid hdis
    have HLM := Go.Lib.hid hlm
    have hmm : m ≤ 10000 := by omega
    clear hin hok hdis hlm
    go_wp2_with fail
    go_region_held3 (fun w' => w'.cell? ⟨w.heap.size, 0, none⟩ = some (.int .i64 (n : Nat)))
      (first
        | exact y0
        | exact (((Below.refl w1.heap.size w1).drew.alloc (Nat.le_refl _) _).cell (p := ⟨w.heap.size, 0, none⟩) hl1).trans y0)
      (first
        | (go_at_call 39; with_reducible refine (levels_any _).mono ?_; rintro e w2 ⟨rfl, rfl⟩))
    have hf : ObjAt (w1.alloc (.cells lvF 75)).drew w1.heap.size lvF 75 := World.alloc_heap_new w1 _
    have hb5 : Below w1.heap.size w1 (w1.alloc (.cells lvF 75)).drew := ((Below.refl w1.heap.size w1).alloc (Nat.le_refl _) _).drew
    have hs5 := hb5.size
    generalize (w1.alloc (.cells lvF 75)).drew = W5 at hf hb5 hs5 ⊢
    have HIN5 := Go.Lib.hid (ElsIn.below HIN.out hb5)
    have hB5 : Below w.heap.size w W5 := hB1.trans (hb5.mono hs1)
    have hss : s.data.toList.length = s.size := Array.length_toList
    clear hb5 hB1 HIN y0
    go_wp2
    go_loopw [8, 25] (fun kv sv wr => ∃ k : Nat, k ≤ n ∧ sv = .int .i64 (k : Nat) ∧ Byt W5.heap.size wr kv (keyN k s.data.toList l) ∧ Below W5.heap.size W5 wr) (fun _ sv _ => n - (RowKit.intOf sv).toNat)
    case atStart => exact ⟨0, Nat.zero_le _, rfl, World.ownsRow_nil _ _ _ _, Below.refl _ _⟩
    case round =>
      obtain ⟨k, hk, rfl, hvk, hbk⟩ := hrel
      have hsk := hbk.size
      have hkl := keyN_len k s.data.toList l
      by_cases hlt : k < n
      · have j1 : (k : Int) < (n : Int) := by omega
        rcases (show k = 0 ∨ k = 1 ∨ k = 2 ∨ k = 3 by omega) with rfl | rfl | rfl | rfl
        · have HK := Go.Lib.hid (show keyN 0 s.data.toList l ++ encL 3 (lev (fun e => e.1) l) = keyN 1 s.data.toList l by simp [keyN, lvs])
          have c0 : wr.cell? ⟨w1.heap.size, 0, none⟩ = some (.func (.func 58) #[] #[]) := World.grownBy.cell (grown_below hbk rfl) (hf.get (k := 0) rfl) (by simp)
          go_wp2_with (go_at_call 58; (refine (lev3_any _ hsk hvk HLM.out hmm (by omega) (ElsIn.below HIN5.out hbk) (fun g hg => Nat.lt_of_lt_of_le (HDS.out g hg) hs5) HOK.out).mono ?_); rintro e w5 ⟨v5, rfl, hv5, hb5⟩)
          have HV5 := Go.Lib.hid (show Byt W5.heap.size w5 v5 (keyN 1 s.data.toList l) by rw [← HK.out]; exact hv5)
          have HB5 := Go.Lib.hid (hbk.trans hb5)
          clear hv5 hb5 hvk
          go_wp2
          go_roundw
          case rel => exact ⟨1, by omega, by go_num, HV5.out, HB5.out⟩
          case measure => simp [RowKit.intOf]; omega
        · have HK := Go.Lib.hid (show keyN 1 s.data.toList l ++ encL 2 (lev (fun e => e.2.1) l) = keyN 2 s.data.toList l by simp [keyN, lvs])
          have c0 : wr.cell? ⟨w1.heap.size, 1, none⟩ = some (.func (.func 62) #[] #[]) := World.grownBy.cell (grown_below hbk rfl) (hf.get (k := 1) rfl) (by simp)
          go_wp2_with (go_at_call 62; (refine (lev2_any _ hsk hvk HLM.out hmm (by omega) (ElsIn.below HIN5.out hbk) (fun g hg => Nat.lt_of_lt_of_le (HDS.out g hg) hs5) HOK.out).mono ?_); rintro e w5 ⟨v5, rfl, hv5, hb5⟩)
          have HV5 := Go.Lib.hid (show Byt W5.heap.size w5 v5 (keyN 2 s.data.toList l) by rw [← HK.out]; exact hv5)
          have HB5 := Go.Lib.hid (hbk.trans hb5)
          clear hv5 hb5 hvk
          go_wp2
          go_roundw
          case rel => exact ⟨2, by omega, by go_num, HV5.out, HB5.out⟩
          case measure => simp [RowKit.intOf]; omega
        · have HK := Go.Lib.hid (show keyN 2 s.data.toList l ++ encL 1 (lev (fun e => e.2.2) l) = keyN 3 s.data.toList l by simp [keyN, lvs])
          have c0 : wr.cell? ⟨w1.heap.size, 2, none⟩ = some (.func (.func 64) #[] #[]) := World.grownBy.cell (grown_below hbk rfl) (hf.get (k := 2) rfl) (by simp)
          go_wp2_with (go_at_call 64; (refine (lev1_any _ hsk hvk HLM.out hmm (by omega) (ElsIn.below HIN5.out hbk) (fun g hg => Nat.lt_of_lt_of_le (HDS.out g hg) hs5) HOK.out).mono ?_); rintro e w5 ⟨v5, rfl, hv5, hb5⟩)
          have HV5 := Go.Lib.hid (show Byt W5.heap.size w5 v5 (keyN 3 s.data.toList l) by rw [← HK.out]; exact hv5)
          have HB5 := Go.Lib.hid (hbk.trans hb5)
          clear hv5 hb5 hvk
          go_wp2
          go_roundw
          case rel => exact ⟨3, by omega, by go_num, HV5.out, HB5.out⟩
          case measure => simp [RowKit.intOf]; omega
        · have HK := Go.Lib.hid (show keyN 3 s.data.toList l ++ s.data.toList = keyN 4 s.data.toList l by simp [keyN, lvs])
          have c0 : wr.cell? ⟨w1.heap.size, 3, none⟩ = some (.func (.func 66) #[] #[]) := World.grownBy.cell (grown_below hbk rfl) (hf.get (k := 3) rfl) (by simp)
          go_wp2_with (go_at_call 66; go_loud (refine (lev4_any _ hsk hvk (by omega) (by omega)).mono ?_); rintro e w5 ⟨v5, rfl, hv5, hb5⟩)
          have HV5 := Go.Lib.hid (show Byt W5.heap.size w5 v5 (keyN 4 s.data.toList l) by rw [← HK.out]; exact hv5)
          have HB5 := Go.Lib.hid (hbk.trans hb5)
          clear hv5 hb5 hvk
          go_wp2
          go_roundw
          case rel => exact ⟨4, by omega, by go_num, HV5.out, HB5.out⟩
          case measure => simp [RowKit.intOf]; omega
      · obtain rfl : k = n := by omega
        have j1 : ¬ (k : Int) < (k : Int) := by omega
        have hK1 := keyN_B (show 1 ≤ k by omega) (show k ≤ 4 by omega) s.data.toList l
        rw [hK1] at hvk
        have hne : keyB k s.data.toList l ≠ [] := by
          intro e
          have := congrArg List.length e
          unfold keyB at this
          simp only [List.length_append, encL_len, List.length_nil] at this
          omega
        have cC := hvk.conv hne
        have HB := Go.Lib.hid (hB5.trans (hbk.mono hB5.size))
        clear hK1 hne
        go_wp2
        go_ret2
        exact ⟨by rw [if_pos H0.out, H0.out, HLE.out]; rfl, HB.out⟩
  · have H0 := Go.Lib.hid (hv0 h0)
    have h0' := h0
    clear hv1
    have HE := Go.Lib.hid h0
    obtain rfl := H0.out
    go_wp2
    go_ret2
    exact ⟨by rw [if_neg HE.out]; rfl, hB1⟩
end Go.Proofs.Ytknbglcmjggkjaa

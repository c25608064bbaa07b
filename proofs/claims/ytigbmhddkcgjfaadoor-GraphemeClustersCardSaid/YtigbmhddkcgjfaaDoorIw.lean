import Derived.Test.YtigbmhddkcgjfaaDoorIt
import Derived.RangeFuncBound
import Derived.RangeFuncLeaves
import Derived.Shelf.Abstract
import Derived.Shelf.RegionOpen
import Derived.OwnWalkIn
import Derived.TacticsInMore
import Derived.LoopNIn
import Derived.LoopIn
import Derived.Laws.RangeAny
namespace Go.Proofs.YtigbmhddkcgjfaaDoor
open Go.RowKit Go.Shelf Go.Lib
open Gc

attribute [local go_sem] Oper.semAt_some

def clV (s : ByteArray) (P : List Nat) (x : Nat × Nat) : Value := .agg #[.int .i64 (x.2 : Nat), .string (s.extract (U.off P x.1) (U.off P x.2))]
def encC (s : ByteArray) (P : List Nat) (x : Nat × Nat) : Array Value := #[clV s P x]

/-- How the iterator ends. -/
def IterPost (cf : Int → Int) (P : List Nat) (J Jx : List (Nat × Nat) → World → Prop) (e : Ending) (W' : World) : Prop :=
  (∃ v, e = .returned v) ∧ ((∃ xs, xs = cls (clsOf cf P) ∧ J xs W') ∨ (∃ pre, pre <+: cls (clsOf cf P) ∧ Jx pre W'))

set_option maxRecDepth 100000 in
set_option maxHeartbeats 4000000 in
theorem iter_gen (l : List Span) (cf : Int → Int) (hT : ∀ w, Calls Tryd.prog 32 #[] w (GetsObj l w))
    (hC : ∀ g p w, Row w g l → Calls Tryd.prog 31 #[.slice (some ⟨g, 0, none⟩) l.length l.length, .int .i64 p] w (IntPost (cf p) w))
    (n : Nat) (hn : 1 ≤ n) (L Bs : Nat) (s : ByteArray) (P : List Nat) (hP : U.Pts P) (hs : s.data.toList = U.bytes P) (hsz : s.size ≤ maxLen) (J Jx : List (Nat × Nat) → World → Prop) (W : World)
    (hJ : AbT TT W.heap.size J) (hstr : W.heap[Bs]? = some (.cells #[.string s] 9 (0, 0)))
    (hY : ∀ pre x W1, J pre W1 → pre.length < (cls (clsOf cf P)).length → YieldAt Fence.wide (n - 1) Tryd.prog L (encC s P x) W1 fun e W' =>
      (e = .returned (.bool true) ∧ J (pre ++ [x]) W' ∧ Kpt TT Bs W1 W') ∨ (e = .returned (.bool false) ∧ Jx (pre ++ [x]) W')) (h0 : J [] W) :
    CallsIn Fence.wide n Tryd.prog 47 #[.func (.yield L) #[] #[], .pointer (some ⟨Bs, 0, none⟩)] W (IterPost cf P J Jx) := by
  refine callsIn_of_wp Tryd.func47 rfl trivial ?_ rfl
  simp only [Tryd.ntmps47, List.size_toArray, List.length_cons, List.length_nil, Nat.reduceAdd, Nat.reduceSub, Array.replicate_succ, Array.replicate_zero, List.push_toArray, List.append_toArray, List.nil_append, List.cons_append]
  have hBs : W.cell? ⟨Bs, 0, none⟩ = some (.string s) := by simp [World.cell?, hstr]
  have hBlt : Bs < W.heap.size := (Array.getElem?_eq_some_iff.1 hstr).1
  unfold maxLen at hsz
  generalize hlen : l.length = ln at hC hT
  have hPs : P.length ≤ s.size := by
    have h1 := (U.bytes_len P).1
    have h2 : s.size = (U.bytes P).length := by rw [← hs]; simp
    omega
  gi_wp2_with (refine ⟨trivial, ?_⟩; gi_at_call 32; refine (callsIn_wide.2 (hT _)).mono ?_; rintro e w1 ⟨g, rfl, ho1, hb1, hg1⟩; have O1 := Go.Lib.hid ho1; clear ho1; have hc1 := (hb1.cell (p := ⟨Bs, 0, none⟩) hBlt).trans hBs; have hlt1 : Bs < w1.heap.size := Nat.lt_of_lt_of_le hBlt hb1.size; have hne1 : ¬ Bs = w1.heap.size := Nat.ne_of_lt hlt1)
  obtain ⟨gs, hgs⟩ : ∃ gs, w1.heap.size = gs := ⟨_, rfl⟩
  have hB1 : W.heap.size ≤ gs := by rw [← hgs]; exact hb1.size
  have M0 : Mid l s Bs g gs (gs + 1) J St.zero 0 [] ((w1.alloc (.cells #[.int .i64 0, .bool false, .bool false, .bool false] 85)).iter s 0) := by
    have key : ∀ (k : Nat) (o : Obj), w1.heap[k]? = some o → ((w1.alloc (.cells #[.int .i64 0, .bool false, .bool false, .bool false] 85)).iter s 0).heap[k]? = some o := fun k o hk => by
      have h1 := (Array.getElem?_eq_some_iff.1 hk).1
      exact (Below.heap_alloc _ _ _ (by simp; omega)).trans ((Below.heap_alloc _ _ _ h1).trans hk)
    refine ⟨key _ _ O1.out, ?_, ?_, key _ _ ((hb1.block Bs hBlt).trans hstr), ?_⟩
    · rw [← hgs]
      exact (Below.heap_alloc _ _ _ (by simp)).trans (World.alloc_heap_new w1 _)
    · have := World.alloc_heap_new (w1.alloc (.cells #[.int .i64 0, .bool false, .bool false, .bool false] 85)) (.stringIter s 0)
      rw [World.size_alloc, hgs] at this
      exact this
    · exact hJ [] _ _ none (hJ [] _ _ none (hJ [] W w1 none h0 (grown_below hb1 rfl) (fun _ e => by cases e)) (World.grownBy_alloc _ _ none) (fun _ e => by cases e)) (World.grownBy_alloc _ _ none) (fun _ e => by cases e)
  have MH := Go.Lib.hid M0
  clear M0
  rw [hgs]
  generalize (w1.alloc (.cells #[.int .i64 0, .bool false, .bool false, .bool false] 85)).iter s 0 = w2 at MH ⊢
  clear hne1 hc1 hlt1 hb1 O1 hBs hg1 hstr
  gi_loopw [5, 6] (fun s5 s6 wr => ∃ (k j : Nat) (pre : List (Nat × Nat)), s5 = .int .i64 (U.off P j : Nat) ∧ s6 = .int .i64 (k : Nat) ∧ Hid (Rest cf P k j pre) ∧ Hid (Mid l s Bs g gs (gs + 1) J (stOf (clsOf cf (P.take k)).reverse) (U.off P k) pre wr))
    (fun _ s6 _ => P.length - (intOf s6).toNat)
  case atStart => exact ⟨0, 0, [], rfl, rfl, Go.Lib.hid (Rest.zero cf P), MH⟩
  case round =>
    clear MH
    obtain ⟨k, j, pre, rfl, rfl, R, M⟩ := hrel
    have hkle := R.out.1
    have hjk := R.out.2.1
    have hoj : U.off P j ≤ U.off P k := U.off_mono P j k hjk
    by_cases hlt : k < P.length
    · obtain ⟨hp1, hp2, hp3⟩ := rune_at hP hs k hlt
      have hnx := fun ty => run_next_any_at (P := Tryd.prog) wr (gs + 1) s (U.off P k) ty M.out.it hp1
      have MN := Go.Lib.hid (M.out.next hJ (by omega) (U.off P (k + 1)))
      rw [hp2, hp3] at hnx
      have hpt : (P[k] : Nat) ≤ 1114111 := (hP.get k hlt).1
      have RG := Go.Lib.hid (fun h => R.out.go hlt h)
      have RC := Go.Lib.hid (fun h h' => R.out.cut hlt h h')
      have RS := Go.Lib.hid (fun h => R.out.short h)
      have hbd := boundary_ref (clsOf cf (P.take k)).reverse (cf (P[k] : Nat))
      have hrv := rev_succ cf P k hlt
      have hst : stOf (clsOf cf (P.take (k + 1))).reverse = (stOf (clsOf cf (P.take k)).reverse).add (cf (P[k] : Nat)) := by rw [hrv]; rfl
      have HST := Go.Lib.hid hst
      clear hst hrv hp2 hp3 R M
      generalize wr.iterAt (gs + 1) s (U.off P (k + 1)) = w3 at hnx MN
      generalize (P[k] : Nat) = p at hnx hpt RG RC hbd HST
      generalize stOf (clsOf cf (P.take k)).reverse = st at MN hbd HST
      generalize hbb : refB (clsOf cf (P.take k)).reverse (cf p) = bb at hbd RG RC
      have HBD := Go.Lib.hid hbd
      clear hbd hbb
      have hpi : (0 : Int) ≤ (p : Int) := by omega
      have hok2 : U.off P k ≤ s.size := by omega
      have hpi2 : (p : Int) ≤ 1114111 := by omega
      obtain ⟨ok, hok⟩ : ∃ ok, U.off P k = ok := ⟨_, rfl⟩
      obtain ⟨oj, hojj⟩ : ∃ oj, U.off P j = oj := ⟨_, rfl⟩
      have OK := Go.Lib.hid hok
      have OJ := Go.Lib.hid hojj
      rw [hok] at hnx hp1 hoj hok2
      rw [hojj] at hoj
      rw [hojj]
      clear hok hojj
      have hc := fun w3 (M3 : Mid l s Bs g gs (gs + 1) J st (U.off P (k + 1)) pre w3) => hC g (p : Int) w3 (row_of_obj M3.tab)
      by_cases hk0 : k = 0
      · subst hk0
        gi_wp2_with (refine ⟨trivial, ?_⟩; gi_at_call 31; (with_reducible refine (callsIn_wide.2 (hc w3 MN.out)).mono ?_); rintro e w4 ⟨rfl, hb4⟩; have M4 := Go.Lib.hid (MN.out.below hJ hb4))
        refine ⟨trivial, ?_⟩
        gi_wp2_with ((refine ⟨trivial, ?_⟩; gi_at_call 49; (with_reducible refine (callsIn_wide.2 (add_any gs st (cf p) w4 M4.out.st)).mono ?_); rintro e w5 ⟨rfl, hs5, hg5⟩; have M5 := Go.Lib.hid (M4.out.add hJ hB1 hs5 hg5); clear hs5))
        go_roundw
        case rel => exact ⟨1, j, pre, by rw [OJ.out], rfl, Go.Lib.hid (RG.out (by simp)), Go.Lib.hid (by rw [HST.out]; exact M5.out)⟩
        case measure => simp [intOf]; omega
      · have hk1 : 0 < k := by omega
        have hlen := RS.out hk1
        have HL := Go.Lib.hid hlen
        clear hlen
        cases bb with
        | false =>
          gi_wp2_with (first
            | (refine ⟨trivial, ?_⟩; gi_at_call 31; (with_reducible refine (callsIn_wide.2 (hc w3 MN.out)).mono ?_); rintro e w4 ⟨rfl, hb4⟩; have M4 := Go.Lib.hid (MN.out.below hJ hb4); have cB := boundary_any gs st (cf p) w4 M4.out.st; rw [HBD.out] at cB)
            | (refine ⟨trivial, ?_⟩; gi_at_call 48; (with_reducible refine (callsIn_wide.2 cB).mono ?_); rintro e w5 ⟨rfl, hb5⟩; have M5 := Go.Lib.hid (M4.out.below hJ hb5); clear cB)
            | (refine ⟨trivial, ?_⟩; gi_at_call 49; (with_reducible refine (callsIn_wide.2 (add_any gs st (cf p) w5 M5.out.st)).mono ?_); rintro e w6 ⟨rfl, hs6, hg6⟩; have M6 := Go.Lib.hid (M5.out.add hJ hB1 hs6 hg6); clear hs6))
          go_roundw
          case rel => exact ⟨k + 1, j, pre, by rw [OJ.out], by go_num, Go.Lib.hid (RG.out (by simp)), Go.Lib.hid (by rw [HST.out]; exact M6.out)⟩
          case measure => simp [intOf]; omega
        | true =>
          gi_wp2_with (first
            | (refine ⟨trivial, ?_⟩; gi_at_call 31; (with_reducible refine (callsIn_wide.2 (hc w3 MN.out)).mono ?_); rintro e w4 ⟨rfl, hb4⟩; have M4 := Go.Lib.hid (MN.out.below hJ hb4); have cB := boundary_any gs st (cf p) w4 M4.out.st; rw [HBD.out] at cB)
            | (refine ⟨trivial, ?_⟩; gi_at_call 48; (with_reducible refine (callsIn_wide.2 cB).mono ?_); rintro e w5 ⟨rfl, hb5⟩; have M5 := Go.Lib.hid (M4.out.below hJ hb5); clear cB; have hc5 := M5.out.cell; obtain ⟨fn, tmps, assign, body, hy, hR⟩ := hY pre (j, k) w5 M5.out.inj HL.out; unfold encC clV at hy; dsimp only at hy; rw [OJ.out, OK.out] at hy))
          refine hR.mono ?_
          rintro e w6 (⟨rfl, hJ6, hk6⟩ | ⟨rfl, hJx6⟩)
          · have M6 := Go.Lib.hid (M5.out.yield hk6 hJ6)
            clear hy hc5
            gi_wp2_with (refine ⟨trivial, ?_⟩; gi_at_call 49; (with_reducible refine (callsIn_wide.2 (add_any gs st (cf p) w6 M6.out.st)).mono ?_); rintro e w7 ⟨rfl, hs7, hg7⟩; have M7 := Go.Lib.hid (M6.out.add hJ hB1 hs7 hg7); clear hs7)
            go_roundw
            case rel => exact ⟨k + 1, k, pre ++ [(j, k)], by rw [OK.out], by go_num, Go.Lib.hid (RC.out hk1 (by simp)), Go.Lib.hid (by rw [HST.out]; exact M7.out)⟩
            case measure => simp [intOf]; omega
          · gi_wp2
            refine bodyPost_ret (results_none rfl _ _ _) rfl ?_
            exact ⟨⟨_, rfl⟩, .inr ⟨pre ++ [(j, k)], (RC.out hk1 (by simp)).cutPre, hJx6⟩⟩
    · obtain rfl : k = P.length := by omega
      have hend : U.off P P.length = s.size := by rw [U.off_end, ← hs]; simp
      have hnx := fun ty => run_next_end_at (P := Tryd.prog) wr (gs + 1) s (U.off P P.length) ty M.out.it (by omega)
      have RN := Go.Lib.hid (fun h => R.out.none h)
      have RE := Go.Lib.hid (fun h => R.out.end h)
      have RS := Go.Lib.hid (fun h => R.out.short h)
      by_cases hk0 : P.length = 0
      · have HK := Go.Lib.hid hk0
        rw [hk0]
        clear R
        gi_wp2
        go_end0
        exact ⟨⟨_, rfl⟩, .inl ⟨pre, (RN.out HK.out).symm, M.out.inj⟩⟩
      · have hk1 : 0 < P.length := by omega
        have hlen := RS.out hk1
        have hc5 := M.out.cell
        obtain ⟨fn, tmps, assign, body, hy, hR⟩ := hY pre (j, P.length) wr M.out.inj hlen
        unfold encC clV at hy
        dsimp only at hy
        rw [hend] at hy hoj
        clear hlen R
        have HE := Go.Lib.hid hend
        clear hend
        generalize U.off P j = oj at hoj hy ⊢
        gi_wp2
        refine hR.mono ?_
        rintro e w6 (⟨rfl, hJ6, hk6⟩ | ⟨rfl, hJx6⟩)
        · gi_wp2
          go_end0
          exact ⟨⟨_, rfl⟩, .inl ⟨_, (RE.out hk1).symm, hJ6⟩⟩
        · gi_wp2
          go_end0
          exact ⟨⟨_, rfl⟩, .inr ⟨_, by rw [RE.out hk1]; exact List.prefix_refl _, hJx6⟩⟩

/-- The classes of a string's points. -/
def cp (P : List Nat) : List Int := clsOf classOf P

theorem iter_any (n : Nat) (hn : 1 ≤ n) (Bs : Nat) (s : ByteArray) (P : List Nat) (hP : U.Pts P) (hs : s.data.toList = U.bytes P) (hsz : s.size ≤ maxLen) (w : World) (hstr : w.heap[Bs]? = some (.cells #[.string s] 9 (0, 0))) :
    SeqT TT Bs Fence.wide n Tryd.prog 47 #[.pointer (some ⟨Bs, 0, none⟩)] (fun x => #[clV s P x]) (fun xs => xs = cls (cp P)) (fun pre => pre <+: cls (cp P)) (cls (cp P)).length w := by
  intro L J Jx W hb hJ hJx hY h0
  have hB : Bs < w.heap.size := (Array.getElem?_eq_some_iff.1 hstr).1
  exact iter_gen tabA classOf table_obj (fun g p w R => classIn_any g p w R.1 R) n hn L Bs s P hP hs hsz J Jx W hJ ((hb.block Bs hB).trans hstr) hY h0

theorem clusters_in (s : ByteArray) (n : Nat) (w : World) :
    CallsIn Fence.wide n Tryd.prog 37 #[.string s] w fun e w' => e = .returned (.func (.func 47) #[] #[.pointer (some ⟨w.heap.size, 0, none⟩)]) ∧ w' = w.alloc (.cells #[.string s] 9) := by
  refine callsIn_of_wp Tryd.func37 rfl trivial ?_ rfl
  simp only [Tryd.ntmps37, List.size_toArray, List.length_cons, List.length_nil, Nat.reduceAdd, Nat.reduceSub, Array.replicate_succ, Array.replicate_zero, List.push_toArray, List.append_toArray, List.nil_append, List.cons_append]
  gi_wp2
  go_ret
  exact ⟨rfl, rfl⟩
end Go.Proofs.YtigbmhddkcgjfaaDoor

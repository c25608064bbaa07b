/- Layer 22: insertionSortCmpFunc (81), stable: by the shelf's contract. -/
import Derived.Test.YtmpklkhjipclmaaMS8
namespace Go.Proofs.Ytmpklkhjipclmaa
open Go.RowKit Go.Shelf Go.Lib Go.Sort Sm
variable {α : Type} [Inhabited α] {enc : α → List Value} {k : Nat} {blk off : Nat} {d0 : Array α} {w0 : World} {lt : α → α → Prop} {cf : α → α → Int}

/-- Every element against every earlier one. -/
def Tot (lt : α → α → Prop) (cf : α → α → Int) (d : Array α) (a b : Nat) : Prop := ∀ i j, a ≤ i → i < j → j < b → (cf (Ix d j) (Ix d i) < 0 ↔ lt (Ix d j) (Ix d i)) ∧ (¬ lt (Ix d j) (Ix d i) → lt (Ix d i) (Ix d j))
/-- The inner loop: one element goes down to its place. -/
theorem insInner_rot (o : Ord lt) {dk : Array α} {a i : Nat} (hi : i < dk.size) (sl : Srt lt (Ix dk) a i) (hc : Crs lt cf dk a i (i + 1)) :
    ∀ (n j : Nat) (dj : Array α), j - a = n → a ≤ j → j ≤ i → dj.size = dk.size → Ix dj = rot (Ix dk) j i (i + 1) → (∀ x, j ≤ x → x < i → lt (Ix dk i) (Ix dk x)) →
      (insInner (ltOf cf) a j dj).size = dk.size ∧ Merged lt (Ix dk) (Ix (insInner (ltOf cf) a j dj)) a (i + 1)
  | 0, j, dj, hn, haj, hji, hs, hr, hx => by
    obtain rfl : j = a := by omega
    rw [insInner_stop _ _ _ _ (.inl (Nat.le_refl _)), hr]
    exact ⟨hs, SR.merged ⟨fun x h h' => by omega, hx⟩ (Nat.le_refl _) hji sl fun x y h1 h2 h3 => by omega⟩
  | n + 1, j, dj, hn, haj, hji, hs, hr, hx => by
    obtain ⟨p, rfl⟩ : ∃ p, j = p + 1 := ⟨j - 1, by omega⟩
    have e1 : dj[p + 1]! = Ix dk i := by
      have := congrFun hr (p + 1)
      unfold rot at this
      rw [if_pos (by omega), if_pos (by omega)] at this
      rw [show p + 1 + (i - (p + 1)) = i by omega] at this
      exact this
    have e2 : dj[p]! = Ix dk p := by
      have := congrFun hr p
      unfold rot at this
      rw [if_neg (by omega)] at this
      exact this
    have hcp := hc p i (by omega) (by omega) (Nat.le_refl _) (by omega)
    by_cases hv : cf (Ix dk i) (Ix dk p) < 0
    · have hgo := insInner_go (lt := ltOf cf) a (p + 1) dj (by omega) (by rw [Nat.add_sub_cancel, e1, e2]; exact decide_eq_true hv)
      rw [Nat.add_sub_cancel] at hgo
      rw [hgo]
      refine insInner_rot o hi sl hc n p _ (by omega) (by omega) (by omega) (by rw [size_swp]; exact hs) (rot_bubble_left dk dj (by omega) (by omega) hr) fun x h1 h2 => ?_
      by_cases e : x = p
      · subst e; exact hcp.1.1 hv
      · exact hx x (by omega) h2
    · rw [insInner_stop _ _ _ _ (.inr (by rw [Nat.add_sub_cancel, e1, e2]; exact decide_eq_false hv)), hr]
      refine ⟨hs, SR.merged ⟨fun x h1 h2 => ?_, hx⟩ (by omega) hji sl fun x y h1 h2 h3 => by omega⟩
      have hl : lt (Ix dk p) (Ix dk i) := hcp.2 fun g => hv (hcp.1.2 g)
      by_cases e : x = p
      · subst e; exact hl
      · exact o.trans (sl x p h1 (by omega) (by omega)) hl
omit [Inhabited α] in
theorem seg_snoc (d : Nat → α) {a i : Nat} (h : a ≤ i) : seg d a (i + 1) = seg d a i ++ [d i] := by
  rw [seg_app d h (Nat.le_succ i)]
  congr 1
  unfold seg
  rw [show i + 1 - i = 1 by omega]
  rfl
theorem insOuter_merged (o : Ord lt) {d : Array α} {a b : Nat} (hb : b ≤ d.size) (hT : Tot lt cf d a b) :
    ∀ (n i : Nat) (dk : Array α), b - i = n → a ≤ i → i ≤ b → dk.size = d.size → Merged lt (Ix d) (Ix dk) a i → (insOuter (ltOf cf) a b i dk).size = d.size ∧ Merged lt (Ix d) (Ix (insOuter (ltOf cf) a b i dk)) a b
  | 0, i, dk, hn, hai, hib, hs, hm => by
    obtain rfl : i = b := by omega
    rw [insOuter_stop _ _ _ _ _ (by omega)]
    exact ⟨hs, hm⟩
  | n + 1, i, dk, hn, hai, hib, hs, hm => by
    rw [insOuter_go _ _ _ _ _ (by omega)]
    have hi : Ix dk i = Ix d i := hm.out i (.inr (Nat.le_refl _))
    have hc : Crs lt cf dk a i (i + 1) := fun x j hx hxi hj hj2 => by
      obtain rfl : j = i := by omega
      obtain ⟨q, h1, h2, h3⟩ := seg_mem (hm.perm.subset (mem_seg (Ix dk) hx hxi))
      rw [hi, ← h3]
      exact hT q j h1 h2 (by omega)
    obtain ⟨s1, m1⟩ := insInner_rot o (by omega) hm.srt hc (i - a) i dk rfl hai (Nat.le_refl _) rfl (rot_none_left _ _ _).symm fun x h1 h2 => by omega
    refine insOuter_merged o hb hT n (i + 1) _ (by omega) (by omega) (by omega) (by rw [s1, hs]) ⟨fun x hx => ?_, m1.srt, ?_⟩
    · rw [m1.out x hx, hm.out x (by omega)]
    · refine m1.perm.trans ?_
      rw [seg_snoc _ hai, seg_snoc _ hai, hi]
      exact hm.perm.append_right _
theorem insertionSort_merged (o : Ord lt) {d : Array α} {a b : Nat} (hab : a ≤ b) (hb : b ≤ d.size) (hT : Tot lt cf d a b) : (insertionSort (ltOf cf) d a b).size = d.size ∧ Merged lt (Ix d) (Ix (insertionSort (ltOf cf) d a b)) a b := by
  unfold insertionSort
  by_cases h : a < b
  · exact insOuter_merged o hb hT (b - (a + 1)) (a + 1) d rfl (by omega) (by omega) rfl (Merged.same fun i j h1 h2 h3 => by omega)
  · rw [insOuter_stop _ _ _ _ _ (by omega)]
    exact ⟨rfl, Merged.same fun i j h1 h2 h3 => by omega⟩
def insRen : Go.Shelf.Ren := ⟨fun | 20 => 87 | n => n, fun | 22 => 24 | 24 => 23 | 25 => 85 | n => n, fun | n => n⟩
theorem insLay : SlLaysF0.n20 Try.prog insRen := {
  mixed := by kernel_rfl
  f20 := ⟨Try.f87.name, by kernel_rfl, Try.func87.trans (congrArg some (by kernel_rfl))⟩
  t0 := Try.underlying0
  a0 := Try.isAgg0
  z0 := Try.sizeOf0
  v0 := Try.zeroValue0
  t3 := Try.underlying3
  a3 := Try.isAgg3
  z3 := Try.sizeOf3
  v3 := Try.zeroValue3
  t4 := Try.underlying4
  a4 := Try.isAgg4
  z4 := Try.sizeOf4
  v4 := Try.zeroValue4
  t22 := Try.underlying24
  a22 := Try.isAgg24
  z22 := Try.sizeOf24
  v22 := Try.zeroValue24
  t25 := Try.underlying85
  a25 := Try.isAgg85
  z25 := Try.sizeOf85
  v25 := Try.zeroValue85 }
theorem insertion_any (o : Ord lt) (zE : ∀ w, (Go.sizeOf 23).run Try.prog w = .ok k w) (g : Nat) (cb : Array Value) (cap a b : Nat) (d : Array α) (w : World) (R : RowK enc k w0 blk off d0) (hsz : d0.size < 4611686018427387904)
    (eg : ∀ args w, (callFunc g args).run Try.prog w = .ok (.enter g args) w) (hC : CmpLays Try.prog g cb enc k cf blk off d0.size w0) (hs : d.size = d0.size) (S : SWK enc k w0 blk off d w) (hab : a ≤ b) (hb : b ≤ d.size) (hT : Tot lt cf d a b) :
    Calls Try.prog 87 #[.slice (some ⟨blk, off, none⟩) d0.size cap, .int .i64 a, .int .i64 b, .func (.func g) #[] cb] w (SymOut lt enc k w0 blk off d a b) := by
  obtain ⟨h1, h2⟩ := insertionSort_merged o hab hb hT
  have hC' : CmpLays Try.prog g cb enc k cf blk off d.size w := fun m os dk hdk x y => by
    obtain ⟨n0, os0, rfl⟩ := S
    rw [sortWorldK_on enc k w0 blk off n0 m d dk os0 os R.hblk hdk]
    exact hC _ _ dk (by omega) x y
  rw [← hs]
  refine (AnyQ.insertionSortCmpFunc insLay k Try.isAgg23 zE enc R.hk R.h1 cf g cb blk off cap a b d w eg hC' (S.holds R.hblk R.hH hs) (S.lt R.hblk) hab hb (by omega)).mono ?_
  rintro e w' ⟨rfl, n, os, rfl⟩
  exact ⟨rfl, _, h1, h2, S.on R.hblk n _ os h1⟩
end Go.Proofs.Ytmpklkhjipclmaa

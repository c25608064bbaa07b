/- Layer 22, plainly: merging in place (slices.SortStableFunc's symMerge). -/
import Derived.WalkKit
namespace Sm
variable {α : Type}

/-- A piece of the data. -/
def seg (d : Nat → α) (a b : Nat) : List α := (List.range' a (b - a)).map d
theorem seg_nil (d : Nat → α) {a b : Nat} (h : b ≤ a) : seg d a b = [] := by unfold seg; rw [show b - a = 0 by omega]; rfl
theorem seg_app (d : Nat → α) {a m b : Nat} (h1 : a ≤ m) (h2 : m ≤ b) : seg d a b = seg d a m ++ seg d m b := by
  unfold seg
  rw [← List.map_append]
  congr 1
  have := List.range'_append (s := a) (m := m - a) (n := b - m) (step := 1)
  rw [Nat.one_mul, show a + (m - a) = m by omega, show m - a + (b - m) = b - a by omega] at this
  exact this.symm
theorem seg_mem {d : Nat → α} {a b : Nat} {x : α} (h : x ∈ seg d a b) : ∃ i, a ≤ i ∧ i < b ∧ d i = x := by
  unfold seg at h
  obtain ⟨i, hi, rfl⟩ := List.mem_map.1 h
  have := List.mem_range'_1.1 hi
  exact ⟨i, this.1, by omega, rfl⟩
theorem mem_seg (d : Nat → α) {a b i : Nat} (h1 : a ≤ i) (h2 : i < b) : d i ∈ seg d a b := by
  unfold seg
  exact List.mem_map.2 ⟨i, List.mem_range'_1.2 ⟨h1, by omega⟩, rfl⟩
theorem seg_congr {d d' : Nat → α} {a b : Nat} (h : ∀ i, a ≤ i → i < b → d' i = d i) : seg d' a b = seg d a b := by
  unfold seg
  refine List.map_congr_left fun i hi => ?_
  have := List.mem_range'_1.1 hi
  exact h i this.1 (by omega)
theorem seg_shift {d d' : Nat → α} {a b k : Nat} (h : ∀ i, a ≤ i → i < b → d' (i + k) = d i) : seg d' (a + k) (b + k) = seg d a b := by
  unfold seg
  rw [show b + k - (a + k) = b - a by omega]
  refine List.ext_getElem (by simp) fun j h1 h2 => ?_
  simp at h1 ⊢
  rw [show a + k + j = a + j + k by omega]
  exact h (a + j) (by omega) (by omega)

/-- An order: whatever differs is less or greater. -/
structure Ord (lt : α → α → Prop) : Prop where
  trans : ∀ {x y z}, lt x y → lt y z → lt x z
  irr : ∀ x, ¬ lt x x
/-- A piece is in order. -/
def Srt (lt : α → α → Prop) (d : Nat → α) (a b : Nat) : Prop := ∀ i j, a ≤ i → i < j → j < b → lt (d i) (d j)
theorem Srt.sub {lt : α → α → Prop} {d : Nat → α} {a b a' b' : Nat} (h : Srt lt d a b) (h1 : a ≤ a') (h2 : b' ≤ b) : Srt lt d a' b' := fun i j hi hij hj => h i j (by omega) hij (by omega)
theorem Srt.congr {lt : α → α → Prop} {d d' : Nat → α} {a b : Nat} (h : Srt lt d a b) (he : ∀ i, a ≤ i → i < b → d' i = d i) : Srt lt d' a b := fun i j hi hij hj => by
  rw [he i hi (by omega), he j (by omega) hj]; exact h i j hi hij hj
theorem Srt.shift {lt : α → α → Prop} {d d' : Nat → α} {a b k : Nat} (h : Srt lt d a b) (he : ∀ i, a ≤ i → i < b → d' (i + k) = d i) : Srt lt d' (a + k) (b + k) := fun i j hi hij hj => by
  have h1 := he (i - k) (by omega) (by omega)
  have h2 := he (j - k) (by omega) (by omega)
  rw [show i - k + k = i by omega] at h1
  rw [show j - k + k = j by omega] at h2
  rw [h1, h2]
  exact h _ _ (by omega) (by omega) (by omega)
/-- Two pieces side by side are in order if all of the first one is less than all of the second one. -/
theorem Srt.join {lt : α → α → Prop} {d : Nat → α} {a m b : Nat} (h1 : Srt lt d a m) (h2 : Srt lt d m b) (hc : ∀ i j, a ≤ i → i < m → m ≤ j → j < b → lt (d i) (d j)) : Srt lt d a b := by
  intro i j hi hij hj
  by_cases h3 : j < m
  · exact h1 i j hi hij h3
  · by_cases h4 : i < m
    · exact hc i j hi h4 (by omega) hj
    · exact h2 i j (by omega) hij hj
/-- The elements of two pieces compare as the sort asks: right ones against left ones. -/
def Cross (lt cmp : α → α → Prop) (d : Nat → α) (a m b : Nat) : Prop := ∀ i j, a ≤ i → i < m → m ≤ j → j < b → (cmp (d j) (d i) ↔ lt (d j) (d i)) ∧ (¬ lt (d j) (d i) → lt (d i) (d j))

/-- Where the search begins and ends. -/
def lo (a m b : Nat) : Nat := if m > (a + b) / 2 then (a + b) / 2 + m - b else a
def hi (a m b : Nat) : Nat := if m > (a + b) / 2 then (a + b) / 2 else m
theorem lo_hi {a m b : Nat} (h1 : a ≤ m) (h2 : m ≤ b) : a ≤ lo a m b ∧ lo a m b ≤ hi a m b ∧ hi a m b ≤ m := by
  unfold lo hi
  split <;> omega
theorem mirror {a m b c : Nat} (h1 : a ≤ m) (hc : lo a m b ≤ c) (hc' : c < hi a m b) : a ≤ c ∧ c < m ∧ m ≤ (a + b) / 2 + m - 1 - c ∧ (a + b) / 2 + m - 1 - c < b := by
  unfold lo at hc
  unfold hi at hc'
  split at hc <;> simp_all <;> omega
/-- What the search finds. -/
structure Found (cmp : α → α → Prop) (d : Nat → α) (a m b s : Nat) : Prop where
  ge : lo a m b ≤ s
  le : s ≤ hi a m b
  left : lo a m b < s → ¬ cmp (d ((a + b) / 2 + m - 1 - (s - 1))) (d (s - 1))
  right : s < hi a m b → cmp (d ((a + b) / 2 + m - 1 - s)) (d s)
/-- The end that belongs to a beginning. -/
def fin (a m b s : Nat) : Nat := (a + b) / 2 + m - s
theorem Found.range {cmp : α → α → Prop} {d : Nat → α} {a m b s : Nat} (h : Found cmp d a m b s) (_h1 : a ≤ m) (_h2 : m ≤ b) : a ≤ s ∧ s ≤ m ∧ m ≤ fin a m b s ∧ fin a m b s ≤ b := by
  have g := h.ge
  have l := h.le
  unfold lo at g
  unfold hi at l
  unfold fin
  by_cases hm : m > (a + b) / 2
  · rw [if_pos hm] at g l; omega
  · rw [if_neg hm] at g l; omega
theorem Found.leftLt {lt cmp : α → α → Prop} (o : Ord lt) {d : Nat → α} {a m b s : Nat} (h : Found cmp d a m b s) (h1 : a ≤ m) (h2 : m ≤ b) (sl : Srt lt d a m) (sr : Srt lt d m b) (hc : Cross lt cmp d a m b) : ∀ i j, a ≤ i → i < s → fin a m b s ≤ j → j < b → lt (d i) (d j) := by
  intro i j hi' his hj hjb
  have g := h.ge
  have l := h.le
  have hlh := lo_hi h1 h2
  by_cases hlo : lo a m b < s
  · have hq := h.left hlo
    obtain ⟨m1, m2, m3, m4⟩ := mirror (a := a) (m := m) (b := b) (c := s - 1) h1 (by omega) (by omega)
    have he : (a + b) / 2 + m - 1 - (s - 1) = fin a m b s := by unfold fin; omega
    rw [he] at hq m3 m4
    have hx := (hc (s - 1) (fin a m b s) m1 m2 m3 m4)
    have hlt := hx.2 (fun g => hq (hx.1.2 g))
    have p1 : i = s - 1 ∨ lt (d i) (d (s - 1)) := by
      by_cases e : i = s - 1
      · exact .inl e
      · exact .inr (sl i (s - 1) hi' (by omega) m2)
    have p2 : j = fin a m b s ∨ lt (d (fin a m b s)) (d j) := by
      by_cases e : j = fin a m b s
      · exact .inl e
      · exact .inr (sr (fin a m b s) j m3 (by omega) hjb)
    rcases p1 with rfl | p1
    · rcases p2 with rfl | p2
      · exact hlt
      · exact o.trans hlt p2
    · rcases p2 with rfl | p2
      · exact o.trans p1 hlt
      · exact o.trans p1 (o.trans hlt p2)
  · have hs : s = lo a m b := by omega
    exfalso
    unfold lo at hs
    unfold fin at hj
    split at hs <;> omega
theorem Found.rightLt {lt cmp : α → α → Prop} (o : Ord lt) {d : Nat → α} {a m b s : Nat} (h : Found cmp d a m b s) (h1 : a ≤ m) (h2 : m ≤ b) (sl : Srt lt d a m) (sr : Srt lt d m b) (hc : Cross lt cmp d a m b) : ∀ j i, m ≤ j → j < fin a m b s → s ≤ i → i < m → lt (d j) (d i) := by
  intro j i hj hjf hsi him
  have g := h.ge
  have l := h.le
  have hlh := lo_hi h1 h2
  by_cases hhi : s < hi a m b
  · have hq := h.right hhi
    obtain ⟨m1, m2, m3, m4⟩ := mirror (a := a) (m := m) (b := b) (c := s) h1 (by omega) hhi
    have he : (a + b) / 2 + m - 1 - s = fin a m b s - 1 := by unfold fin; omega
    rw [he] at hq m3 m4
    have hlt := (hc s (fin a m b s - 1) m1 m2 m3 m4).1.1 hq
    have p1 : j = fin a m b s - 1 ∨ lt (d j) (d (fin a m b s - 1)) := by
      by_cases e : j = fin a m b s - 1
      · exact .inl e
      · exact .inr (sr j (fin a m b s - 1) hj (by omega) m4)
    have p2 : i = s ∨ lt (d s) (d i) := by
      by_cases e : i = s
      · exact .inl e
      · exact .inr (sl s i m1 (by omega) him)
    rcases p1 with rfl | p1
    · rcases p2 with rfl | p2
      · exact hlt
      · exact o.trans hlt p2
    · rcases p2 with rfl | p2
      · exact o.trans p1 hlt
      · exact o.trans p1 (o.trans hlt p2)
  · have hs : s = hi a m b := by omega
    exfalso
    unfold hi at hs
    unfold fin at hjf
    split at hs <;> omega

/-- The data behind a rotation: what lay in [m, e) comes ahead of what lay in [s, m). -/
def rot (d : Nat → α) (s m e : Nat) : Nat → α := fun i => if s ≤ i ∧ i < e then (if i < s + (e - m) then d (i + (m - s)) else d (i - (e - m))) else d i
theorem rot_out {d : Nat → α} {s m e i : Nat} (h : i < s ∨ e ≤ i) : rot d s m e i = d i := by unfold rot; rw [if_neg (by omega)]
theorem rot_front {d : Nat → α} {s m e i : Nat} (h1 : s ≤ i) (h2 : i < s + (e - m)) (hs : s ≤ m) (he : m ≤ e) : rot d s m e i = d (i + (m - s)) := by unfold rot; rw [if_pos (by omega), if_pos h2]
theorem rot_back {d : Nat → α} {s m e i : Nat} (h1 : s + (e - m) ≤ i) (h2 : i < e) : rot d s m e i = d (i - (e - m)) := by unfold rot; rw [if_pos (by omega), if_neg (by omega)]
theorem rot_seg {d : Nat → α} {s m e : Nat} (hs : s ≤ m) (he : m ≤ e) : seg (rot d s m e) s (s + (e - m)) = seg d m e ∧ seg (rot d s m e) (s + (e - m)) e = seg d s m := by
  constructor
  · unfold seg
    rw [show s + (e - m) - s = e - m by omega]
    refine List.ext_getElem (by simp) fun j h1 h2 => ?_
    simp at h1 ⊢
    rw [rot_front (by omega) (by omega) hs he]
    congr 1
    omega
  · unfold seg
    rw [show e - (s + (e - m)) = m - s by omega]
    refine List.ext_getElem (by simp) fun j h1 h2 => ?_
    simp at h1 ⊢
    rw [rot_back (by omega) (by omega)]
    congr 1
    omega
theorem rot_perm {d : Nat → α} {a s m e b : Nat} (h1 : a ≤ s) (hs : s ≤ m) (he : m ≤ e) (h2 : e ≤ b) : (seg (rot d s m e) a b).Perm (seg d a b) := by
  obtain ⟨r1, r2⟩ := rot_seg (d := d) hs he
  have e1 : seg (rot d s m e) a s = seg d a s := seg_congr fun i _ hi => rot_out (.inl hi)
  have e2 : seg (rot d s m e) e b = seg d e b := seg_congr fun i hi _ => rot_out (.inr hi)
  have a1 : seg (rot d s m e) a b = seg d a s ++ (seg d m e ++ (seg d s m ++ seg d e b)) := by
    have g1 : seg (rot d s m e) a b = seg (rot d s m e) a s ++ seg (rot d s m e) s b := seg_app _ h1 (by omega)
    have g2 : seg (rot d s m e) s b = seg (rot d s m e) s (s + (e - m)) ++ seg (rot d s m e) (s + (e - m)) b := seg_app _ (by omega) (by omega)
    have g3 : seg (rot d s m e) (s + (e - m)) b = seg (rot d s m e) (s + (e - m)) e ++ seg (rot d s m e) e b := seg_app _ (by omega) h2
    rw [g1, g2, g3, r1, r2, e1, e2]
  have a2 : seg d a b = seg d a s ++ (seg d s m ++ (seg d m e ++ seg d e b)) := by
    have g1 : seg d a b = seg d a s ++ seg d s b := seg_app _ h1 (by omega)
    have g2 : seg d s b = seg d s m ++ seg d m b := seg_app _ hs (by omega)
    have g3 : seg d m b = seg d m e ++ seg d e b := seg_app _ he h2
    rw [g1, g2, g3]
  rw [a1, a2]
  refine List.Perm.append_left _ ?_
  rw [← List.append_assoc, ← List.append_assoc]
  exact List.Perm.append_right _ List.perm_append_comm
/-- What two sorted pieces become. -/
structure Merged (lt : α → α → Prop) (d d' : Nat → α) (a b : Nat) : Prop where
  out : ∀ i, i < a ∨ b ≤ i → d' i = d i
  srt : Srt lt d' a b
  perm : (seg d' a b).Perm (seg d a b)
theorem Merged.same {lt : α → α → Prop} {d : Nat → α} {a b : Nat} (h : Srt lt d a b) : Merged lt d d a b := ⟨fun _ _ => rfl, h, List.Perm.refl _⟩
/-- The pieces behind the rotation. -/
theorem rot_pieces {lt : α → α → Prop} {d : Nat → α} {a s m e b : Nat} (h1 : a ≤ s) (hs : s ≤ m) (he : m ≤ e) (h2 : e ≤ b) (sl : Srt lt d a m) (sr : Srt lt d m b) :
    Srt lt (rot d s m e) a s ∧ Srt lt (rot d s m e) s (s + (e - m)) ∧ Srt lt (rot d s m e) (s + (e - m)) e ∧ Srt lt (rot d s m e) e b := by
  refine ⟨(sl.sub (Nat.le_refl _) hs).congr fun i _ hi => rot_out (.inl hi), fun i j hi hij hj => ?_, fun i j hi hij hj => ?_, (sr.sub he (Nat.le_refl _)).congr fun i hi _ => rot_out (.inr hi)⟩
  · rw [rot_front hi (by omega) hs he, rot_front (by omega) hj hs he]
    exact sr _ _ (by omega) (by omega) (by omega)
  · rw [rot_back hi (by omega), rot_back (by omega) hj]
    exact sl _ _ (by omega) (by omega) (by omega)
theorem rot_cross {lt cmp : α → α → Prop} {d : Nat → α} {a s m e b : Nat} (h1 : a ≤ s) (hs : s ≤ m) (he : m ≤ e) (h2 : e ≤ b) (hc : Cross lt cmp d a m b) :
    Cross lt cmp (rot d s m e) a s (s + (e - m)) ∧ Cross lt cmp (rot d s m e) (s + (e - m)) e b := by
  constructor
  · intro i j hi his hj hjb
    rw [rot_out (.inl his), rot_front hj hjb hs he]
    exact hc _ _ hi (by omega) (by omega) (by omega)
  · intro i j hi his hj hjb
    rw [rot_back hi his, rot_out (.inr hj)]
    exact hc _ _ (by omega) (by omega) (by omega) hjb
/-- An element of the front behind the rotation is a left one ahead of s or a right one ahead of e. -/
theorem rot_front_mem {d : Nat → α} {a s m e : Nat} (hs : s ≤ m) (he : m ≤ e) {x : α} (hx : x ∈ seg (rot d s m e) a (s + (e - m))) : (∃ i, a ≤ i ∧ i < s ∧ d i = x) ∨ ∃ j, m ≤ j ∧ j < e ∧ d j = x := by
  obtain ⟨i, h1, h2, rfl⟩ := seg_mem hx
  by_cases hi : i < s
  · exact .inl ⟨i, h1, hi, (rot_out (.inl hi)).symm⟩
  · exact .inr ⟨i + (m - s), by omega, by omega, (rot_front (by omega) h2 hs he).symm⟩
theorem rot_back_mem {d : Nat → α} {s m e b : Nat} (_hs : s ≤ m) (he : m ≤ e) {x : α} (hx : x ∈ seg (rot d s m e) (s + (e - m)) b) : (∃ i, s ≤ i ∧ i < m ∧ d i = x) ∨ ∃ j, e ≤ j ∧ j < b ∧ d j = x := by
  obtain ⟨i, h1, h2, rfl⟩ := seg_mem hx
  by_cases hi : i < e
  · exact .inl ⟨i - (e - m), by omega, by omega, (rot_back h1 hi).symm⟩
  · exact .inr ⟨i, by omega, h2, (rot_out (.inr (by omega))).symm⟩
/-- Merging both halves behind the rotation merges the whole. -/
theorem merge_step {lt : α → α → Prop} {d d2 d3 : Nat → α} {a s m e b : Nat} (h1 : a ≤ s) (hs : s ≤ m) (he : m ≤ e) (h2 : e ≤ b) (sl : Srt lt d a m) (sr : Srt lt d m b)
    (hl : ∀ i j, a ≤ i → i < s → e ≤ j → j < b → lt (d i) (d j)) (hr : ∀ j i, m ≤ j → j < e → s ≤ i → i < m → lt (d j) (d i))
    (m2 : Merged lt (rot d s m e) d2 a (s + (e - m))) (m3 : Merged lt d2 d3 (s + (e - m)) b) : Merged lt d d3 a b := by
  have q1 : a ≤ s + (e - m) := by omega
  have q2 : s + (e - m) ≤ b := by omega
  have ef : seg d3 a (s + (e - m)) = seg d2 a (s + (e - m)) := seg_congr fun i _ hi => m3.out i (.inl hi)
  have eb : seg d2 (s + (e - m)) b = seg (rot d s m e) (s + (e - m)) b := seg_congr fun i hi _ => m2.out i (.inr hi)
  have pf : (seg d3 a (s + (e - m))).Perm (seg (rot d s m e) a (s + (e - m))) := by rw [ef]; exact m2.perm
  have pb : (seg d3 (s + (e - m)) b).Perm (seg (rot d s m e) (s + (e - m)) b) := by rw [← eb]; exact m3.perm
  refine ⟨fun i hi => ?_, ?_, ?_⟩
  · rw [m3.out i (by omega), m2.out i (by omega), rot_out (by omega)]
  · refine Srt.join (m2.srt.congr fun i _ hi => m3.out i (.inl hi)) m3.srt (fun i j hi hiq hj hjb => ?_)
    have x1 := rot_front_mem hs he (pf.subset (mem_seg d3 hi hiq))
    have x2 := rot_back_mem hs he (pb.subset (mem_seg d3 hj hjb))
    rcases x1 with ⟨i', a1, a2, e1⟩ | ⟨i', a1, a2, e1⟩
    · rcases x2 with ⟨j', b1, b2, e2⟩ | ⟨j', b1, b2, e2⟩
      · rw [← e1, ← e2]; exact sl _ _ a1 (by omega) b2
      · rw [← e1, ← e2]; exact hl _ _ a1 a2 b1 b2
    · rcases x2 with ⟨j', b1, b2, e2⟩ | ⟨j', b1, b2, e2⟩
      · rw [← e1, ← e2]; exact hr _ _ a1 a2 b1 b2
      · rw [← e1, ← e2]; exact sr _ _ a1 (by omega) b2
  · refine List.Perm.trans ?_ (rot_perm h1 hs he h2)
    rw [seg_app d3 q1 q2, seg_app (rot d s m e) q1 q2]
    exact pf.append pb
/-- A rotation alone merges where one piece has a single element. -/
theorem rot_merged {lt : α → α → Prop} {d : Nat → α} {a s m e b : Nat} (h1 : a ≤ s) (hs : s ≤ m) (he : m ≤ e) (h2 : e ≤ b) (sl : Srt lt d a m) (sr : Srt lt d m b)
    (hl : ∀ i j, a ≤ i → i < s → e ≤ j → j < b → lt (d i) (d j)) (hr : ∀ j i, m ≤ j → j < e → s ≤ i → i < m → lt (d j) (d i))
    (hf : ∀ i j, a ≤ i → i < s → m ≤ j → j < e → lt (d i) (d j)) (hb : ∀ i j, s ≤ i → i < m → e ≤ j → j < b → lt (d i) (d j)) : Merged lt d (rot d s m e) a b := by
  obtain ⟨p1, p2, p3, p4⟩ := rot_pieces h1 hs he h2 sl sr
  refine merge_step h1 hs he h2 sl sr hl hr (Merged.same (p1.join p2 fun i j hi his hj hjb => ?_)) (Merged.same (p3.join p4 fun i j hi his hj hjb => ?_))
  · rw [rot_out (.inl his), rot_front hj hjb hs he]
    exact hf _ _ hi his (by omega) (by omega)
  · rw [rot_back hi his, rot_out (.inr hj)]
    exact hb _ _ (by omega) (by omega) hj hjb
/-- What is in order and has the same elements is the same. -/
theorem sorted_unique {lt : α → α → Prop} (o : Ord lt) : ∀ {l l' : List α}, l.Pairwise lt → l'.Pairwise lt → l.Perm l' → l = l'
  | [], l', _, _, h => (List.nil_perm.1 h).symm
  | x :: r, [], _, _, h => by have := h.length_eq; simp at this
  | x :: r, y :: r', h1, h2, h => by
    have hx : x ∈ y :: r' := h.subset (by simp)
    have hy : y ∈ x :: r := h.symm.subset (by simp)
    have hxy : x = y := by
      rcases List.mem_cons.1 hx with e | hx
      · exact e
      · rcases List.mem_cons.1 hy with e | hy
        · exact e.symm
        · exact absurd (o.trans ((List.pairwise_cons.1 h2).1 x hx) ((List.pairwise_cons.1 h1).1 y hy)) (o.irr y)
    subst hxy
    rw [sorted_unique o (List.pairwise_cons.1 h1).2 (List.pairwise_cons.1 h2).2 (List.Perm.cons_inv h)]
theorem srt_pairwise {lt : α → α → Prop} {d : Nat → α} {a b : Nat} (h : Srt lt d a b) : (seg d a b).Pairwise lt := by
  unfold seg
  rw [List.pairwise_map]
  refine List.Pairwise.imp_of_mem ?_ (List.pairwise_lt_range' (s := a) (n := b - a) (step := 1))
  intro i j hi hj hij
  have h1 := List.mem_range'_1.1 hi
  have h2 := List.mem_range'_1.1 hj
  exact h i j h1.1 hij (by omega)
end Sm

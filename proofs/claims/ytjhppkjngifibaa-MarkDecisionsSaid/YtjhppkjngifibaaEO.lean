/- Layer 23: Decide. -/
import Derived.Test.YtjhppkjngifibaaEN
namespace Go.Proofs.Ytjhppkjngifibaa
open Go.RowKit Go.Lib
set_option linter.unusedVariables false

set_option maxRecDepth 100000 in
set_option maxHeartbeats 16000000 in
theorem Decide_any (h : Hd) (ho : Ord h) (hm : Mod h) (hpl : h.props.length + h.lays.length ≤ 900) (A B C : Option Addr) (np cp nd cd nl cl : Nat) (la lr : List Int) (na nr ca cr : Nat) (hla : la.length = na) (hlr : lr.length = nr) (hsa : la.Pairwise (· < ·)) (hsr : lr.Pairwise (· < ·)) (hna : na ≤ 1000) (hnr : nr ≤ 1000)
    (A1 A2 : Option Addr) (w : World) (hA : HAt w A B C np cp nd cd nl cl h) (hNa : NsAt w A1 la) (hNr : NsAt w A2 lr) :
    Calls Try.prog 15 #[hdV A B C np cp nd cd nl cl h.ins h.move, .agg #[.slice A1 na ca, .slice A2 nr cr]] w (DRet (fun x => decide (x ∈ la)) (fun x => decide (x ∈ lr)) h w) := by
  obtain ⟨hi, hhi⟩ : ∃ x, h.ins = x := ⟨_, rfl⟩
  obtain ⟨hmv, hhm⟩ : ∃ x, h.move = x := ⟨_, rfl⟩
  have b0 := (((Below.refl w.heap.size w).alloc (Nat.le_refl _) (.cells #[.slice A np cp, .int .i64 hi, .int .i64 hmv, .slice B nd cd, .slice C nl cl] 28)).alloc (by simp) (.cells #[.slice A1 na ca, .slice A2 nr cr] 31)).alloc (by simp; omega) (.cells #[.slice none 0 0, .int .i64 0, .int .i64 0, .slice none 0 0, .slice none 0 0] 28)
  have O1 := ((ObjAt.new w #[.slice A np cp, .int .i64 hi, .int .i64 hmv, .slice B nd cd, .slice C nl cl] 28).alloc (.cells #[.slice A1 na ca, .slice A2 nr cr] 31)).alloc (.cells #[.slice none 0 0, .int .i64 0, .int .i64 0, .slice none 0 0, .slice none 0 0] 28)
  have O2 := (ObjAt.new (w.alloc (.cells #[.slice A np cp, .int .i64 hi, .int .i64 hmv, .slice B nd cd, .slice C nl cl] 28)) #[.slice A1 na ca, .slice A2 nr cr] 31).alloc (.cells #[.slice none 0 0, .int .i64 0, .int .i64 0, .slice none 0 0, .slice none 0 0] 28)
  have O3 := ObjAt.new ((w.alloc (.cells #[.slice A np cp, .int .i64 hi, .int .i64 hmv, .slice B nd cd, .slice C nl cl] 28)).alloc (.cells #[.slice A1 na ca, .slice A2 nr cr] 31)) #[.slice none 0 0, .int .i64 0, .int .i64 0, .slice none 0 0, .slice none 0 0] 28
  rw [World.size_alloc] at O2 O3
  rw [World.size_alloc] at O3
  have hs0 : (((w.alloc (.cells #[.slice A np cp, .int .i64 hi, .int .i64 hmv, .slice B nd cd, .slice C nl cl] 28)).alloc (.cells #[.slice A1 na ca, .slice A2 nr cr] 31)).alloc (.cells #[.slice none 0 0, .int .i64 0, .int .i64 0, .slice none 0 0, .slice none 0 0] 28)).heap.size = w.heap.size + 3 := by simp
  have HB := Lib.hid b0
  have H1 := Lib.hid O1
  have H2 := Lib.hid O2
  have H3 := Lib.hid O3
  have CD := Lib.hid (fun W (hb : Below w.heap.size w W) (hsw : W.heap.size = w.heap.size + 5) (h1 : W.cell? ⟨w.heap.size + 3, 0, none⟩ = some (.slice A1 na ca)) (h2 : W.cell? ⟨w.heap.size + 3 + 1, 0, none⟩ = some (.slice A2 nr cr)) =>
    decide_any h ho hm hpl 78 78 #[.pointer (some ⟨w.heap.size + 3, 0, none⟩)] #[.pointer (some ⟨w.heap.size + 3 + 1, 0, none⟩)] (fun x => decide (x ∈ la)) (fun x => decide (x ∈ lr)) A B C np cp nd cd nl cl W (hA.below hb (Nat.le_refl _)) (test_isin la na hla hsa hna A1 ca _ W (hNa.below hb (Nat.le_refl _)) h1) (test_isin lr nr hlr hsr hnr A2 cr _ W (hNr.below hb (Nat.le_refl _)) h2))
  unfold hdV at CD ⊢
  rw [hhi, hhm] at CD ⊢
  unfold DRet at CD ⊢
  generalize goneH (fun x => decide (x ∈ la)) (fun x => decide (x ∈ lr)) h = gn at CD ⊢
  generalize (if gn = true then (⟨[], 0, 0, [], []⟩ : Hd) else keptH (fun x => decide (x ∈ la)) (fun x => decide (x ∈ lr)) h) = res at CD ⊢
  clear b0 O1 O2 O3 hA ho hm hpl hhi hhm hNa hNr hsa hsr hla hlr
  obtain ⟨b, hbb⟩ : ∃ b, w.heap.size = b := ⟨_, rfl⟩
  rw [hbb] at HB H1 H2 H3 hs0 CD ⊢
  go_enter Try.func15, Try.ntmps15
  go_upto_region 1 with fail
  clear hbb
  generalize (((w.alloc (.cells #[.slice A np cp, .int .i64 hi, .int .i64 hmv, .slice B nd cd, .slice C nl cl] 28)).alloc (.cells #[.slice A1 na ca, .slice A2 nr cr] 31)).alloc (.cells #[.slice none 0 0, .int .i64 0, .int .i64 0, .slice none 0 0, .slice none 0 0] 28)) = W0 at HB H1 H2 H3 hs0 ⊢
  have a0 := H1.out.get (k := 0) (v := .slice A np cp) rfl
  have a1 := H1.out.get (k := 1) (v := .int .i64 hi) rfl
  have a2 := H1.out.get (k := 2) (v := .int .i64 hmv) rfl
  have a3 := H1.out.get (k := 3) (v := .slice B nd cd) rfl
  have a4 := H1.out.get (k := 4) (v := .slice C nl cl) rfl
  have a5 := H2.out.get (k := 0) (v := .slice A1 na ca) rfl
  have a6 := H2.out.get (k := 1) (v := .slice A2 nr cr) rfl
  have b0 := (H1.out.drew.alloc (.cells #[.slice A1 na ca] 29)).get (k := 0) (v := .slice A np cp) rfl
  have b1 := (H1.out.drew.alloc (.cells #[.slice A1 na ca] 29)).get (k := 1) (v := .int .i64 hi) rfl
  have b2 := (H1.out.drew.alloc (.cells #[.slice A1 na ca] 29)).get (k := 2) (v := .int .i64 hmv) rfl
  have b3 := (H1.out.drew.alloc (.cells #[.slice A1 na ca] 29)).get (k := 3) (v := .slice B nd cd) rfl
  have b4 := (H1.out.drew.alloc (.cells #[.slice A1 na ca] 29)).get (k := 4) (v := .slice C nl cl) rfl
  have b5 := (H2.out.drew.alloc (.cells #[.slice A1 na ca] 29)).get (k := 0) (v := .slice A1 na ca) rfl
  have b6 := (H2.out.drew.alloc (.cells #[.slice A1 na ca] 29)).get (k := 1) (v := .slice A2 nr cr) rfl
  have c0 := ((H1.out.drew.alloc (.cells #[.slice A1 na ca] 29)).alloc (.cells #[.slice A2 nr cr] 29)).get (k := 0) (v := .slice A np cp) rfl
  have c1 := ((H1.out.drew.alloc (.cells #[.slice A1 na ca] 29)).alloc (.cells #[.slice A2 nr cr] 29)).get (k := 1) (v := .int .i64 hi) rfl
  have c2 := ((H1.out.drew.alloc (.cells #[.slice A1 na ca] 29)).alloc (.cells #[.slice A2 nr cr] 29)).get (k := 2) (v := .int .i64 hmv) rfl
  have c3 := ((H1.out.drew.alloc (.cells #[.slice A1 na ca] 29)).alloc (.cells #[.slice A2 nr cr] 29)).get (k := 3) (v := .slice B nd cd) rfl
  have c4 := ((H1.out.drew.alloc (.cells #[.slice A1 na ca] 29)).alloc (.cells #[.slice A2 nr cr] 29)).get (k := 4) (v := .slice C nl cl) rfl
  have N1 := (ObjAt.new W0.drew #[.slice A1 na ca] 29).alloc (.cells #[.slice A2 nr cr] 29)
  have N2 := ObjAt.new (W0.drew.alloc (.cells #[.slice A1 na ca] 29)) #[.slice A2 nr cr] 29
  have hsd : W0.drew.heap.size = b + 3 := hs0
  rw [World.size_alloc] at N2
  rw [hsd] at N1 N2
  have hB2 := (HB.out.drew.alloc (by rw [hsd]; omega) (.cells #[.slice A1 na ca] 29)).alloc (by rw [World.size_alloc, hsd]; omega) (.cells #[.slice A2 nr cr] 29)
  have hs2 : ((W0.drew.alloc (.cells #[.slice A1 na ca] 29)).alloc (.cells #[.slice A2 nr cr] 29)).heap.size = b + 5 := by rw [World.size_alloc, World.size_alloc, hsd]
  have hX3 := Lib.hid ((H3.out.drew.alloc (.cells #[.slice A1 na ca] 29)).alloc (.cells #[.slice A2 nr cr] 29))
  have cD := CD.out _ hB2 hs2 (N1.get (k := 0) (v := .slice A1 na ca) rfl) (N2.get (k := 0) (v := .slice A2 nr cr) rfl)
  have HB2 := Lib.hid hB2
  have HS2 := Lib.hid hs2
  have cI := fun A n c W => isin47_any A n c W
  clear CD N1 N2 hB2 hs2
  go_region_with (first
    | (go_at_call 47; (with_reducible refine (cI _ _ _ _).mono ?_); rintro e w5 ⟨rfl, rfl⟩)
    | (go_at_call 48; refine cD.mono ?_; rintro e w5 ⟨r, P1, Q1, R1, c1, c2, c3, hres, rfl, hown, k5⟩; unfold hdV; have HR := Lib.hid hres; have X := hX3.out.below k5; have hz : b + 3 ≤ w5.heap.size := (by have := X.lt; omega); have HO := Lib.hid (hown_lower (b := b + 3) hown (by rw [HS2.out]; omega)); have HK := Lib.hid (HB2.out.trans (k5.mono (by rw [HS2.out]; omega))); clear hres hown k5; have x0 := X.get (k := 0) (v := .slice none 0 0) rfl; have x1 := X.get (k := 1) (v := .int .i64 0) rfl; have x2 := X.get (k := 2) (v := .int .i64 0) rfl; have x3 := X.get (k := 3) (v := .slice none 0 0) rfl; have x4 := X.get (k := 4) (v := .slice none 0 0) rfl; have f0 := X.frozen 0; have f1 := X.frozen 1; have f2 := X.frozen 2; have f3 := X.frozen 3; have f4 := X.frozen 4)
    | fail)
  all_goals
    have XF := (((((X.set 0 (.slice P1 r.props.length c1)).set 1 (.int .i64 r.ins)).set 2 (.int .i64 r.move)).set 3 (.slice Q1 r.dels.length c2)).set 4 (.slice R1 r.lays.length c3))
    have YF := Lib.hid ((hown_out (hown_out (hown_out (hown_out (hown_out HO.out (b := b + 1 + 1) (by omega) 0 (.slice P1 r.props.length c1)) (b := b + 1 + 1) (by omega) 1 (.int .i64 r.ins)) (b := b + 1 + 1) (by omega) 2 (.int .i64 r.move)) (b := b + 1 + 1) (by omega) 3 (.slice Q1 r.dels.length c2)) (b := b + 1 + 1) (by omega) 4 (.slice R1 r.lays.length c3)))
    have KF := Lib.hid ((((((HK.out.setCell (p := ⟨b + 1 + 1, 0, none⟩) (by simp; omega) (.slice P1 r.props.length c1)).setCell (p := ⟨b + 1 + 1, 1, none⟩) (by simp; omega) (.int .i64 r.ins)).setCell (p := ⟨b + 1 + 1, 2, none⟩) (by simp; omega) (.int .i64 r.move)).setCell (p := ⟨b + 1 + 1, 3, none⟩) (by simp; omega) (.slice Q1 r.dels.length c2)).setCell (p := ⟨b + 1 + 1, 4, none⟩) (by simp; omega) (.slice R1 r.lays.length c3)))
    have q0 := XF.get (k := 0) (v := .slice P1 r.props.length c1) (by simp)
    have q1 := XF.get (k := 1) (v := .int .i64 r.ins) (by simp)
    have q2 := XF.get (k := 2) (v := .int .i64 r.move) (by simp)
    have q3 := XF.get (k := 3) (v := .slice Q1 r.dels.length c2) (by simp)
    have q4 := XF.get (k := 4) (v := .slice R1 r.lays.length c3) (by simp)
    clear XF
    go_wp2
    exact bodyPost_ret (v := .tuple #[.agg #[.slice P1 r.props.length c1, .int .i64 r.ins, .int .i64 r.move, .slice Q1 r.dels.length c2, .slice R1 r.lays.length c3], .bool (!gn)]) (by simp [results, Try.results15, go_sem, q0, q1, q2, q3, q4]) rfl ⟨r, P1, Q1, R1, c1, c2, c3, HR.out, rfl, hown_lower YF.out (by omega), KF.out⟩
end Go.Proofs.Ytjhppkjngifibaa

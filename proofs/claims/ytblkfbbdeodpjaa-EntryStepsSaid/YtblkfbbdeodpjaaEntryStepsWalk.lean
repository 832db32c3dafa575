/- The law EntrySteps (made by gensteps.py). -/
import Derived.Test.YtblkfbbdeodpjaaSts
import Derived.Test.YtblkfbbdeodpjaaSameTrue
import Derived.Test.YtblkfbbdeodpjaaGreat
import Derived.Test.YtblkfbbdeodpjaaEntryAwake
import Derived.Test.YtblkfbbdeodpjaaEntryKeeps
import Derived.Test.YtblkfbbdeodpjaaRefEntry
import Derived.Test.YtblkfbbdeodpjaaNilEntry
namespace Go.Proofs.Ytblkfbbdeodpjaa.Me
open Go Go.RowKit Go.Proofs.Ytblkfbbdeodpjaa.Gro Go.Proofs.Ytblkfbbdeodpjaa.Own Go.Proofs.Ytblkfbbdeodpjaa.Wd Go.Proofs.Ytblkfbbdeodpjaa.Ap Go.Proofs.Ytblkfbbdeodpjaa.Pl Go.Proofs.Ytblkfbbdeodpjaa.Wo
set_option linter.unusedVariables false
set_option linter.unusedSimpArgs false
theorem fewMono {x : St} (h : Few 40 x) : Few 1000 x := ⟨by have := h.rk; omega, by have := h.l0; omega, by have := h.l1; omega, by have := h.l2; omega, by have := h.hl; omega, by have := h.rd; omega⟩
set_option maxRecDepth 100000 in
set_option maxHeartbeats 16000000 in
theorem EntrySteps_no (c : Cfg) (hf : c.Wf) (ad : Option Addr) (n cap : Nat) (sx sy : Wk) (q : Int) (X Y : St) (hbx : Few bigN X) (w : World) (hlx : Lies w sx X) (hly : Lies w sy Y) (HB : RowKit.Hid (∀ {w0 : World}, Below w.heap.size w w0 → Calls Try.prog 20 #[cv c, .slice ad n cap] w0 (BothNo w0))) :
    Calls Try.prog 9 #[cv c, .slice ad n cap, wv sx, wv sy, .int .u8 q] w fun e w' => e = .returned (.bool true) ∧ Below w.heap.size w w' := by
  have C0 := (((Bk.new w (ccM c) 24).alloc (.cells (wc sx) 46)).alloc (.cells (wc sy) 46))
  have X0 := (((Bk.new (w.alloc (.cells (ccM c) 24)) (wc sx) 46)).alloc (.cells (wc sy) 46))
  have Y0 := Bk.new ((w.alloc (.cells (ccM c) 24)).alloc (.cells (wc sx) 46)) (wc sy) 46
  have hw0 : Below w.heap.size w (((w.alloc (.cells (ccM c) 24)).alloc (.cells (wc sx) 46)).alloc (.cells (wc sy) 46)) := (((Below.refl _ _).alloc (Nat.le_refl _) _).alloc (by simp) _).alloc (by simp; omega) _
  simp only [World.size_alloc] at X0 Y0
  obtain ⟨w0, hw0'⟩ : ∃ u, u = ((w.alloc (.cells (ccM c) 24)).alloc (.cells (wc sx) 46)).alloc (.cells (wc sy) 46) := ⟨_, rfl⟩
  rw [← hw0'] at C0 X0 Y0 hw0
  have HW0 := Lib.hid hw0'
  have HLX := Lib.hid hlx
  have HLY := Lib.hid hly
  clear hw0' hlx hly 
  go_enter Try.func9, Try.ntmps9
  go_wp2_with fail
  rw [← HW0.out]
  refine (awake11 _).mono ?_
  rintro e w1 ⟨rfl, hb1⟩
  have C1 := C0.keep hb1
  have X1 := X0.keep hb1
  have Y1 := Y0.keep hb1
  have hw1 := hw0.trans (hb1.mono hw0.size)
  have sx1 := Y1.lt
  clear C0 X0 Y0 hw0 hb1 HW0
  go_wp2_with (refine wpList_load_row rfl 24 _ rfl w.heap.size rfl _ (ccM c) (0, 0) _ (by exact C1) Try.underlying24 rfl (by kernel_rfl) ?_)
  refine (HB.out hw1).mono ?_
  rintro e w2 ⟨⟨v1, v2, rfl⟩, hb2⟩
  have X2 := X1.keep hb2
  have Y2 := Y1.keep hb2
  have hw2 := hw1.trans (hb2.mono hw1.size)
  clear C1 X1 Y1
  go_wp2_with (refine wpList_load_row rfl 46 _ rfl (w.heap.size + 1) rfl _ (wc sx) (0, 0) _ (by exact X2) Try.underlying46 rfl (by kernel_rfl) ?_)
  refine (entryNil sx X hbx  _ (HLX.out.keep hw2)).mono ?_
  rintro e w3 ⟨sn, rfl, hb3⟩
  have X3 := X2.keep hb3
  have Y3 := Y2.keep hb3
  have hw3 := hw2.trans (hb3.mono hw2.size)
  have Z3 := Bk.new w3 (wc wz) 46
  have bb4 := boxed_below w3 sn
  have X4 := X3.keep bb4
  have Y4 := Y3.keep bb4
  have hw4 := hw3.trans (bb4.mono hw3.size)
  obtain ⟨w4, hw4'⟩ : ∃ u, u = (w3.alloc (.cells (wc wz) 46)).setRow w3.heap.size (wc sn) := ⟨_, rfl⟩
  rw [← hw4'] at X4 Y4 hw4
  clear bb4 X3 Y3 X2 Y2
  go_wp2_with (first | ((with_reducible refine wpList_alloc_wz rfl rfl ?_)) | (refine wpList_store_row rfl 46 _ _ rfl (w3.heap.size) (wc sn) rfl rfl _ _ (by exact Z3) (by kernel_rfl) (by kernel_rfl) (by kernel_rfl) ?_; rw [← hw4']; clear hw4' Z3))
  go_ret
  exact ⟨rfl, hw4⟩
set_option maxRecDepth 100000 in
set_option maxHeartbeats 16000000 in
theorem EntrySteps_gx (c : Cfg) (hf : c.Wf) (ad : Option Addr) (n cap : Nat) (sx sy : Wk) (q : Int) (X Y : St) (L : List Int) (hbx : Few bigN X) (w : World) (hlx : Lies w sx X) (hly : Lies w sy Y) (HB : RowKit.Hid (∀ {w0 : World}, Below w.heap.size w w0 → Calls Try.prog 20 #[cv c, .slice ad n cap] w0 (BothYes c L w0))) (hgx : ¬ Few 40 X) :
    Calls Try.prog 9 #[cv c, .slice ad n cap, wv sx, wv sy, .int .u8 q] w fun e w' => e = .returned (.bool true) ∧ Below w.heap.size w w' := by
  have C0 := (((Bk.new w (ccM c) 24).alloc (.cells (wc sx) 46)).alloc (.cells (wc sy) 46))
  have X0 := (((Bk.new (w.alloc (.cells (ccM c) 24)) (wc sx) 46)).alloc (.cells (wc sy) 46))
  have Y0 := Bk.new ((w.alloc (.cells (ccM c) 24)).alloc (.cells (wc sx) 46)) (wc sy) 46
  have hw0 : Below w.heap.size w (((w.alloc (.cells (ccM c) 24)).alloc (.cells (wc sx) 46)).alloc (.cells (wc sy) 46)) := (((Below.refl _ _).alloc (Nat.le_refl _) _).alloc (by simp) _).alloc (by simp; omega) _
  simp only [World.size_alloc] at X0 Y0
  obtain ⟨w0, hw0'⟩ : ∃ u, u = ((w.alloc (.cells (ccM c) 24)).alloc (.cells (wc sx) 46)).alloc (.cells (wc sy) 46) := ⟨_, rfl⟩
  rw [← hw0'] at C0 X0 Y0 hw0
  have HW0 := Lib.hid hw0'
  have HLX := Lib.hid hlx
  have HLY := Lib.hid hly
  clear hw0' hlx hly 
  go_enter Try.func9, Try.ntmps9
  go_wp2_with fail
  rw [← HW0.out]
  refine (awake11 _).mono ?_
  rintro e w1 ⟨rfl, hb1⟩
  have C1 := C0.keep hb1
  have X1 := X0.keep hb1
  have Y1 := Y0.keep hb1
  have hw1 := hw0.trans (hb1.mono hw0.size)
  have sx1 := Y1.lt
  clear C0 X0 Y0 hw0 hb1 HW0
  go_wp2_with (refine wpList_load_row rfl 24 _ rfl w.heap.size rfl _ (ccM c) (0, 0) _ (by exact C1) Try.underlying24 rfl (by kernel_rfl) ?_)
  refine (HB.out hw1).mono ?_
  rintro e w2 ⟨g, gl, cp, g2, gl2, cp2, rfl, B2⟩
  have hb2 := B2.below
  have X2 := X1.keep hb2
  have Y2 := Y1.keep hb2
  have hw2 := hw1.trans (hb2.mono hw1.size)
  clear C1 X1 Y1
  go_wp2_with (refine wpList_load_row rfl 46 _ rfl (w.heap.size + 1) rfl _ (wc sx) (0, 0) _ (by exact X2) Try.underlying46 rfl (by kernel_rfl) ?_)
  refine (entryNil sx X hbx  _ (HLX.out.keep hw2)).mono ?_
  rintro e w3 ⟨sn, rfl, hb3⟩
  have X3 := X2.keep hb3
  have Y3 := Y2.keep hb3
  have hw3 := hw2.trans (hb3.mono hw2.size)
  have Z3 := Bk.new w3 (wc wz) 46
  have bb4 := boxed_below w3 sn
  have X4 := X3.keep bb4
  have Y4 := Y3.keep bb4
  have hw4 := hw3.trans (bb4.mono hw3.size)
  obtain ⟨w4, hw4'⟩ : ∃ u, u = (w3.alloc (.cells (wc wz) 46)).setRow w3.heap.size (wc sn) := ⟨_, rfl⟩
  rw [← hw4'] at X4 Y4 hw4
  clear bb4 X3 Y3 X2 Y2 B2
  go_wp2_with (first | ((with_reducible refine wpList_alloc_wz rfl rfl ?_)) | (refine wpList_store_row rfl 46 _ _ rfl (w3.heap.size) (wc sn) rfl rfl _ _ (by exact Z3) (by kernel_rfl) (by kernel_rfl) (by kernel_rfl) ?_; rw [← hw4']; clear hw4' Z3) | (refine wpList_load_row_w rfl 46 _ rfl (w.heap.size + 1) rfl _ (wc sx) (0, 0) _ (by exact X4) Try.underlying46 rfl (by kernel_rfl) ?_))
  refine (great_yes sx X _ (HLX.out.keep hw4) hgx).mono ?_
  rintro e w5 ⟨rfl, hb5⟩
  have hw5 := hw4.trans (hb5.mono hw4.size)
  go_wp2
  go_ret
  exact ⟨rfl, hw5⟩
set_option maxRecDepth 100000 in
set_option maxHeartbeats 16000000 in
theorem EntrySteps_gy (c : Cfg) (hf : c.Wf) (ad : Option Addr) (n cap : Nat) (sx sy : Wk) (q : Int) (X Y : St) (L : List Int) (hbx : Few bigN X) (w : World) (hlx : Lies w sx X) (hly : Lies w sy Y) (HB : RowKit.Hid (∀ {w0 : World}, Below w.heap.size w w0 → Calls Try.prog 20 #[cv c, .slice ad n cap] w0 (BothYes c L w0))) (hgx : Few 40 X) (hgy : ¬ Few 40 Y) :
    Calls Try.prog 9 #[cv c, .slice ad n cap, wv sx, wv sy, .int .u8 q] w fun e w' => e = .returned (.bool true) ∧ Below w.heap.size w w' := by
  have C0 := (((Bk.new w (ccM c) 24).alloc (.cells (wc sx) 46)).alloc (.cells (wc sy) 46))
  have X0 := (((Bk.new (w.alloc (.cells (ccM c) 24)) (wc sx) 46)).alloc (.cells (wc sy) 46))
  have Y0 := Bk.new ((w.alloc (.cells (ccM c) 24)).alloc (.cells (wc sx) 46)) (wc sy) 46
  have hw0 : Below w.heap.size w (((w.alloc (.cells (ccM c) 24)).alloc (.cells (wc sx) 46)).alloc (.cells (wc sy) 46)) := (((Below.refl _ _).alloc (Nat.le_refl _) _).alloc (by simp) _).alloc (by simp; omega) _
  simp only [World.size_alloc] at X0 Y0
  obtain ⟨w0, hw0'⟩ : ∃ u, u = ((w.alloc (.cells (ccM c) 24)).alloc (.cells (wc sx) 46)).alloc (.cells (wc sy) 46) := ⟨_, rfl⟩
  rw [← hw0'] at C0 X0 Y0 hw0
  have HW0 := Lib.hid hw0'
  have HLX := Lib.hid hlx
  have HLY := Lib.hid hly
  clear hw0' hlx hly 
  go_enter Try.func9, Try.ntmps9
  go_wp2_with fail
  rw [← HW0.out]
  refine (awake11 _).mono ?_
  rintro e w1 ⟨rfl, hb1⟩
  have C1 := C0.keep hb1
  have X1 := X0.keep hb1
  have Y1 := Y0.keep hb1
  have hw1 := hw0.trans (hb1.mono hw0.size)
  have sx1 := Y1.lt
  clear C0 X0 Y0 hw0 hb1 HW0
  go_wp2_with (refine wpList_load_row rfl 24 _ rfl w.heap.size rfl _ (ccM c) (0, 0) _ (by exact C1) Try.underlying24 rfl (by kernel_rfl) ?_)
  refine (HB.out hw1).mono ?_
  rintro e w2 ⟨g, gl, cp, g2, gl2, cp2, rfl, B2⟩
  have hb2 := B2.below
  have X2 := X1.keep hb2
  have Y2 := Y1.keep hb2
  have hw2 := hw1.trans (hb2.mono hw1.size)
  clear C1 X1 Y1
  go_wp2_with (refine wpList_load_row rfl 46 _ rfl (w.heap.size + 1) rfl _ (wc sx) (0, 0) _ (by exact X2) Try.underlying46 rfl (by kernel_rfl) ?_)
  refine (entryNil sx X hbx  _ (HLX.out.keep hw2)).mono ?_
  rintro e w3 ⟨sn, rfl, hb3⟩
  have X3 := X2.keep hb3
  have Y3 := Y2.keep hb3
  have hw3 := hw2.trans (hb3.mono hw2.size)
  have Z3 := Bk.new w3 (wc wz) 46
  have bb4 := boxed_below w3 sn
  have X4 := X3.keep bb4
  have Y4 := Y3.keep bb4
  have hw4 := hw3.trans (bb4.mono hw3.size)
  obtain ⟨w4, hw4'⟩ : ∃ u, u = (w3.alloc (.cells (wc wz) 46)).setRow w3.heap.size (wc sn) := ⟨_, rfl⟩
  rw [← hw4'] at X4 Y4 hw4
  clear bb4 X3 Y3 X2 Y2 B2
  go_wp2_with (first | ((with_reducible refine wpList_alloc_wz rfl rfl ?_)) | (refine wpList_store_row rfl 46 _ _ rfl (w3.heap.size) (wc sn) rfl rfl _ _ (by exact Z3) (by kernel_rfl) (by kernel_rfl) (by kernel_rfl) ?_; rw [← hw4']; clear hw4' Z3) | (refine wpList_load_row_w rfl 46 _ rfl (w.heap.size + 1) rfl _ (wc sx) (0, 0) _ (by exact X4) Try.underlying46 rfl (by kernel_rfl) ?_))
  refine (great_no sx X _ (HLX.out.keep hw4) hgx).mono ?_
  rintro e w5 ⟨rfl, hb5⟩
  have hw5 := hw4.trans (hb5.mono hw4.size)
  have Y5 := Y4.keep hb5
  go_wp2_with (refine wpList_load_row_w rfl 46 _ rfl (w.heap.size + 1 + 1) rfl _ (wc sy) (0, 0) _ (by exact Y5) Try.underlying46 rfl (by kernel_rfl) ?_)
  refine (great_yes sy Y _ (HLY.out.keep hw5) hgy).mono ?_
  rintro e w6 ⟨rfl, hb6⟩
  have hw6 := hw5.trans (hb6.mono hw5.size)
  go_wp2
  go_ret
  exact ⟨rfl, hw6⟩
set_option maxRecDepth 100000 in
set_option maxHeartbeats 16000000 in
theorem EntrySteps_main (c : Cfg) (hf : c.Wf) (ad : Option Addr) (n cap : Nat) (sx sy : Wk) (q : Int) (X Y : St) (L : List Int) (hbx : Few bigN X) (w : World) (hlx : Lies w sx X) (hly : Lies w sy Y) (HB : RowKit.Hid (∀ {w0 : World}, Below w.heap.size w w0 → Calls Try.prog 20 #[cv c, .slice ad n cap] w0 (BothYes c L w0))) (hgx : Few 40 X) (hgy : Few 40 Y) (hm : L.length ≤ 1000) (hwr : WR L) (hpx : PR X.p) (hpy : PR Y.p) (hq : 0 ≤ q ∧ q < 256) :
    Calls Try.prog 9 #[cv c, .slice ad n cap, wv sx, wv sy, .int .u8 q] w fun e w' => e = .returned (.bool true) ∧ Below w.heap.size w w' := by
  have C0 := (((Bk.new w (ccM c) 24).alloc (.cells (wc sx) 46)).alloc (.cells (wc sy) 46))
  have X0 := (((Bk.new (w.alloc (.cells (ccM c) 24)) (wc sx) 46)).alloc (.cells (wc sy) 46))
  have Y0 := Bk.new ((w.alloc (.cells (ccM c) 24)).alloc (.cells (wc sx) 46)) (wc sy) 46
  have hw0 : Below w.heap.size w (((w.alloc (.cells (ccM c) 24)).alloc (.cells (wc sx) 46)).alloc (.cells (wc sy) 46)) := (((Below.refl _ _).alloc (Nat.le_refl _) _).alloc (by simp) _).alloc (by simp; omega) _
  simp only [World.size_alloc] at X0 Y0
  obtain ⟨w0, hw0'⟩ : ∃ u, u = ((w.alloc (.cells (ccM c) 24)).alloc (.cells (wc sx) 46)).alloc (.cells (wc sy) 46) := ⟨_, rfl⟩
  rw [← hw0'] at C0 X0 Y0 hw0
  have HW0 := Lib.hid hw0'
  have HLX := Lib.hid hlx
  have HLY := Lib.hid hly
  have hlx' := hlx
  have hly' := hly
  clear hw0' hlx hly 
  go_enter Try.func9, Try.ntmps9
  go_wp2_with fail
  rw [← HW0.out]
  refine (awake11 _).mono ?_
  rintro e w1 ⟨rfl, hb1⟩
  have C1 := C0.keep hb1
  have X1 := X0.keep hb1
  have Y1 := Y0.keep hb1
  have hw1 := hw0.trans (hb1.mono hw0.size)
  have sx1 := Y1.lt
  clear C0 X0 Y0 hw0 hb1 HW0
  go_wp2_with (refine wpList_load_row rfl 24 _ rfl w.heap.size rfl _ (ccM c) (0, 0) _ (by exact C1) Try.underlying24 rfl (by kernel_rfl) ?_)
  refine (HB.out hw1).mono ?_
  rintro e w2 ⟨g, gl, cp, g2, gl2, cp2, rfl, B2⟩
  have hb2 := B2.below
  have X2 := X1.keep hb2
  have Y2 := Y1.keep hb2
  have hw2 := hw1.trans (hb2.mono hw1.size)
  clear C1 X1 Y1
  go_wp2_with (refine wpList_load_row rfl 46 _ rfl (w.heap.size + 1) rfl _ (wc sx) (0, 0) _ (by exact X2) Try.underlying46 rfl (by kernel_rfl) ?_)
  refine (entryNil sx X hbx  _ (HLX.out.keep hw2)).mono ?_
  rintro e w3 ⟨sn, rfl, hb3⟩
  have X3 := X2.keep hb3
  have Y3 := Y2.keep hb3
  have hw3 := hw2.trans (hb3.mono hw2.size)
  have Z3 := Bk.new w3 (wc wz) 46
  have bb4 := boxed_below w3 sn
  have X4 := X3.keep bb4
  have Y4 := Y3.keep bb4
  have hw4 := hw3.trans (bb4.mono hw3.size)
  obtain ⟨w4, hw4'⟩ : ∃ u, u = (w3.alloc (.cells (wc wz) 46)).setRow w3.heap.size (wc sn) := ⟨_, rfl⟩
  have B4 := ((B2.base hw1).keep hb3).keep bb4
  have q1 := B2.M.g0
  have q2 := B2.M.gl0
  have q3 := B2.R.g0
  have q4 := B2.R.gl0
  have q5 := B2.M.lt
  have q6 := B2.R.lt
  have z3 := hb3.size
  have z4 := bb4.size
  rw [← hw4'] at X4 Y4 hw4 B4 z4
  clear bb4 X3 Y3 X2 Y2 B2
  go_wp2_with (first | ((with_reducible refine wpList_alloc_wz rfl rfl ?_)) | (refine wpList_store_row rfl 46 _ _ rfl (w3.heap.size) (wc sn) rfl rfl _ _ (by exact Z3) (by kernel_rfl) (by kernel_rfl) (by kernel_rfl) ?_; rw [← hw4']; clear hw4' Z3) | (refine wpList_load_row_w rfl 46 _ rfl (w.heap.size + 1) rfl _ (wc sx) (0, 0) _ (by exact X4) Try.underlying46 rfl (by kernel_rfl) ?_))
  refine (great_no sx X _ (HLX.out.keep hw4) hgx).mono ?_
  rintro e w5 ⟨rfl, hb5⟩
  have hw5 := hw4.trans (hb5.mono hw4.size)
  have X5 := X4.keep hb5
  have Y5 := Y4.keep hb5
  have B5 := B4.keep hb5
  have z5 := hb5.size
  clear X4 Y4 B4 hb5
  go_wp2_with (refine wpList_load_row_w rfl 46 _ rfl (w.heap.size + 1 + 1) rfl _ (wc sy) (0, 0) _ (by exact Y5) Try.underlying46 rfl (by kernel_rfl) ?_)
  refine (great_no sy Y _ (HLY.out.keep hw5) hgy).mono ?_
  rintro e w6 ⟨rfl, hb6⟩
  have hw6 := hw5.trans (hb6.mono hw5.size)
  have X6 := X5.keep hb6
  have Y6 := Y5.keep hb6
  have B6 := B5.keep hb6
  have z6 := hb6.size
  have Z6 := Bk.new w6 (wc wz) 46
  have bb7 := boxed_below w6 sx
  have Z7 := boxed_bk w6 sx
  have X7 := X6.keep bb7
  have Y7 := Y6.keep bb7
  have B7 := B6.keep bb7
  have hw7 := hw6.trans (bb7.mono hw6.size)
  have z7 := bb7.size
  obtain ⟨w7, hw7'⟩ : ∃ u, u = (w6.alloc (.cells (wc wz) 46)).setRow w6.heap.size (wc sx) := ⟨_, rfl⟩
  rw [← hw7'] at Z7 X7 Y7 B7 hw7 z7
  clear bb7 hb6 X5 Y5 B5 Y6 B6 hw5 hw6
  go_wp2_with (first | ((with_reducible refine wpList_alloc_wz rfl rfl ?_)) | (refine wpList_load_row rfl 46 _ rfl (w.heap.size + 1) rfl _ (wc sx) (0, 0) _ (by exact X6) Try.underlying46 rfl (by kernel_rfl) ?_) | (refine wpList_store_row rfl 46 _ _ rfl (w6.heap.size) (wc sx) rfl rfl _ _ (by exact Z6) (by kernel_rfl) (by kernel_rfl) (by kernel_rfl) ?_; rw [← hw7']; clear hw7' Z6))
  obtain ⟨bz, hbz⟩ : ∃ u, u = w6.heap.size := ⟨_, rfl⟩
  rw [← hbz] at Z7 z7 z6 ⊢
  obtain ⟨bx, hbx'⟩ : ∃ u, u = w.heap.size + 1 := ⟨_, rfl⟩
  obtain ⟨bY, hbY⟩ : ∃ u, u = w.heap.size + 1 + 1 := ⟨_, rfl⟩
  rw [← hbY] at Y7 sx1 ⊢
  rw [← hbx'] at X7 ⊢
  have p1 : w.heap.size < bx := by omega
  have p2 : bx < bY := by omega
  have LX7 := HLX.out.keep hw7
  have LY7 := HLY.out.keep hw7
  have old : ∀ k, k ∈ [g, gl, g2, gl2, bx, bz] → w.heap.size ≤ k := by
    intro k hk
    simp only [List.mem_cons, List.not_mem_nil, or_false] at hk
    omega
  have E7 : Sts [g, gl, g2, gl2, bx, bz] bx bz bY sx sx sy X Y w7 := ⟨X7, Z7, Y7, LX7, LX7, LY7, fun k hk => noB_new hlx' (old k hk), fun k hk => noB_new hlx' (old k hk), fun k hk => noB_new hly' (old k hk)⟩
  have r1 : bY < g := by omega
  have r2 : bY < gl := by omega
  have r3 : bY < g2 := by omega
  have r4 : bY < gl2 := by omega
  have r5 : g < bz := by omega
  have r6 : gl < bz := by omega
  have r7 : g2 < bz := by omega
  have r8 : gl2 < bz := by omega
  have r9 := B7.h1
  have r10 := B7.h2
  have r11 := B7.h3
  have r12 := B7.h4
  have HB7 := Lib.hid B7
  have HE7 := Lib.hid E7
  have HHM := Lib.hid hm
  have HWR := Lib.hid hwr
  have HPX := Lib.hid hpx
  have HPY := Lib.hid hpy
  have HGX := Lib.hid (fewMono hgx)
  have HGY := Lib.hid (fewMono hgy)
  clear hbx' hbY hbz X7 Y7 Z7 LX7 LY7 B7 E7 old q1 q2 q3 q4 q5 q6 z3 z4 z5 z6 z7 hw7 hw1 hw2 hw3 hw4 sx1 hm hwr hpx hpy hgx hgy hbx hb2 hb3
  go_loopw [18] (fun i wr => ∃ (k : Nat) (a' : Acc) (L' : List Int) (p' : Pl) (s t : Wk), k ≤ 12 ∧ i = .int .i64 k ∧ Both2 w g gl cp g2 gl2 cp2 c a' L' wr ∧ Sts [g, gl, g2, gl2, bx, bz] bx bz bY s t sy { X with p := p' } Y wr ∧ WR L' ∧ L'.length ≤ 1000 ∧ PR p') (fun i _ => 12 - (intOf i).toNat)
  case atStart => exact ⟨0, a0, L, X.p, sx, sx, Nat.zero_le _, rfl, HB7.out, HE7.out, HWR.out, HHM.out, HPX.out⟩
  case round =>
    obtain ⟨k, a', L', p', s, t, hk, rfl, B, E, hwr, hm, hpr⟩ := hrel
    clear HB7 HE7
    by_cases hlt : k < 12
    · have lz := E.bZ.lt
      by_cases hat : (k : Int) = q % 12
      · have hat1 : ((k : Int) == q % 12) = true := by simp [hat]
        have HAT := Lib.hid hat
        clear hat
        have hgy := entryStepAny B.M hf hm hwr sy Y HGY.out E.ly HPY.out
        have hqy : ∀ w' (R : RefMem w.heap.size w' g2 c a' gl2 cp2 L'), _ := fun w' R => rEntryStep R sy hm hwr hf (by rw [E.ly.p]; exact HPY.out)
        have hky := (entryLn_keeps (c := c) (a := a') hwr HPY.out).fin
        simp only [E.ly.p] at hqy
        obtain ⟨r, hr⟩ : ∃ r, r = (entryLn c a' L' Y.p).fin := ⟨_, rfl⟩
        rw [← hr] at hgy hky
        simp only [← hr] at hqy
        clear hr
        obtain ⟨ray, rLy, rpy, rwy, rky⟩ := r
        obtain ⟨kly, kwy, kpy⟩ := hky
        simp only at kly kwy kpy
        have HGy := Lib.hid hgy
        have HQy := Lib.hid hqy
        have HKLy := Lib.hid kly
        clear hgy hqy kly
        go_wp2_with (first | (refine wpList_load_row rfl 46 _ rfl (bY) rfl _ (wc sy) (0, 0) _ (by exact E.bYy) Try.underlying46 rfl (by kernel_rfl) ?_))
        refine HGy.out.mono ?_
        rintro e uy1 ⟨sY, rfl, A1y, M1y, T1y⟩
        have N1y := B.mid M1y T1y
        have E1y := E.touch T1y (by simp) (by simp) (by omega) (by omega) (by omega) (by omega) (by omega) (by omega)
        have Z1y := Bk.new uy1 (wc wz) 46
        have Y1y := boxed_bk uy1 sY
        have bby := boxed_below uy1 sY
        have N2y := N1y.keep bby
        have E2y := E1y.keep bby
        have A2y := (A1y.keep bby).liesF
        have sz1y := T1y.size
        have sz2y := bby.size
        have ly1y := Y1y.lt
        obtain ⟨uy2, huy⟩ : ∃ u, u = (uy1.alloc (.cells (wc wz) 46)).setRow uy1.heap.size (wc sY) := ⟨_, rfl⟩
        rw [← huy] at Y1y N2y E2y A2y sz2y ly1y
        clear bby N1y E1y A1y M1y T1y HGy
        go_wp2_with (first | ((with_reducible refine wpList_alloc_wz rfl rfl ?_)) | (refine wpList_store_row rfl 46 _ _ rfl (uy1.heap.size) (wc sY) rfl rfl _ _ (by exact Z1y) (by kernel_rfl) (by kernel_rfl) (by kernel_rfl) ?_; rw [← huy]; clear huy Z1y) | (refine wpList_load_row rfl 46 _ rfl (bY) rfl _ (wc sy) (0, 0) _ (by exact E2y.bYy) Try.underlying46 rfl (by kernel_rfl) ?_))
        obtain ⟨bay, hbay⟩ : ∃ u, u = uy1.heap.size := ⟨_, rfl⟩
        rw [← hbay] at Y1y ly1y sz1y ⊢
        have l2y := N2y.R.lt
        clear hbay sz2y
        refine (HQy.out _ N2y.R).mono ?_
        rintro e uy3 ⟨rfl, R3y, T3y⟩
        have B3y := N2y.fin R3y T3y
        have E3y := E2y.touch T3y (by simp) (by simp) (by omega) (by omega) (by omega) (by omega) (by omega) (by omega)
        have Y3y := T3y.bk Y1y (by omega) (by omega)
        have A3y := liesFTouch A2y T3y (by omega) (by omega)
        have Z3y := Bk.new uy3 (wc wz) 46
        have YBy := boxed_bk uy3 ({ sy with p := rpy } : Wk)
        have bcy := boxed_below uy3 ({ sy with p := rpy } : Wk)
        have By := B3y.keep bcy
        have Ey := E3y.keep bcy
        have Ay := A3y.keep bcy
        have YAy := Y3y.keep bcy
        have sz3y := T3y.size
        have sz4y := bcy.size
        obtain ⟨uy4, hvy⟩ : ∃ u, u = (uy3.alloc (.cells (wc wz) 46)).setRow uy3.heap.size (wc ({ sy with p := rpy } : Wk)) := ⟨_, rfl⟩
        rw [← hvy] at YBy By Ey Ay YAy sz4y
        clear bcy B3y E3y A3y Y3y R3y T3y N2y E2y A2y Y1y HQy
        have hney : (rwy != rwy) = false := by simp
        have hnky : (rky != rky) = false := by simp
        go_wp2_with (first | ((with_reducible refine wpList_alloc_wz rfl rfl ?_)) | (refine wpList_store_row rfl 46 _ _ rfl (uy3.heap.size) (wc ({ sy with p := rpy } : Wk)) rfl rfl _ _ (by exact Z3y) (by kernel_rfl) (by kernel_rfl) (by kernel_rfl) ?_; rw [← hvy]; clear hvy Z3y) | (refine wpList_load_row rfl 46 _ rfl (bay) rfl _ (wc sY) (0, 0) _ (by exact YAy) Try.underlying46 rfl (by kernel_rfl) ?_) | (refine wpList_load_row rfl 46 _ rfl (uy3.heap.size) rfl _ (wc ({ sy with p := rpy } : Wk)) (0, 0) _ (by exact YBy) Try.underlying46 rfl (by kernel_rfl) ?_))
        refine (refSame Ay.lies (liesPlain Ey.ly rpy)).mono ?_
        rintro e u5 ⟨rfl, hb5⟩
        have B5 := By.keep hb5
        have E5 := Ey.keep hb5
        have lz5 := E5.bZ.lt
        have hm5 : rLy.length ≤ 1000 := by have := HKLy.out; omega
        clear By Ey Ay YAy YBy B E hb5 ly1y l2y sz1y sz3y sz4y lz
        have hgx := entryStepAny B5.M hf hm5 kwy s ({ X with p := p' } : St) (fewPlain HGX.out p') E5.lx hpr
        have hqx : ∀ w' (R : RefMem w.heap.size w' g2 c ray gl2 cp2 rLy), _ := fun w' R => rEntryStep R t hm5 kwy hf (by rw [E5.lz.p]; exact hpr)
        have hkx := (entryLn_keeps (c := c) (a := ray) kwy hpr).fin
        simp only [E5.lz.p] at hqx
        obtain ⟨r, hr⟩ : ∃ r, r = (entryLn c ray rLy ({ X with p := p' } : St).p).fin := ⟨_, rfl⟩
        rw [← hr] at hgx hkx
        simp only [← hr] at hqx
        clear hr
        obtain ⟨rax, rLx, rpx, rwx, rkx⟩ := r
        obtain ⟨klx, kwx, kpx⟩ := hkx
        simp only at klx kwx kpx
        have HGx := Lib.hid hgx
        have HQx := Lib.hid hqx
        have HKLx := Lib.hid klx
        clear hgx hqx klx
        go_wp2_with (first | (refine wpList_load_row rfl 46 _ rfl (bx) rfl _ (wc s) (0, 0) _ (by exact E5.bX) Try.underlying46 rfl (by kernel_rfl) ?_))
        refine HGx.out.mono ?_
        rintro e ux1 ⟨sx', rfl, A1x, M1x, T1x⟩
        have N1x := B5.mid M1x T1x
        have E1x := E5.touch T1x (by simp) (by simp) (by omega) (by omega) (by omega) (by omega) (by omega) (by omega)
        have Z1x := Bk.new ux1 (wc wz) 46
        have Y1x := boxed_bk ux1 sx'
        have bbx := boxed_below ux1 sx'
        have N2x := N1x.keep bbx
        have E2x := E1x.keep bbx
        have A2x := (A1x.keep bbx).liesF
        have sz1x := T1x.size
        have sz2x := bbx.size
        have ly1x := Y1x.lt
        obtain ⟨ux2, hux⟩ : ∃ u, u = (ux1.alloc (.cells (wc wz) 46)).setRow ux1.heap.size (wc sx') := ⟨_, rfl⟩
        rw [← hux] at Y1x N2x E2x A2x sz2x ly1x
        clear bbx N1x E1x A1x M1x T1x HGx
        go_wp2_with (first | ((with_reducible refine wpList_alloc_wz rfl rfl ?_)) | (refine wpList_store_row rfl 46 _ _ rfl (ux1.heap.size) (wc sx') rfl rfl _ _ (by exact Z1x) (by kernel_rfl) (by kernel_rfl) (by kernel_rfl) ?_; rw [← hux]; clear hux Z1x) | (refine wpList_load_row rfl 46 _ rfl (bz) rfl _ (wc t) (0, 0) _ (by exact E2x.bZ) Try.underlying46 rfl (by kernel_rfl) ?_))
        obtain ⟨bax, hbax⟩ : ∃ u, u = ux1.heap.size := ⟨_, rfl⟩
        rw [← hbax] at Y1x ly1x sz1x ⊢
        have l2x := N2x.R.lt
        clear hbax sz2x
        refine (HQx.out _ N2x.R).mono ?_
        rintro e ux3 ⟨rfl, R3x, T3x⟩
        have B3x := N2x.fin R3x T3x
        have E3x := E2x.touch T3x (by simp) (by simp) (by omega) (by omega) (by omega) (by omega) (by omega) (by omega)
        have Y3x := T3x.bk Y1x (by omega) (by omega)
        have A3x := liesFTouch A2x T3x (by omega) (by omega)
        have Z3x := Bk.new ux3 (wc wz) 46
        have YBx := boxed_bk ux3 ({ t with p := rpx } : Wk)
        have bcx := boxed_below ux3 ({ t with p := rpx } : Wk)
        have Bx := B3x.keep bcx
        have Ex := E3x.keep bcx
        have Ax := A3x.keep bcx
        have YAx := Y3x.keep bcx
        have sz3x := T3x.size
        have sz4x := bcx.size
        obtain ⟨ux4, hvx⟩ : ∃ u, u = (ux3.alloc (.cells (wc wz) 46)).setRow ux3.heap.size (wc ({ t with p := rpx } : Wk)) := ⟨_, rfl⟩
        rw [← hvx] at YBx Bx Ex Ax YAx sz4x
        clear bcx B3x E3x A3x Y3x R3x T3x N2x E2x A2x Y1x HQx
        have hnex : (rwx != rwx) = false := by simp
        have hnkx : (rkx != rkx) = false := by simp
        go_wp2_with (first | ((with_reducible refine wpList_alloc_wz rfl rfl ?_)) | (refine wpList_store_row rfl 46 _ _ rfl (ux3.heap.size) (wc ({ t with p := rpx } : Wk)) rfl rfl _ _ (by exact Z3x) (by kernel_rfl) (by kernel_rfl) (by kernel_rfl) ?_; rw [← hvx]; clear hvx Z3x) | (refine wpList_load_row rfl 46 _ rfl (bax) rfl _ (wc sx') (0, 0) _ (by exact YAx) Try.underlying46 rfl (by kernel_rfl) ?_) | (refine wpList_load_row rfl 46 _ rfl (ux3.heap.size) rfl _ (wc ({ t with p := rpx } : Wk)) (0, 0) _ (by exact YBx) Try.underlying46 rfl (by kernel_rfl) ?_))
        have hm6 : rLx.length ≤ 1000 := by have := HKLx.out; omega
        refine (refSame Ax.lies (liesPlain Ex.lz rpx)).mono ?_
        rintro e u6 ⟨rfl, hb6⟩
        cases rkx
        · have B9 := Bx.keep hb6
          have E9 := Ex.keep hb6
          have A9 := Ax.keep hb6
          have YA9 := YAx.keep hb6
          have YB9 := YBx.keep hb6
          clear Bx Ex Ax YAx YBx hb6
          go_wp2
          have hKb : ∀ k ∈ [g, gl, g2, gl2, bx, bz], k < u5.heap.size := by
            intro k hk
            simp only [List.mem_cons, List.not_mem_nil, or_false] at hk
            omega
          obtain ⟨bb, hbb⟩ : ∃ u, u = ux3.heap.size := ⟨_, rfl⟩
          rw [← hbb] at YB9 sz3x ⊢
          clear hbb
          have YA8 := YA9.keep (w' := u6.drew) (Below.drew (Below.refl _ _))
          have YB8 := YB9.keep (w' := u6.drew) (Below.drew (Below.refl _ _))
          have B8 := B9.keep (w' := u6.drew) (Below.drew (Below.refl _ _))
          have E8 := E9.keep (w' := u6.drew) (Below.drew (Below.refl _ _))
          have A8 := A9.keep (w' := u6.drew) (Below.drew (Below.refl _ _))
          clear B9 E9 A9 YA9 YB9
          refine wp_region_held_drew (S := fun w' => Bk w' bax (wc sx') 46 ∧ Bk w' bb (wc ({ t with p := rpx } : Wk)) 46) (by kernel_rfl) ⟨YA8, YB8⟩ (fun hHeld => ?_)
          obtain ⟨v9, hv9⟩ : ∃ u, u = u6.drew := ⟨_, rfl⟩
          rw [← hv9] at YA8 YB8 B8 E8 A8 hHeld ⊢
          clear hv9
          refine wpAnyH_take (i := 0) (oi := _) (v := .agg (wc sx')) rfl (by kernel_rfl) (by kernel_rfl) (by kernel_rfl) (fun _ _ _ h => h) (yieldsIf_row rfl 46 _ rfl (bax) rfl (wc sx') 46 _ (fun w' hw' => hw'.1) Try.underlying46 rfl (by kernel_rfl)) hHeld ?_
          try simp only [Act.put, List.getElem_toArray, List.getElem_cons_succ, List.getElem_cons_zero, List.setIfInBounds_toArray, List.set_cons_succ, List.set_cons_zero]
          refine wpAnyH_take (i := 1) (oi := _) (v := .agg (wc ({ t with p := rpx } : Wk))) rfl (by kernel_rfl) (by kernel_rfl) (by kernel_rfl) (fun _ _ _ h => h) (yieldsIf_row rfl 46 _ rfl (bb) rfl (wc ({ t with p := rpx } : Wk)) 46 _ (fun w' hw' => hw'.2) Try.underlying46 rfl (by kernel_rfl)) hHeld ?_
          try simp only [Act.put, List.getElem_toArray, List.getElem_cons_succ, List.getElem_cons_zero, List.setIfInBounds_toArray, List.set_cons_succ, List.set_cons_zero]
          refine wpAnyH_ready (rs := [2]) (by kernel_rfl) (by simp) ?_
          refine AllReadyH.cons (o := _) rfl (fun K hK => ?_) AllReadyH.nil
          refine step_row rfl 46 _ _ rfl bx (wc sx') rfl rfl _ _ (by exact E8.bX) (by kernel_rfl) (by kernel_rfl) (by kernel_rfl) ?_
          refine hK.out _ _ ⟨hHeld.1.setRow_far (by omega) _, hHeld.2.setRow_far (by omega) _⟩ (fun hHeld => ?_)
          clear hK K
          try simp only [Act.put, List.getElem_toArray, List.getElem_cons_succ, List.getElem_cons_zero, List.setIfInBounds_toArray, List.set_cons_succ, List.set_cons_zero]
          refine wpAnyH_ready (rs := [3]) (by kernel_rfl) (by simp) ?_
          refine AllReadyH.cons (o := _) rfl (fun K hK => ?_) AllReadyH.nil
          refine step_row rfl 46 _ _ rfl bz (wc ({ t with p := rpx } : Wk)) rfl rfl _ _ (by exact E8.bZ.setRow_far (by omega) _) (by kernel_rfl) (by kernel_rfl) (by kernel_rfl) ?_
          refine hK.out _ _ ⟨hHeld.1.setRow_far (by omega) _, hHeld.2.setRow_far (by omega) _⟩ (fun hHeld => ?_)
          clear hK K
          refine wpAnyH_done (by kernel_rfl) ?_ _
          have E9 : Sts [g, gl, g2, gl2, bx, bz] bx bz bY sx' ({ t with p := rpx } : Wk) sy { X with p := rpx } Y ((v9.setRow bx (wc sx')).setRow bz (wc ({ t with p := rpx } : Wk))) := (E8.two (p := rpx) A8 hKb (by simp) (by simp) (by omega) (by omega) (by omega)).1
          have B9 := (B8.row (b := bx) (by omega) (by omega) (by omega) (by omega) (by omega) (wc sx')).row (b := bz) (by omega) (by omega) (by omega) (by omega) (by omega) (wc ({ t with p := rpx } : Wk))
          obtain ⟨y9, hy9⟩ : ∃ u, u = (v9.setRow bx (wc sx')).setRow bz (wc ({ t with p := rpx } : Wk)) := ⟨_, rfl⟩
          rw [← hy9] at E9 B9 ⊢
          clear hy9 hHeld E8 A8 B8 YA8 YB8 hKb
          go_wp2
          go_roundw
          case rel => exact ⟨k + 1, rax, rLx, rpx, sx', ({ t with p := rpx } : Wk), by omega, by go_num, B9, E9, kwx, hm6, kpx⟩
          case measure => simp [intOf]; omega
        · have B6 := Bx.keep hb6
          have E6 := Ex.keep hb6
          have A6 := Ax.keep hb6
          have YA6 := YAx.keep hb6
          have YB6 := YBx.keep hb6
          clear Bx Ex Ax YAx YBx hb6
          go_wp2_with fail
          refine (alike B6 hm6).mono ?_
          rintro e u7 ⟨rfl, hb7⟩
          have B9 := B6.keep hb7
          have E9 := E6.keep hb7
          have A9 := A6.keep hb7
          have YA9 := YA6.keep hb7
          have YB9 := YB6.keep hb7
          clear B6 E6 A6 YA6 YB6 hb7
          go_wp2
          have hKb : ∀ k ∈ [g, gl, g2, gl2, bx, bz], k < u5.heap.size := by
            intro k hk
            simp only [List.mem_cons, List.not_mem_nil, or_false] at hk
            omega
          obtain ⟨bb, hbb⟩ : ∃ u, u = ux3.heap.size := ⟨_, rfl⟩
          rw [← hbb] at YB9 sz3x ⊢
          clear hbb
          have YA8 := YA9.keep (w' := u7.drew) (Below.drew (Below.refl _ _))
          have YB8 := YB9.keep (w' := u7.drew) (Below.drew (Below.refl _ _))
          have B8 := B9.keep (w' := u7.drew) (Below.drew (Below.refl _ _))
          have E8 := E9.keep (w' := u7.drew) (Below.drew (Below.refl _ _))
          have A8 := A9.keep (w' := u7.drew) (Below.drew (Below.refl _ _))
          clear B9 E9 A9 YA9 YB9
          refine wp_region_held_drew (S := fun w' => Bk w' bax (wc sx') 46 ∧ Bk w' bb (wc ({ t with p := rpx } : Wk)) 46) (by kernel_rfl) ⟨YA8, YB8⟩ (fun hHeld => ?_)
          obtain ⟨v9, hv9⟩ : ∃ u, u = u7.drew := ⟨_, rfl⟩
          rw [← hv9] at YA8 YB8 B8 E8 A8 hHeld ⊢
          clear hv9
          refine wpAnyH_take (i := 0) (oi := _) (v := .agg (wc sx')) rfl (by kernel_rfl) (by kernel_rfl) (by kernel_rfl) (fun _ _ _ h => h) (yieldsIf_row rfl 46 _ rfl (bax) rfl (wc sx') 46 _ (fun w' hw' => hw'.1) Try.underlying46 rfl (by kernel_rfl)) hHeld ?_
          try simp only [Act.put, List.getElem_toArray, List.getElem_cons_succ, List.getElem_cons_zero, List.setIfInBounds_toArray, List.set_cons_succ, List.set_cons_zero]
          refine wpAnyH_take (i := 1) (oi := _) (v := .agg (wc ({ t with p := rpx } : Wk))) rfl (by kernel_rfl) (by kernel_rfl) (by kernel_rfl) (fun _ _ _ h => h) (yieldsIf_row rfl 46 _ rfl (bb) rfl (wc ({ t with p := rpx } : Wk)) 46 _ (fun w' hw' => hw'.2) Try.underlying46 rfl (by kernel_rfl)) hHeld ?_
          try simp only [Act.put, List.getElem_toArray, List.getElem_cons_succ, List.getElem_cons_zero, List.setIfInBounds_toArray, List.set_cons_succ, List.set_cons_zero]
          refine wpAnyH_ready (rs := [2]) (by kernel_rfl) (by simp) ?_
          refine AllReadyH.cons (o := _) rfl (fun K hK => ?_) AllReadyH.nil
          refine step_row rfl 46 _ _ rfl bx (wc sx') rfl rfl _ _ (by exact E8.bX) (by kernel_rfl) (by kernel_rfl) (by kernel_rfl) ?_
          refine hK.out _ _ ⟨hHeld.1.setRow_far (by omega) _, hHeld.2.setRow_far (by omega) _⟩ (fun hHeld => ?_)
          clear hK K
          try simp only [Act.put, List.getElem_toArray, List.getElem_cons_succ, List.getElem_cons_zero, List.setIfInBounds_toArray, List.set_cons_succ, List.set_cons_zero]
          refine wpAnyH_ready (rs := [3]) (by kernel_rfl) (by simp) ?_
          refine AllReadyH.cons (o := _) rfl (fun K hK => ?_) AllReadyH.nil
          refine step_row rfl 46 _ _ rfl bz (wc ({ t with p := rpx } : Wk)) rfl rfl _ _ (by exact E8.bZ.setRow_far (by omega) _) (by kernel_rfl) (by kernel_rfl) (by kernel_rfl) ?_
          refine hK.out _ _ ⟨hHeld.1.setRow_far (by omega) _, hHeld.2.setRow_far (by omega) _⟩ (fun hHeld => ?_)
          clear hK K
          refine wpAnyH_done (by kernel_rfl) ?_ _
          have E9 : Sts [g, gl, g2, gl2, bx, bz] bx bz bY sx' ({ t with p := rpx } : Wk) sy { X with p := rpx } Y ((v9.setRow bx (wc sx')).setRow bz (wc ({ t with p := rpx } : Wk))) := (E8.two (p := rpx) A8 hKb (by simp) (by simp) (by omega) (by omega) (by omega)).1
          have B9 := (B8.row (b := bx) (by omega) (by omega) (by omega) (by omega) (by omega) (wc sx')).row (b := bz) (by omega) (by omega) (by omega) (by omega) (by omega) (wc ({ t with p := rpx } : Wk))
          obtain ⟨y9, hy9⟩ : ∃ u, u = (v9.setRow bx (wc sx')).setRow bz (wc ({ t with p := rpx } : Wk)) := ⟨_, rfl⟩
          rw [← hy9] at E9 B9 ⊢
          clear hy9 hHeld E8 A8 B8 YA8 YB8 hKb
          go_wp2
          go_roundw
          case rel => exact ⟨k + 1, rax, rLx, rpx, sx', ({ t with p := rpx } : Wk), by omega, by go_num, B9, E9, kwx, hm6, kpx⟩
          case measure => simp [intOf]; omega
      · have hat1 : ((k : Int) == q % 12) = false := by simp [hat]
        have HAT := Lib.hid hat
        clear hat
        have hgx := entryStepAny B.M hf hm hwr s ({ X with p := p' } : St) (fewPlain HGX.out p') E.lx hpr
        have hqx : ∀ w' (R : RefMem w.heap.size w' g2 c a' gl2 cp2 L'), _ := fun w' R => rEntryStep R t hm hwr hf (by rw [E.lz.p]; exact hpr)
        have hkx := (entryLn_keeps (c := c) (a := a') hwr hpr).fin
        simp only [E.lz.p] at hqx
        obtain ⟨r, hr⟩ : ∃ r, r = (entryLn c a' L' ({ X with p := p' } : St).p).fin := ⟨_, rfl⟩
        rw [← hr] at hgx hkx
        simp only [← hr] at hqx
        clear hr
        obtain ⟨rax, rLx, rpx, rwx, rkx⟩ := r
        obtain ⟨klx, kwx, kpx⟩ := hkx
        simp only at klx kwx kpx
        have HGx := Lib.hid hgx
        have HQx := Lib.hid hqx
        have HKLx := Lib.hid klx
        clear hgx hqx klx
        go_wp2_with (first | (refine wpList_load_row rfl 46 _ rfl (bx) rfl _ (wc s) (0, 0) _ (by exact E.bX) Try.underlying46 rfl (by kernel_rfl) ?_))
        refine HGx.out.mono ?_
        rintro e ux1 ⟨sx', rfl, A1x, M1x, T1x⟩
        have N1x := B.mid M1x T1x
        have E1x := E.touch T1x (by simp) (by simp) (by omega) (by omega) (by omega) (by omega) (by omega) (by omega)
        have Z1x := Bk.new ux1 (wc wz) 46
        have Y1x := boxed_bk ux1 sx'
        have bbx := boxed_below ux1 sx'
        have N2x := N1x.keep bbx
        have E2x := E1x.keep bbx
        have A2x := (A1x.keep bbx).liesF
        have sz1x := T1x.size
        have sz2x := bbx.size
        have ly1x := Y1x.lt
        obtain ⟨ux2, hux⟩ : ∃ u, u = (ux1.alloc (.cells (wc wz) 46)).setRow ux1.heap.size (wc sx') := ⟨_, rfl⟩
        rw [← hux] at Y1x N2x E2x A2x sz2x ly1x
        clear bbx N1x E1x A1x M1x T1x HGx
        go_wp2_with (first | ((with_reducible refine wpList_alloc_wz rfl rfl ?_)) | (refine wpList_store_row rfl 46 _ _ rfl (ux1.heap.size) (wc sx') rfl rfl _ _ (by exact Z1x) (by kernel_rfl) (by kernel_rfl) (by kernel_rfl) ?_; rw [← hux]; clear hux Z1x) | (refine wpList_load_row rfl 46 _ rfl (bz) rfl _ (wc t) (0, 0) _ (by exact E2x.bZ) Try.underlying46 rfl (by kernel_rfl) ?_))
        obtain ⟨bax, hbax⟩ : ∃ u, u = ux1.heap.size := ⟨_, rfl⟩
        rw [← hbax] at Y1x ly1x sz1x ⊢
        have l2x := N2x.R.lt
        clear hbax sz2x
        refine (HQx.out _ N2x.R).mono ?_
        rintro e ux3 ⟨rfl, R3x, T3x⟩
        have B3x := N2x.fin R3x T3x
        have E3x := E2x.touch T3x (by simp) (by simp) (by omega) (by omega) (by omega) (by omega) (by omega) (by omega)
        have Y3x := T3x.bk Y1x (by omega) (by omega)
        have A3x := liesFTouch A2x T3x (by omega) (by omega)
        have Z3x := Bk.new ux3 (wc wz) 46
        have YBx := boxed_bk ux3 ({ t with p := rpx } : Wk)
        have bcx := boxed_below ux3 ({ t with p := rpx } : Wk)
        have Bx := B3x.keep bcx
        have Ex := E3x.keep bcx
        have Ax := A3x.keep bcx
        have YAx := Y3x.keep bcx
        have sz3x := T3x.size
        have sz4x := bcx.size
        obtain ⟨ux4, hvx⟩ : ∃ u, u = (ux3.alloc (.cells (wc wz) 46)).setRow ux3.heap.size (wc ({ t with p := rpx } : Wk)) := ⟨_, rfl⟩
        rw [← hvx] at YBx Bx Ex Ax YAx sz4x
        clear bcx B3x E3x A3x Y3x R3x T3x N2x E2x A2x Y1x HQx
        have hnex : (rwx != rwx) = false := by simp
        have hnkx : (rkx != rkx) = false := by simp
        go_wp2_with (first | ((with_reducible refine wpList_alloc_wz rfl rfl ?_)) | (refine wpList_store_row rfl 46 _ _ rfl (ux3.heap.size) (wc ({ t with p := rpx } : Wk)) rfl rfl _ _ (by exact Z3x) (by kernel_rfl) (by kernel_rfl) (by kernel_rfl) ?_; rw [← hvx]; clear hvx Z3x) | (refine wpList_load_row rfl 46 _ rfl (bax) rfl _ (wc sx') (0, 0) _ (by exact YAx) Try.underlying46 rfl (by kernel_rfl) ?_) | (refine wpList_load_row rfl 46 _ rfl (ux3.heap.size) rfl _ (wc ({ t with p := rpx } : Wk)) (0, 0) _ (by exact YBx) Try.underlying46 rfl (by kernel_rfl) ?_))
        have hm6 : rLx.length ≤ 1000 := by have := HKLx.out; omega
        refine (refSame Ax.lies (liesPlain Ex.lz rpx)).mono ?_
        rintro e u6 ⟨rfl, hb6⟩
        cases rkx
        · have B9 := Bx.keep hb6
          have E9 := Ex.keep hb6
          have A9 := Ax.keep hb6
          have YA9 := YAx.keep hb6
          have YB9 := YBx.keep hb6
          clear Bx Ex Ax YAx YBx hb6
          go_wp2
          have hKb : ∀ k ∈ [g, gl, g2, gl2, bx, bz], k < wr.heap.size := by
            intro k hk
            simp only [List.mem_cons, List.not_mem_nil, or_false] at hk
            omega
          obtain ⟨bb, hbb⟩ : ∃ u, u = ux3.heap.size := ⟨_, rfl⟩
          rw [← hbb] at YB9 sz3x ⊢
          clear hbb
          have YA8 := YA9.keep (w' := u6.drew) (Below.drew (Below.refl _ _))
          have YB8 := YB9.keep (w' := u6.drew) (Below.drew (Below.refl _ _))
          have B8 := B9.keep (w' := u6.drew) (Below.drew (Below.refl _ _))
          have E8 := E9.keep (w' := u6.drew) (Below.drew (Below.refl _ _))
          have A8 := A9.keep (w' := u6.drew) (Below.drew (Below.refl _ _))
          clear B9 E9 A9 YA9 YB9
          refine wp_region_held_drew (S := fun w' => Bk w' bax (wc sx') 46 ∧ Bk w' bb (wc ({ t with p := rpx } : Wk)) 46) (by kernel_rfl) ⟨YA8, YB8⟩ (fun hHeld => ?_)
          obtain ⟨v9, hv9⟩ : ∃ u, u = u6.drew := ⟨_, rfl⟩
          rw [← hv9] at YA8 YB8 B8 E8 A8 hHeld ⊢
          clear hv9
          refine wpAnyH_take (i := 0) (oi := _) (v := .agg (wc sx')) rfl (by kernel_rfl) (by kernel_rfl) (by kernel_rfl) (fun _ _ _ h => h) (yieldsIf_row rfl 46 _ rfl (bax) rfl (wc sx') 46 _ (fun w' hw' => hw'.1) Try.underlying46 rfl (by kernel_rfl)) hHeld ?_
          try simp only [Act.put, List.getElem_toArray, List.getElem_cons_succ, List.getElem_cons_zero, List.setIfInBounds_toArray, List.set_cons_succ, List.set_cons_zero]
          refine wpAnyH_take (i := 1) (oi := _) (v := .agg (wc ({ t with p := rpx } : Wk))) rfl (by kernel_rfl) (by kernel_rfl) (by kernel_rfl) (fun _ _ _ h => h) (yieldsIf_row rfl 46 _ rfl (bb) rfl (wc ({ t with p := rpx } : Wk)) 46 _ (fun w' hw' => hw'.2) Try.underlying46 rfl (by kernel_rfl)) hHeld ?_
          try simp only [Act.put, List.getElem_toArray, List.getElem_cons_succ, List.getElem_cons_zero, List.setIfInBounds_toArray, List.set_cons_succ, List.set_cons_zero]
          refine wpAnyH_ready (rs := [2]) (by kernel_rfl) (by simp) ?_
          refine AllReadyH.cons (o := _) rfl (fun K hK => ?_) AllReadyH.nil
          refine step_row rfl 46 _ _ rfl bx (wc sx') rfl rfl _ _ (by exact E8.bX) (by kernel_rfl) (by kernel_rfl) (by kernel_rfl) ?_
          refine hK.out _ _ ⟨hHeld.1.setRow_far (by omega) _, hHeld.2.setRow_far (by omega) _⟩ (fun hHeld => ?_)
          clear hK K
          try simp only [Act.put, List.getElem_toArray, List.getElem_cons_succ, List.getElem_cons_zero, List.setIfInBounds_toArray, List.set_cons_succ, List.set_cons_zero]
          refine wpAnyH_ready (rs := [3]) (by kernel_rfl) (by simp) ?_
          refine AllReadyH.cons (o := _) rfl (fun K hK => ?_) AllReadyH.nil
          refine step_row rfl 46 _ _ rfl bz (wc ({ t with p := rpx } : Wk)) rfl rfl _ _ (by exact E8.bZ.setRow_far (by omega) _) (by kernel_rfl) (by kernel_rfl) (by kernel_rfl) ?_
          refine hK.out _ _ ⟨hHeld.1.setRow_far (by omega) _, hHeld.2.setRow_far (by omega) _⟩ (fun hHeld => ?_)
          clear hK K
          refine wpAnyH_done (by kernel_rfl) ?_ _
          have E9 : Sts [g, gl, g2, gl2, bx, bz] bx bz bY sx' ({ t with p := rpx } : Wk) sy { X with p := rpx } Y ((v9.setRow bx (wc sx')).setRow bz (wc ({ t with p := rpx } : Wk))) := (E8.two (p := rpx) A8 hKb (by simp) (by simp) (by omega) (by omega) (by omega)).1
          have B9 := (B8.row (b := bx) (by omega) (by omega) (by omega) (by omega) (by omega) (wc sx')).row (b := bz) (by omega) (by omega) (by omega) (by omega) (by omega) (wc ({ t with p := rpx } : Wk))
          obtain ⟨y9, hy9⟩ : ∃ u, u = (v9.setRow bx (wc sx')).setRow bz (wc ({ t with p := rpx } : Wk)) := ⟨_, rfl⟩
          rw [← hy9] at E9 B9 ⊢
          clear hy9 hHeld E8 A8 B8 YA8 YB8 hKb
          go_wp2
          go_roundw
          case rel => exact ⟨k + 1, rax, rLx, rpx, sx', ({ t with p := rpx } : Wk), by omega, by go_num, B9, E9, kwx, hm6, kpx⟩
          case measure => simp [intOf]; omega
        · have B6 := Bx.keep hb6
          have E6 := Ex.keep hb6
          have A6 := Ax.keep hb6
          have YA6 := YAx.keep hb6
          have YB6 := YBx.keep hb6
          clear Bx Ex Ax YAx YBx hb6
          go_wp2_with fail
          refine (alike B6 hm6).mono ?_
          rintro e u7 ⟨rfl, hb7⟩
          have B9 := B6.keep hb7
          have E9 := E6.keep hb7
          have A9 := A6.keep hb7
          have YA9 := YA6.keep hb7
          have YB9 := YB6.keep hb7
          clear B6 E6 A6 YA6 YB6 hb7
          go_wp2
          have hKb : ∀ k ∈ [g, gl, g2, gl2, bx, bz], k < wr.heap.size := by
            intro k hk
            simp only [List.mem_cons, List.not_mem_nil, or_false] at hk
            omega
          obtain ⟨bb, hbb⟩ : ∃ u, u = ux3.heap.size := ⟨_, rfl⟩
          rw [← hbb] at YB9 sz3x ⊢
          clear hbb
          have YA8 := YA9.keep (w' := u7.drew) (Below.drew (Below.refl _ _))
          have YB8 := YB9.keep (w' := u7.drew) (Below.drew (Below.refl _ _))
          have B8 := B9.keep (w' := u7.drew) (Below.drew (Below.refl _ _))
          have E8 := E9.keep (w' := u7.drew) (Below.drew (Below.refl _ _))
          have A8 := A9.keep (w' := u7.drew) (Below.drew (Below.refl _ _))
          clear B9 E9 A9 YA9 YB9
          refine wp_region_held_drew (S := fun w' => Bk w' bax (wc sx') 46 ∧ Bk w' bb (wc ({ t with p := rpx } : Wk)) 46) (by kernel_rfl) ⟨YA8, YB8⟩ (fun hHeld => ?_)
          obtain ⟨v9, hv9⟩ : ∃ u, u = u7.drew := ⟨_, rfl⟩
          rw [← hv9] at YA8 YB8 B8 E8 A8 hHeld ⊢
          clear hv9
          refine wpAnyH_take (i := 0) (oi := _) (v := .agg (wc sx')) rfl (by kernel_rfl) (by kernel_rfl) (by kernel_rfl) (fun _ _ _ h => h) (yieldsIf_row rfl 46 _ rfl (bax) rfl (wc sx') 46 _ (fun w' hw' => hw'.1) Try.underlying46 rfl (by kernel_rfl)) hHeld ?_
          try simp only [Act.put, List.getElem_toArray, List.getElem_cons_succ, List.getElem_cons_zero, List.setIfInBounds_toArray, List.set_cons_succ, List.set_cons_zero]
          refine wpAnyH_take (i := 1) (oi := _) (v := .agg (wc ({ t with p := rpx } : Wk))) rfl (by kernel_rfl) (by kernel_rfl) (by kernel_rfl) (fun _ _ _ h => h) (yieldsIf_row rfl 46 _ rfl (bb) rfl (wc ({ t with p := rpx } : Wk)) 46 _ (fun w' hw' => hw'.2) Try.underlying46 rfl (by kernel_rfl)) hHeld ?_
          try simp only [Act.put, List.getElem_toArray, List.getElem_cons_succ, List.getElem_cons_zero, List.setIfInBounds_toArray, List.set_cons_succ, List.set_cons_zero]
          refine wpAnyH_ready (rs := [2]) (by kernel_rfl) (by simp) ?_
          refine AllReadyH.cons (o := _) rfl (fun K hK => ?_) AllReadyH.nil
          refine step_row rfl 46 _ _ rfl bx (wc sx') rfl rfl _ _ (by exact E8.bX) (by kernel_rfl) (by kernel_rfl) (by kernel_rfl) ?_
          refine hK.out _ _ ⟨hHeld.1.setRow_far (by omega) _, hHeld.2.setRow_far (by omega) _⟩ (fun hHeld => ?_)
          clear hK K
          try simp only [Act.put, List.getElem_toArray, List.getElem_cons_succ, List.getElem_cons_zero, List.setIfInBounds_toArray, List.set_cons_succ, List.set_cons_zero]
          refine wpAnyH_ready (rs := [3]) (by kernel_rfl) (by simp) ?_
          refine AllReadyH.cons (o := _) rfl (fun K hK => ?_) AllReadyH.nil
          refine step_row rfl 46 _ _ rfl bz (wc ({ t with p := rpx } : Wk)) rfl rfl _ _ (by exact E8.bZ.setRow_far (by omega) _) (by kernel_rfl) (by kernel_rfl) (by kernel_rfl) ?_
          refine hK.out _ _ ⟨hHeld.1.setRow_far (by omega) _, hHeld.2.setRow_far (by omega) _⟩ (fun hHeld => ?_)
          clear hK K
          refine wpAnyH_done (by kernel_rfl) ?_ _
          have E9 : Sts [g, gl, g2, gl2, bx, bz] bx bz bY sx' ({ t with p := rpx } : Wk) sy { X with p := rpx } Y ((v9.setRow bx (wc sx')).setRow bz (wc ({ t with p := rpx } : Wk))) := (E8.two (p := rpx) A8 hKb (by simp) (by simp) (by omega) (by omega) (by omega)).1
          have B9 := (B8.row (b := bx) (by omega) (by omega) (by omega) (by omega) (by omega) (wc sx')).row (b := bz) (by omega) (by omega) (by omega) (by omega) (by omega) (wc ({ t with p := rpx } : Wk))
          obtain ⟨y9, hy9⟩ : ∃ u, u = (v9.setRow bx (wc sx')).setRow bz (wc ({ t with p := rpx } : Wk)) := ⟨_, rfl⟩
          rw [← hy9] at E9 B9 ⊢
          clear hy9 hHeld E8 A8 B8 YA8 YB8 hKb
          go_wp2
          go_roundw
          case rel => exact ⟨k + 1, rax, rLx, rpx, sx', ({ t with p := rpx } : Wk), by omega, by go_num, B9, E9, kwx, hm6, kpx⟩
          case measure => simp [intOf]; omega
    · obtain rfl : k = 12 := by omega
      go_wp2
      go_ret
      exact ⟨rfl, B.below⟩
theorem EntrySteps_all (c : Cfg) (hf : c.Wf) (v : Sl) (sx sy : Wk) (q : Int) (X Y : St) (L : List Int) (w : World) (hbx : Few bigN X) (hlx : Lies w sx X) (hly : Lies w sy Y) (hr : Reads w .u64 v.v L) (hL : WR L) (hpx : PR X.p) (hpy : PR Y.p) (hq : 0 ≤ q ∧ q < 256) :
    Calls Try.prog 9 #[cv c, v.v, wv sx, wv sy, .int .u8 q] w fun e w' => e = .returned (.bool true) ∧ Below w.heap.size w w' := by
  obtain ⟨ad, n, cap⟩ := v
  have hl := reads_len hr
  have hc := reads_le hr
  simp only at hl hc
  unfold maxLen at hc
  cases hg : greatC c with
  | true => exact EntrySteps_no c hf ad n cap sx sy q X Y hbx w hlx hly (Lib.hid fun _ => both_great c hf ad n cap hg _)
  | false =>
    by_cases hn : 400 < n
    · exact EntrySteps_no c hf ad n cap sx sy q X Y hbx w hlx hly (Lib.hid fun _ => both_long c hf ad n cap hg hn (by omega) _)
    · by_cases hk : chk c = 0
      · by_cases hs : (n : Int) = siz c
        · have HB : RowKit.Hid (∀ {w0 : World}, Below w.heap.size w w0 → Calls Try.prog 20 #[cv c, .slice ad n cap] w0 (BothYes c L w0)) := Lib.hid fun hb => both_yes c hf ad n cap hg (by omega) (chk_ok.1 hk) L hl.symm hs _ (hr.keep hb)
          by_cases hgx : Few 40 X
          · by_cases hgy : Few 40 Y
            · exact EntrySteps_main c hf ad n cap sx sy q X Y L hbx w hlx hly HB hgx hgy (by omega) hL hpx hpy hq
            · exact EntrySteps_gy c hf ad n cap sx sy q X Y L hbx w hlx hly HB hgx hgy
          · exact EntrySteps_gx c hf ad n cap sx sy q X Y L hbx w hlx hly HB hgx
        · exact EntrySteps_no c hf ad n cap sx sy q X Y hbx w hlx hly (Lib.hid fun hb => both_form c hf ad n cap hg (by omega) (chk_ok.1 hk) hs L hl.symm _ (hr.keep hb))
      · exact EntrySteps_no c hf ad n cap sx sy q X Y hbx w hlx hly (Lib.hid fun hb => both_bad c hf ad n cap hg (by omega) hk L hl.symm _ (hr.keep hb))
end Go.Proofs.Ytblkfbbdeodpjaa.Me

/- entry.Good, entry.Live, and the reference's, for every configuration, every slice of words and every ticket (made by genlive.py). -/
import Derived.Test.YtgpdkagmacpghaaGreatEntryLines
import Derived.Test.YtgpdkagmacpghaaGreatSlabs
namespace Go.Proofs.YtgpdkagmacpghaaGreat.Me
open Go Go.RowKit Go.Proofs.YtgpdkagmacpghaaGreat.Gro Go.Proofs.YtgpdkagmacpghaaGreat.Own Go.Proofs.YtgpdkagmacpghaaGreat.Wd Go.Proofs.YtgpdkagmacpghaaGreat.Ap Go.Proofs.YtgpdkagmacpghaaGreat.Pl Go.Proofs.YtgpdkagmacpghaaGreat.Wo
set_option linter.unusedVariables false
set_option linter.unusedSimpArgs false
def LvRet (v : Value) (w : World) (e : Ending) (w' : World) : Prop := e = .returned v ∧ Below w.heap.size w w'
/-- Is the ticket well-formed? -/
def goodB (c : Cfg) (t : Int) : Bool := hasB c (t % 65536 - 1) c.en && decide (1 ≤ t / 65536) && decide (t / 65536 ≤ c.la)
def lvW (c : Cfg) (L : List Int) (t : Int) : Int := L.getD (aEnt c (t % 65536 - 1)).toNat 0
/-- Is the ticket live in the words L? -/
def lvB (c : Cfg) (L : List Int) (t : Int) : Bool := decide (chk c = 0) && decide ((L.length : Int) = siz c) && goodB c t && enB (lvW c L t) (t / 65536)
def lvI (c : Cfg) (L : List Int) (t : Int) : Int := if lvB c L t = true then lvW c L t / 16 % 65536 - 1 else -1
def LvPost (c : Cfg) (L : List Int) (t : Int) (w : World) : Ending → World → Prop := LvRet (.tuple #[.int .i64 (lvI c L t), .bool (lvB c L t)]) w
theorem lv_post {c : Cfg} {L : List Int} {t x : Int} {b : Bool} {f : FuncId} {args : Array Value} {w : World} (h : Calls Tryz.prog f args w (LvRet (.tuple #[.int .i64 x, .bool b]) w)) (h1 : lvI c L t = x) (h2 : lvB c L t = b) : Calls Tryz.prog f args w (LvPost c L t w) := by
  subst h1
  subst h2
  exact h
theorem lv_no {c : Cfg} {L : List Int} {t : Int} (h : lvB c L t = false) : lvI c L t = -1 := by rw [lvI, h]; rfl
theorem aEnt_has {c : Cfg} {k : Int} : decide (0 ≤ aEnt c k) = hasB c k c.en := by
  unfold aEnt
  cases h : hasB c k c.en
  · simp
  · obtain ⟨h1, h2, h3⟩ := hasB_spec h
    have hok := okB_ok h1
    have := hok.ww
    have := hok.sl
    simp only [if_true, decide_eq_true_eq]
    omega
set_option maxRecDepth 10000 in
set_option maxHeartbeats 4000000 in
theorem eGood0 (c : Cfg) (hf : c.Wf) (t : Int) (ht : 0 ≤ t ∧ t < 18446744073709551616) (h : chk c ≠ 0) (w : World) : Calls Tryz.prog 82 #[cv c, .int .u64 t] w (LvRet (.bool false) w) := by
  have C0 := Bk.new w (ccM c) 24
  have hw0 : Below w.heap.size w (w.alloc (.cells (ccM c) 24)) := (Below.refl _ _).alloc (Nat.le_refl _) _
  have hp := newPlan c hf
  rw [show nc c = ⟨0, 0, 0, 0, 0, 0, 0, 0⟩ by rw [nc, if_neg h]] at hp
  have HP := Lib.hid hp
  have HUT := Lib.hid (fun w => Pk.unticket t ht.1 ht.2 w)
  have te : (chk c == 0) = false := by simp [h]
  clear h hp ht
  go_enter Tryz.func82, Tryz.ntmps82
  go_wp2_with (first | (refine wpList_load_row rfl 24 _ rfl w.heap.size rfl _ (ccM c) (0, 0) _ (by exact C0) Tryz.underlying24 rfl (by kernel_rfl) ?_) | (refine wpList_load_row_w rfl 24 _ rfl w.heap.size rfl _ (ccM c) (0, 0) _ (by exact C0) Tryz.underlying24 rfl (by kernel_rfl) ?_))
  refine (HP.out _).mono ?_
  rintro e w1 ⟨rfl, hb1⟩
  have hw1 := hw0.trans (hb1.mono hw0.size)
  have C1 := C0.keep hb1
  have P1 := Bk.new w1 (ccM ⟨0, 0, 0, 0, 0, 0, 0, 0⟩) 128
  have C2 := C1.keep ((Below.refl _ w1).alloc (Nat.le_refl _) (.cells (ccM ⟨0, 0, 0, 0, 0, 0, 0, 0⟩) 128))
  have hw2 := hw1.alloc hw1.size (.cells (ccM ⟨0, 0, 0, 0, 0, 0, 0, 0⟩) 128)
  have x1 := P1.cells
  clear hw0 hb1 C0 C1 hw1
  go_wp2_with fail
  refine (HUT.out _).mono ?_
  rintro e w3 ⟨rfl, rfl⟩
  go_wp2
  go_ret
  exact ⟨rfl, hw2⟩
set_option maxRecDepth 10000 in
set_option maxHeartbeats 4000000 in
theorem eGood1 (c : Cfg) (hf : c.Wf) (t : Int) (ht : 0 ≤ t ∧ t < 18446744073709551616) (h : chk c = 0) (ha : ¬ 0 ≤ aEnt c (t % 65536 - 1)) (w : World) : Calls Tryz.prog 82 #[cv c, .int .u64 t] w (LvRet (.bool false) w) := by
  have C0 := Bk.new w (ccM c) 24
  have hw0 : Below w.heap.size w (w.alloc (.cells (ccM c) 24)) := (Below.refl _ _).alloc (Nat.le_refl _) _
  have hp := newPlan c hf
  rw [show nc c = c by rw [nc, if_pos h], h] at hp
  have HP := Lib.hid hp
  have HUT := Lib.hid (fun w => Pk.unticket t ht.1 ht.2 w)
  have HA := Lib.hid (Pl.entry c hf (t % 65536 - 1))
  have td : decide (0 ≤ aEnt c (t % 65536 - 1)) = false := by simp; omega
  clear h hp ht ha
  go_enter Tryz.func82, Tryz.ntmps82
  go_wp2_with (first | (refine wpList_load_row rfl 24 _ rfl w.heap.size rfl _ (ccM c) (0, 0) _ (by exact C0) Tryz.underlying24 rfl (by kernel_rfl) ?_) | (refine wpList_load_row_w rfl 24 _ rfl w.heap.size rfl _ (ccM c) (0, 0) _ (by exact C0) Tryz.underlying24 rfl (by kernel_rfl) ?_))
  refine (HP.out _).mono ?_
  rintro e w1 ⟨rfl, hb1⟩
  have hw1 := hw0.trans (hb1.mono hw0.size)
  have C1 := C0.keep hb1
  have P1 := Bk.new w1 (ccM c) 128
  have C2 := C1.keep ((Below.refl _ w1).alloc (Nat.le_refl _) (.cells (ccM c) 128))
  have hw2 := hw1.alloc hw1.size (.cells (ccM c) 128)
  have x1 := P1.cells
  clear hw0 hb1 C0 C1 hw1
  go_wp2_with fail
  refine (HUT.out _).mono ?_
  rintro e w3 ⟨rfl, rfl⟩
  go_wp2_with fail
  refine (HA.out _).mono ?_
  rintro e w4 ⟨rfl, hb4⟩
  have hw4 := hw2.trans (hb4.mono hw2.size)
  have C4 := C2.keep hb4
  have x4 := C4.cells
  clear x1 P1 C2 hb4 hw2
  go_wp2
  go_ret
  exact ⟨rfl, hw4⟩
set_option maxRecDepth 10000 in
set_option maxHeartbeats 4000000 in
theorem eGood2 (c : Cfg) (hf : c.Wf) (t : Int) (ht : 0 ≤ t ∧ t < 18446744073709551616) (h : chk c = 0) (ha : 0 ≤ aEnt c (t % 65536 - 1)) (h1 : ¬ 1 ≤ t / 65536) (w : World) : Calls Tryz.prog 82 #[cv c, .int .u64 t] w (LvRet (.bool false) w) := by
  have C0 := Bk.new w (ccM c) 24
  have hw0 : Below w.heap.size w (w.alloc (.cells (ccM c) 24)) := (Below.refl _ _).alloc (Nat.le_refl _) _
  have hp := newPlan c hf
  rw [show nc c = c by rw [nc, if_pos h], h] at hp
  have HP := Lib.hid hp
  have HUT := Lib.hid (fun w => Pk.unticket t ht.1 ht.2 w)
  have HA := Lib.hid (Pl.entry c hf (t % 65536 - 1))
  have td : decide (0 ≤ aEnt c (t % 65536 - 1)) = true := by simp [ha]
  have t1 : decide (1 ≤ t / 65536) = false := by simp; omega
  clear h hp ht ha h1
  go_enter Tryz.func82, Tryz.ntmps82
  go_wp2_with (first | (refine wpList_load_row rfl 24 _ rfl w.heap.size rfl _ (ccM c) (0, 0) _ (by exact C0) Tryz.underlying24 rfl (by kernel_rfl) ?_) | (refine wpList_load_row_w rfl 24 _ rfl w.heap.size rfl _ (ccM c) (0, 0) _ (by exact C0) Tryz.underlying24 rfl (by kernel_rfl) ?_))
  refine (HP.out _).mono ?_
  rintro e w1 ⟨rfl, hb1⟩
  have hw1 := hw0.trans (hb1.mono hw0.size)
  have C1 := C0.keep hb1
  have P1 := Bk.new w1 (ccM c) 128
  have C2 := C1.keep ((Below.refl _ w1).alloc (Nat.le_refl _) (.cells (ccM c) 128))
  have hw2 := hw1.alloc hw1.size (.cells (ccM c) 128)
  have x1 := P1.cells
  clear hw0 hb1 C0 C1 hw1
  go_wp2_with fail
  refine (HUT.out _).mono ?_
  rintro e w3 ⟨rfl, rfl⟩
  go_wp2_with fail
  refine (HA.out _).mono ?_
  rintro e w4 ⟨rfl, hb4⟩
  have hw4 := hw2.trans (hb4.mono hw2.size)
  have C4 := C2.keep hb4
  have x4 := C4.cells
  clear x1 P1 C2 hb4 hw2
  go_wp2
  go_ret
  exact ⟨rfl, hw4⟩
set_option maxRecDepth 10000 in
set_option maxHeartbeats 4000000 in
theorem eGood3 (c : Cfg) (hf : c.Wf) (t : Int) (ht : 0 ≤ t ∧ t < 18446744073709551616) (h : chk c = 0) (ha : 0 ≤ aEnt c (t % 65536 - 1)) (h1 : 1 ≤ t / 65536) (q : Bool) (hq : decide (t / 65536 ≤ c.la) = q) (w : World) : Calls Tryz.prog 82 #[cv c, .int .u64 t] w (LvRet (.bool q) w) := by
  have C0 := Bk.new w (ccM c) 24
  have hw0 : Below w.heap.size w (w.alloc (.cells (ccM c) 24)) := (Below.refl _ _).alloc (Nat.le_refl _) _
  have hp := newPlan c hf
  rw [show nc c = c by rw [nc, if_pos h], h] at hp
  have HP := Lib.hid hp
  have HUT := Lib.hid (fun w => Pk.unticket t ht.1 ht.2 w)
  have HA := Lib.hid (Pl.entry c hf (t % 65536 - 1))
  have td : decide (0 ≤ aEnt c (t % 65536 - 1)) = true := by simp [ha]
  have t1 : decide (1 ≤ t / 65536) = true := by simp [h1]
  clear h hp ht ha h1
  go_enter Tryz.func82, Tryz.ntmps82
  go_wp2_with (first | (refine wpList_load_row rfl 24 _ rfl w.heap.size rfl _ (ccM c) (0, 0) _ (by exact C0) Tryz.underlying24 rfl (by kernel_rfl) ?_) | (refine wpList_load_row_w rfl 24 _ rfl w.heap.size rfl _ (ccM c) (0, 0) _ (by exact C0) Tryz.underlying24 rfl (by kernel_rfl) ?_))
  refine (HP.out _).mono ?_
  rintro e w1 ⟨rfl, hb1⟩
  have hw1 := hw0.trans (hb1.mono hw0.size)
  have C1 := C0.keep hb1
  have P1 := Bk.new w1 (ccM c) 128
  have C2 := C1.keep ((Below.refl _ w1).alloc (Nat.le_refl _) (.cells (ccM c) 128))
  have hw2 := hw1.alloc hw1.size (.cells (ccM c) 128)
  have x1 := P1.cells
  clear hw0 hb1 C0 C1 hw1
  go_wp2_with fail
  refine (HUT.out _).mono ?_
  rintro e w3 ⟨rfl, rfl⟩
  go_wp2_with fail
  refine (HA.out _).mono ?_
  rintro e w4 ⟨rfl, hb4⟩
  have hw4 := hw2.trans (hb4.mono hw2.size)
  have C4 := C2.keep hb4
  have x4 := C4.cells
  clear x1 P1 C2 hb4 hw2
  go_wp2
  go_ret
  exact ⟨rfl, hw4⟩
theorem good_ways (c : Cfg) (t : Int) : (chk c ≠ 0 ∧ goodB c t = false) ∨ (chk c = 0 ∧ ¬ 0 ≤ aEnt c (t % 65536 - 1) ∧ goodB c t = false) ∨ (chk c = 0 ∧ 0 ≤ aEnt c (t % 65536 - 1) ∧ ¬ 1 ≤ t / 65536 ∧ goodB c t = false) ∨ (chk c = 0 ∧ 0 ≤ aEnt c (t % 65536 - 1) ∧ 1 ≤ t / 65536 ∧ goodB c t = decide (t / 65536 ≤ c.la)) := by
  have ha := aEnt_has (c := c) (k := t % 65536 - 1)
  by_cases h : chk c = 0
  · by_cases h0 : 0 ≤ aEnt c (t % 65536 - 1)
    · rw [decide_eq_true h0] at ha
      by_cases h1 : 1 ≤ t / 65536
      · refine .inr (.inr (.inr ⟨h, h0, h1, ?_⟩))
        unfold goodB
        rw [← ha, decide_eq_true h1]
        rfl
      · refine .inr (.inr (.inl ⟨h, h0, h1, ?_⟩))
        unfold goodB
        rw [← ha, decide_eq_false h1]
        rfl
    · refine .inr (.inl ⟨h, h0, ?_⟩)
      unfold goodB
      rw [← ha, decide_eq_false h0]
      rfl
  · refine .inl ⟨h, ?_⟩
    unfold goodB hasB
    rw [okB_false h]
    rfl
theorem eGood (c : Cfg) (hf : c.Wf) (t : Int) (ht : 0 ≤ t ∧ t < 18446744073709551616) (w : World) : Calls Tryz.prog 82 #[cv c, .int .u64 t] w (LvRet (.bool (goodB c t)) w) := by
  rcases good_ways c t with ⟨h, e⟩ | ⟨h, ha, e⟩ | ⟨h, ha, h1, e⟩ | ⟨h, ha, h1, e⟩
  · rw [e]; exact eGood0 c hf t ht h w
  · rw [e]; exact eGood1 c hf t ht h ha w
  · rw [e]; exact eGood2 c hf t ht h ha h1 w
  · rw [e]; exact eGood3 c hf t ht h ha h1 _ rfl w
set_option maxRecDepth 10000 in
set_option maxHeartbeats 4000000 in
theorem rGood0 (c : Cfg) (hf : c.Wf) (t : Int) (ht : 0 ≤ t ∧ t < 18446744073709551616) (h : chk c ≠ 0) (w : World) : Calls Tryz.prog 49 #[cv c, .int .u64 t] w (LvRet (.bool false) w) := by
  have C0 := Bk.new w (ccM c) 24
  have hw0 : Below w.heap.size w (w.alloc (.cells (ccM c) 24)) := (Below.refl _ _).alloc (Nat.le_refl _) _
  have HC := Lib.hid (refCheck c hf)
  have HUT := Lib.hid (fun w => Pk.runticket t ht.1 ht.2 w)
  have te : (chk c == 0) = false := by simp [h]
  obtain ⟨k, hk⟩ : ∃ k, t % 65536 - 1 = k := ⟨_, rfl⟩
  simp only [hk] at *
  clear h hk ht
  go_enter Tryz.func49, Tryz.ntmps49
  go_wp2_with (first | fail)
  refine (HUT.out _).mono ?_
  rintro e w1 ⟨rfl, n1, rfl⟩
  have hb1 : Below (w.alloc (.cells (ccM c) 24)).heap.size (w.alloc (.cells (ccM c) 24)) ((w.alloc (.cells (ccM c) 24)).drewN n1) := gro_drewN (Below.refl _ _)
  obtain ⟨w1, hw1'⟩ : ∃ u, u = (w.alloc (.cells (ccM c) 24)).drewN n1 := ⟨_, rfl⟩
  rw [← hw1'] at hb1 ⊢
  have hw1 := hw0.trans (hb1.mono hw0.size)
  have C1 := C0.keep hb1
  clear hw0 hb1 C0 hw1'
  go_wp2_with (first | (refine wpList_load_row rfl 24 _ rfl w.heap.size rfl _ (ccM c) (0, 0) _ (by exact C1) Tryz.underlying24 rfl (by kernel_rfl) ?_) | (refine wpList_load_row_w rfl 24 _ rfl w.heap.size rfl _ (ccM c) (0, 0) _ (by exact C1) Tryz.underlying24 rfl (by kernel_rfl) ?_))
  refine (HC.out _).mono ?_
  rintro e w2 ⟨rfl, hb2⟩
  have hw2 := hw1.trans (hb2.mono hw1.size)
  have C2 := C1.keep hb2
  have x2 := C2.cells
  clear hb2 C1 hw1
  go_wp2
  go_ret
  exact ⟨rfl, hw2⟩
set_option maxRecDepth 10000 in
set_option maxHeartbeats 4000000 in
theorem rGood1 (c : Cfg) (hf : c.Wf) (t : Int) (ht : 0 ≤ t ∧ t < 18446744073709551616) (h : chk c = 0) (ha : ¬ 0 ≤ t % 65536 - 1) (w : World) : Calls Tryz.prog 49 #[cv c, .int .u64 t] w (LvRet (.bool false) w) := by
  have C0 := Bk.new w (ccM c) 24
  have hw0 : Below w.heap.size w (w.alloc (.cells (ccM c) 24)) := (Below.refl _ _).alloc (Nat.le_refl _) _
  have HC := Lib.hid (refCheck c hf)
  have HUT := Lib.hid (fun w => Pk.runticket t ht.1 ht.2 w)
  have te : (chk c == 0) = true := by simp [h]
  obtain ⟨k, hk⟩ : ∃ k, t % 65536 - 1 = k := ⟨_, rfl⟩
  simp only [hk] at *
  have ta : decide (0 ≤ k) = false := by simp; omega
  clear h hk ht ha
  go_enter Tryz.func49, Tryz.ntmps49
  go_wp2_with (first | fail)
  refine (HUT.out _).mono ?_
  rintro e w1 ⟨rfl, n1, rfl⟩
  have hb1 : Below (w.alloc (.cells (ccM c) 24)).heap.size (w.alloc (.cells (ccM c) 24)) ((w.alloc (.cells (ccM c) 24)).drewN n1) := gro_drewN (Below.refl _ _)
  obtain ⟨w1, hw1'⟩ : ∃ u, u = (w.alloc (.cells (ccM c) 24)).drewN n1 := ⟨_, rfl⟩
  rw [← hw1'] at hb1 ⊢
  have hw1 := hw0.trans (hb1.mono hw0.size)
  have C1 := C0.keep hb1
  clear hw0 hb1 C0 hw1'
  go_wp2_with (first | (refine wpList_load_row rfl 24 _ rfl w.heap.size rfl _ (ccM c) (0, 0) _ (by exact C1) Tryz.underlying24 rfl (by kernel_rfl) ?_) | (refine wpList_load_row_w rfl 24 _ rfl w.heap.size rfl _ (ccM c) (0, 0) _ (by exact C1) Tryz.underlying24 rfl (by kernel_rfl) ?_))
  refine (HC.out _).mono ?_
  rintro e w2 ⟨rfl, hb2⟩
  have hw2 := hw1.trans (hb2.mono hw1.size)
  have C2 := C1.keep hb2
  have x2 := C2.cells
  clear hb2 C1 hw1
  go_wp2
  go_ret
  exact ⟨rfl, hw2⟩
set_option maxRecDepth 10000 in
set_option maxHeartbeats 4000000 in
theorem rGood2 (c : Cfg) (hf : c.Wf) (t : Int) (ht : 0 ≤ t ∧ t < 18446744073709551616) (h : chk c = 0) (ha : 0 ≤ t % 65536 - 1) (hn : ¬ t % 65536 - 1 < c.en) (w : World) : Calls Tryz.prog 49 #[cv c, .int .u64 t] w (LvRet (.bool false) w) := by
  have C0 := Bk.new w (ccM c) 24
  have hw0 : Below w.heap.size w (w.alloc (.cells (ccM c) 24)) := (Below.refl _ _).alloc (Nat.le_refl _) _
  have HC := Lib.hid (refCheck c hf)
  have HUT := Lib.hid (fun w => Pk.runticket t ht.1 ht.2 w)
  have te : (chk c == 0) = true := by simp [h]
  obtain ⟨k, hk⟩ : ∃ k, t % 65536 - 1 = k := ⟨_, rfl⟩
  simp only [hk] at *
  have ta : decide (0 ≤ k) = true := by simp; omega
  have tb : decide (k < c.en) = false := by simp; omega
  clear h hk ht ha hn
  go_enter Tryz.func49, Tryz.ntmps49
  go_wp2_with (first | fail)
  refine (HUT.out _).mono ?_
  rintro e w1 ⟨rfl, n1, rfl⟩
  have hb1 : Below (w.alloc (.cells (ccM c) 24)).heap.size (w.alloc (.cells (ccM c) 24)) ((w.alloc (.cells (ccM c) 24)).drewN n1) := gro_drewN (Below.refl _ _)
  obtain ⟨w1, hw1'⟩ : ∃ u, u = (w.alloc (.cells (ccM c) 24)).drewN n1 := ⟨_, rfl⟩
  rw [← hw1'] at hb1 ⊢
  have hw1 := hw0.trans (hb1.mono hw0.size)
  have C1 := C0.keep hb1
  clear hw0 hb1 C0 hw1'
  go_wp2_with (first | (refine wpList_load_row rfl 24 _ rfl w.heap.size rfl _ (ccM c) (0, 0) _ (by exact C1) Tryz.underlying24 rfl (by kernel_rfl) ?_) | (refine wpList_load_row_w rfl 24 _ rfl w.heap.size rfl _ (ccM c) (0, 0) _ (by exact C1) Tryz.underlying24 rfl (by kernel_rfl) ?_))
  refine (HC.out _).mono ?_
  rintro e w2 ⟨rfl, hb2⟩
  have hw2 := hw1.trans (hb2.mono hw1.size)
  have C2 := C1.keep hb2
  have x2 := C2.cells
  clear hb2 C1 hw1
  go_wp2
  go_ret
  exact ⟨rfl, hw2⟩
set_option maxRecDepth 10000 in
set_option maxHeartbeats 4000000 in
theorem rGood3 (c : Cfg) (hf : c.Wf) (t : Int) (ht : 0 ≤ t ∧ t < 18446744073709551616) (h : chk c = 0) (ha : 0 ≤ t % 65536 - 1) (hn : t % 65536 - 1 < c.en) (h1 : ¬ 1 ≤ t / 65536) (w : World) : Calls Tryz.prog 49 #[cv c, .int .u64 t] w (LvRet (.bool false) w) := by
  have C0 := Bk.new w (ccM c) 24
  have hw0 : Below w.heap.size w (w.alloc (.cells (ccM c) 24)) := (Below.refl _ _).alloc (Nat.le_refl _) _
  have HC := Lib.hid (refCheck c hf)
  have HUT := Lib.hid (fun w => Pk.runticket t ht.1 ht.2 w)
  have te : (chk c == 0) = true := by simp [h]
  obtain ⟨k, hk⟩ : ∃ k, t % 65536 - 1 = k := ⟨_, rfl⟩
  simp only [hk] at *
  have ta : decide (0 ≤ k) = true := by simp; omega
  have tb : decide (k < c.en) = true := by simp; omega
  have t1 : decide (1 ≤ t / 65536) = false := by simp; omega
  clear h hk ht ha hn h1
  go_enter Tryz.func49, Tryz.ntmps49
  go_wp2_with (first | fail)
  refine (HUT.out _).mono ?_
  rintro e w1 ⟨rfl, n1, rfl⟩
  have hb1 : Below (w.alloc (.cells (ccM c) 24)).heap.size (w.alloc (.cells (ccM c) 24)) ((w.alloc (.cells (ccM c) 24)).drewN n1) := gro_drewN (Below.refl _ _)
  obtain ⟨w1, hw1'⟩ : ∃ u, u = (w.alloc (.cells (ccM c) 24)).drewN n1 := ⟨_, rfl⟩
  rw [← hw1'] at hb1 ⊢
  have hw1 := hw0.trans (hb1.mono hw0.size)
  have C1 := C0.keep hb1
  clear hw0 hb1 C0 hw1'
  go_wp2_with (first | (refine wpList_load_row rfl 24 _ rfl w.heap.size rfl _ (ccM c) (0, 0) _ (by exact C1) Tryz.underlying24 rfl (by kernel_rfl) ?_) | (refine wpList_load_row_w rfl 24 _ rfl w.heap.size rfl _ (ccM c) (0, 0) _ (by exact C1) Tryz.underlying24 rfl (by kernel_rfl) ?_))
  refine (HC.out _).mono ?_
  rintro e w2 ⟨rfl, hb2⟩
  have hw2 := hw1.trans (hb2.mono hw1.size)
  have C2 := C1.keep hb2
  have x2 := C2.cells
  clear hb2 C1 hw1
  go_wp2
  go_ret
  exact ⟨rfl, hw2⟩
set_option maxRecDepth 10000 in
set_option maxHeartbeats 4000000 in
theorem rGood4 (c : Cfg) (hf : c.Wf) (t : Int) (ht : 0 ≤ t ∧ t < 18446744073709551616) (h : chk c = 0) (ha : 0 ≤ t % 65536 - 1) (hn : t % 65536 - 1 < c.en) (h1 : 1 ≤ t / 65536) (q : Bool) (hq : decide (t / 65536 ≤ c.la) = q) (w : World) : Calls Tryz.prog 49 #[cv c, .int .u64 t] w (LvRet (.bool q) w) := by
  have C0 := Bk.new w (ccM c) 24
  have hw0 : Below w.heap.size w (w.alloc (.cells (ccM c) 24)) := (Below.refl _ _).alloc (Nat.le_refl _) _
  have HC := Lib.hid (refCheck c hf)
  have HUT := Lib.hid (fun w => Pk.runticket t ht.1 ht.2 w)
  have te : (chk c == 0) = true := by simp [h]
  obtain ⟨k, hk⟩ : ∃ k, t % 65536 - 1 = k := ⟨_, rfl⟩
  simp only [hk] at *
  have ta : decide (0 ≤ k) = true := by simp; omega
  have tb : decide (k < c.en) = true := by simp; omega
  have t1 : decide (1 ≤ t / 65536) = true := by simp [h1]
  clear h hk ht ha hn h1
  go_enter Tryz.func49, Tryz.ntmps49
  go_wp2_with (first | fail)
  refine (HUT.out _).mono ?_
  rintro e w1 ⟨rfl, n1, rfl⟩
  have hb1 : Below (w.alloc (.cells (ccM c) 24)).heap.size (w.alloc (.cells (ccM c) 24)) ((w.alloc (.cells (ccM c) 24)).drewN n1) := gro_drewN (Below.refl _ _)
  obtain ⟨w1, hw1'⟩ : ∃ u, u = (w.alloc (.cells (ccM c) 24)).drewN n1 := ⟨_, rfl⟩
  rw [← hw1'] at hb1 ⊢
  have hw1 := hw0.trans (hb1.mono hw0.size)
  have C1 := C0.keep hb1
  clear hw0 hb1 C0 hw1'
  go_wp2_with (first | (refine wpList_load_row rfl 24 _ rfl w.heap.size rfl _ (ccM c) (0, 0) _ (by exact C1) Tryz.underlying24 rfl (by kernel_rfl) ?_) | (refine wpList_load_row_w rfl 24 _ rfl w.heap.size rfl _ (ccM c) (0, 0) _ (by exact C1) Tryz.underlying24 rfl (by kernel_rfl) ?_))
  refine (HC.out _).mono ?_
  rintro e w2 ⟨rfl, hb2⟩
  have hw2 := hw1.trans (hb2.mono hw1.size)
  have C2 := C1.keep hb2
  have x2 := C2.cells
  clear hb2 C1 hw1
  go_wp2
  go_ret
  exact ⟨rfl, hw2⟩
theorem rgood_ways (c : Cfg) (t : Int) : (chk c ≠ 0 ∧ goodB c t = false) ∨ (chk c = 0 ∧ ¬ 0 ≤ t % 65536 - 1 ∧ goodB c t = false) ∨ (chk c = 0 ∧ 0 ≤ t % 65536 - 1 ∧ ¬ t % 65536 - 1 < c.en ∧ goodB c t = false) ∨ (chk c = 0 ∧ 0 ≤ t % 65536 - 1 ∧ t % 65536 - 1 < c.en ∧ ¬ 1 ≤ t / 65536 ∧ goodB c t = false) ∨ (chk c = 0 ∧ 0 ≤ t % 65536 - 1 ∧ t % 65536 - 1 < c.en ∧ 1 ≤ t / 65536 ∧ goodB c t = decide (t / 65536 ≤ c.la)) := by
  by_cases h : chk c = 0
  · by_cases h0 : 0 ≤ t % 65536 - 1
    · by_cases hn : t % 65536 - 1 < c.en
      · by_cases h1 : 1 ≤ t / 65536
        · refine .inr (.inr (.inr (.inr ⟨h, h0, hn, h1, ?_⟩)))
          unfold goodB hasB
          rw [okB_true h, decide_eq_true h0, decide_eq_true hn, decide_eq_true h1]
          rfl
        · refine .inr (.inr (.inr (.inl ⟨h, h0, hn, h1, ?_⟩)))
          unfold goodB
          rw [decide_eq_false h1, Bool.and_false]
          rfl
      · refine .inr (.inr (.inl ⟨h, h0, hn, ?_⟩))
        unfold goodB hasB
        rw [decide_eq_false hn, Bool.and_false]
        rfl
    · refine .inr (.inl ⟨h, h0, ?_⟩)
      unfold goodB hasB
      rw [decide_eq_false h0, Bool.and_false]
      rfl
  · refine .inl ⟨h, ?_⟩
    unfold goodB hasB
    rw [okB_false h]
    rfl
theorem rGood (c : Cfg) (hf : c.Wf) (t : Int) (ht : 0 ≤ t ∧ t < 18446744073709551616) (w : World) : Calls Tryz.prog 49 #[cv c, .int .u64 t] w (LvRet (.bool (goodB c t)) w) := by
  rcases rgood_ways c t with ⟨h, e⟩ | ⟨h, ha, e⟩ | ⟨h, ha, hn, e⟩ | ⟨h, ha, hn, h1, e⟩ | ⟨h, ha, hn, h1, e⟩
  · rw [e]; exact rGood0 c hf t ht h w
  · rw [e]; exact rGood1 c hf t ht h ha w
  · rw [e]; exact rGood2 c hf t ht h ha hn w
  · rw [e]; exact rGood3 c hf t ht h ha hn h1 w
  · rw [e]; exact rGood4 c hf t ht h ha hn h1 _ rfl w
/-- The ways of both, at one input. -/
theorem live_ways {c : Cfg} {L : List Int} {v : Sl} {w : World} (hr : Reads w .u64 v.v L) (hL : ∀ x ∈ L, 0 ≤ x ∧ x < 18446744073709551616) (t : Int) :
    (chk c ≠ 0) ∨ (chk c = 0 ∧ (v.len : Int) ≠ siz c) ∨ (chk c = 0 ∧ (v.len : Int) = siz c ∧ goodB c t = false) ∨ (chk c = 0 ∧ (v.len : Int) = siz c ∧ goodB c t = true ∧ ∃ j b0 off, 0 ≤ lvW c L t ∧ lvW c L t < 18446744073709551616 ∧ aEnt c (t % 65536 - 1) = ((j : Nat) : Int) ∧ j < v.len ∧ v.ad = some ⟨b0, off, none⟩ ∧ b0 < w.heap.size ∧ w.cell? ⟨b0, off + j, none⟩ = some (.int .u64 (lvW c L t))) := by
  by_cases h : chk c = 0
  · by_cases hs : (v.len : Int) = siz c
    · cases hg : goodB c t
      · exact .inr (.inr (.inl ⟨h, hs, rfl⟩))
      · refine .inr (.inr (.inr ⟨h, hs, rfl, ?_⟩))
        have hh : hasB c (t % 65536 - 1) c.en = true := by
          unfold goodB at hg
          simp only [Bool.and_eq_true] at hg
          exact hg.1.1
        obtain ⟨h1, h2, h3⟩ := hasB_spec hh
        have hln := reads_len hr
        have hok := chk_ok.1 h
        have hww := hok.ww
        have he : aEnt c (t % 65536 - 1) = 3 + c.ww + c.sl + 2 * (t % 65536 - 1) := by rw [aEnt, if_pos hh]
        have hsl := hok.sl
        have hz : 3 + c.ww + c.sl + 2 * (t % 65536 - 1) < siz c := by
          have h2 := hok.en
          have h3 := hok.bl
          have h4 := hok.wd
          have := mul_range (a := c.sl) (b := c.bl) (A := 8) (B := 16) (by omega) (by omega) (by omega) (by omega)
          have := mul_range (a := c.sl * c.bl) (b := 1 + c.wd) (A := 128) (B := 5) (by omega) (by omega) (by omega) (by omega)
          rw [siz, if_pos (okB_of_ok hok)]
          omega
        obtain ⟨j, hj⟩ : ∃ j : Nat, aEnt c (t % 65536 - 1) = (j : Int) := ⟨(aEnt c (t % 65536 - 1)).toNat, by rw [Int.toNat_of_nonneg]; omega⟩
        have hjn : j < L.length := by omega
        have hv : lvW c L t = L[j] := by
          unfold lvW
          rw [hj, Int.toNat_natCast, List.getD_eq_getElem?_getD, List.getElem?_eq_getElem hjn]
          rfl
        obtain ⟨ad, cap, e, _, _, h3⟩ := hr
        rcases h3 with rfl | ⟨b0, off, rfl, hb0, hc⟩
        · simp at hjn
        · have e2 : v.ad = some ⟨b0, off, none⟩ := by
            obtain ⟨va, vl, vc⟩ := v
            simp only [Sl.v, Value.slice.injEq] at e
            exact e.1
          have hx := hL _ (List.getElem_mem hjn)
          refine ⟨j, b0, off, ?_, ?_, hj, by omega, e2, hb0, ?_⟩
          · rw [hv]; exact hx.1
          · rw [hv]; exact hx.2
          · rw [hv]; exact hc _ hjn
    · exact .inr (.inl ⟨h, hs⟩)
  · exact .inl h
end Go.Proofs.YtgpdkagmacpghaaGreat.Me

/- entry.Good, entry.Live, and the reference's, for every configuration, every slice of words and every ticket (made by genlive.py). -/
import Derived.Test.YtblkfbbdeodpjaaEntryLines
import Derived.Test.YtblkfbbdeodpjaaSlabWordRef
namespace Go.Proofs.Ytblkfbbdeodpjaa.Me
open Go Go.RowKit Go.Proofs.Ytblkfbbdeodpjaa.Gro Go.Proofs.Ytblkfbbdeodpjaa.Own Go.Proofs.Ytblkfbbdeodpjaa.Wd Go.Proofs.Ytblkfbbdeodpjaa.Ap Go.Proofs.Ytblkfbbdeodpjaa.Pl Go.Proofs.Ytblkfbbdeodpjaa.Wo
set_option linter.unusedVariables false
set_option linter.unusedSimpArgs false
def LvRet (v : Value) (w : World) (e : Ending) (w' : World) : Prop := e = .returned v ∧ Below w.heap.size w w'
/-- Is the ticket well-formed? -/
def goodB (c : Cfg) (t : Int) : Bool := hasB c (t % 65536 - 1) c.en && decide (1 ≤ t / 65536) && decide (t / 65536 ≤ c.la)
def lvW (c : Cfg) (L : List Int) (t : Int) : Int := L.getD (aEnt c (t % 65536 - 1)).toNat 0
/-- Is the ticket live in the words L? -/
def lvB (c : Cfg) (L : List Int) (t : Int) : Bool := decide (chk c = 0) && decide ((L.length : Int) = siz c) && goodB c t && enB (lvW c L t) (t / 65536)
def lvI (c : Cfg) (L : List Int) (t : Int) : Int := if lvB c L t = true then lvW c L t / 16 % 65536 - 1 else -1
def LvPost (c : Cfg) (L : List Int) (t : Int) (w : World) : Ending → World → Prop := LvRet (.tuple #[.int .i64 (lvI c L t), .bool (lvB c L t)]) w
theorem lv_post {c : Cfg} {L : List Int} {t x : Int} {b : Bool} {f : FuncId} {args : Array Value} {w : World} (h : Calls Try.prog f args w (LvRet (.tuple #[.int .i64 x, .bool b]) w)) (h1 : lvI c L t = x) (h2 : lvB c L t = b) : Calls Try.prog f args w (LvPost c L t w) := by
  subst h1
  subst h2
  exact h
theorem lv_no {c : Cfg} {L : List Int} {t : Int} (h : lvB c L t = false) : lvI c L t = -1 := by rw [lvI, h]; rfl
theorem aEnt_has {c : Cfg} {k : Int} : decide (0 ≤ aEnt c k) = hasB c k c.en := by
  unfold aEnt
  cases h : hasB c k c.en
  · simp
  · obtain ⟨h1, h2, h3⟩ := hasB_spec h
    have hok := okB_ok h1
    have := hok.ww
    have := hok.sl
    simp only [if_true, decide_eq_true_eq]
    omega
set_option maxRecDepth 10000 in
set_option maxHeartbeats 4000000 in
theorem eGood0 (c : Cfg) (hf : c.Wf) (t : Int) (ht : 0 ≤ t ∧ t < 18446744073709551616) (h : chk c ≠ 0) (w : World) : Calls Try.prog 44 #[cv c, .int .u64 t] w (LvRet (.bool false) w) := by
  have C0 := Bk.new w (ccM c) 24
  have hw0 : Below w.heap.size w (w.alloc (.cells (ccM c) 24)) := (Below.refl _ _).alloc (Nat.le_refl _) _
  have hp := newPlan c hf
  rw [show nc c = ⟨0, 0, 0, 0, 0, 0, 0, 0⟩ by rw [nc, if_neg h]] at hp
  have HP := Lib.hid hp
  have HUT := Lib.hid (fun w => Pk.unticket t ht.1 ht.2 w)
  have te : (chk c == 0) = false := by simp [h]
  clear h hp ht
  go_enter Try.func44, Try.ntmps44
  go_wp2_with (first | (refine wpList_load_row rfl 24 _ rfl w.heap.size rfl _ (ccM c) (0, 0) _ (by exact C0) Try.underlying24 rfl (by kernel_rfl) ?_) | (refine wpList_load_row_w rfl 24 _ rfl w.heap.size rfl _ (ccM c) (0, 0) _ (by exact C0) Try.underlying24 rfl (by kernel_rfl) ?_))
  refine (HP.out _).mono ?_
  rintro e w1 ⟨rfl, hb1⟩
  have hw1 := hw0.trans (hb1.mono hw0.size)
  have C1 := C0.keep hb1
  have P1 := Bk.new w1 (ccM ⟨0, 0, 0, 0, 0, 0, 0, 0⟩) 76
  have C2 := C1.keep ((Below.refl _ w1).alloc (Nat.le_refl _) (.cells (ccM ⟨0, 0, 0, 0, 0, 0, 0, 0⟩) 76))
  have hw2 := hw1.alloc hw1.size (.cells (ccM ⟨0, 0, 0, 0, 0, 0, 0, 0⟩) 76)
  have x1 := P1.cells
  clear hw0 hb1 C0 C1 hw1
  go_wp2_with fail
  refine (HUT.out _).mono ?_
  rintro e w3 ⟨rfl, rfl⟩
  go_wp2
  go_ret
  exact ⟨rfl, hw2⟩
set_option maxRecDepth 10000 in
set_option maxHeartbeats 4000000 in
theorem eGood1 (c : Cfg) (hf : c.Wf) (t : Int) (ht : 0 ≤ t ∧ t < 18446744073709551616) (h : chk c = 0) (ha : ¬ 0 ≤ aEnt c (t % 65536 - 1)) (w : World) : Calls Try.prog 44 #[cv c, .int .u64 t] w (LvRet (.bool false) w) := by
  have C0 := Bk.new w (ccM c) 24
  have hw0 : Below w.heap.size w (w.alloc (.cells (ccM c) 24)) := (Below.refl _ _).alloc (Nat.le_refl _) _
  have hp := newPlan c hf
  rw [show nc c = c by rw [nc, if_pos h], h] at hp
  have HP := Lib.hid hp
  have HUT := Lib.hid (fun w => Pk.unticket t ht.1 ht.2 w)
  have HA := Lib.hid (Pl.entry c hf (t % 65536 - 1))
  have td : decide (0 ≤ aEnt c (t % 65536 - 1)) = false := by simp; omega
  clear h hp ht ha
  go_enter Try.func44, Try.ntmps44
  go_wp2_with (first | (refine wpList_load_row rfl 24 _ rfl w.heap.size rfl _ (ccM c) (0, 0) _ (by exact C0) Try.underlying24 rfl (by kernel_rfl) ?_) | (refine wpList_load_row_w rfl 24 _ rfl w.heap.size rfl _ (ccM c) (0, 0) _ (by exact C0) Try.underlying24 rfl (by kernel_rfl) ?_))
  refine (HP.out _).mono ?_
  rintro e w1 ⟨rfl, hb1⟩
  have hw1 := hw0.trans (hb1.mono hw0.size)
  have C1 := C0.keep hb1
  have P1 := Bk.new w1 (ccM c) 76
  have C2 := C1.keep ((Below.refl _ w1).alloc (Nat.le_refl _) (.cells (ccM c) 76))
  have hw2 := hw1.alloc hw1.size (.cells (ccM c) 76)
  have x1 := P1.cells
  clear hw0 hb1 C0 C1 hw1
  go_wp2_with fail
  refine (HUT.out _).mono ?_
  rintro e w3 ⟨rfl, rfl⟩
  go_wp2_with fail
  refine (HA.out _).mono ?_
  rintro e w4 ⟨rfl, hb4⟩
  have hw4 := hw2.trans (hb4.mono hw2.size)
  have C4 := C2.keep hb4
  have x4 := C4.cells
  clear x1 P1 C2 hb4 hw2
  go_wp2
  go_ret
  exact ⟨rfl, hw4⟩
set_option maxRecDepth 10000 in
set_option maxHeartbeats 4000000 in
theorem eGood2 (c : Cfg) (hf : c.Wf) (t : Int) (ht : 0 ≤ t ∧ t < 18446744073709551616) (h : chk c = 0) (ha : 0 ≤ aEnt c (t % 65536 - 1)) (h1 : ¬ 1 ≤ t / 65536) (w : World) : Calls Try.prog 44 #[cv c, .int .u64 t] w (LvRet (.bool false) w) := by
  have C0 := Bk.new w (ccM c) 24
  have hw0 : Below w.heap.size w (w.alloc (.cells (ccM c) 24)) := (Below.refl _ _).alloc (Nat.le_refl _) _
  have hp := newPlan c hf
  rw [show nc c = c by rw [nc, if_pos h], h] at hp
  have HP := Lib.hid hp
  have HUT := Lib.hid (fun w => Pk.unticket t ht.1 ht.2 w)
  have HA := Lib.hid (Pl.entry c hf (t % 65536 - 1))
  have td : decide (0 ≤ aEnt c (t % 65536 - 1)) = true := by simp [ha]
  have t1 : decide (1 ≤ t / 65536) = false := by simp; omega
  clear h hp ht ha h1
  go_enter Try.func44, Try.ntmps44
  go_wp2_with (first | (refine wpList_load_row rfl 24 _ rfl w.heap.size rfl _ (ccM c) (0, 0) _ (by exact C0) Try.underlying24 rfl (by kernel_rfl) ?_) | (refine wpList_load_row_w rfl 24 _ rfl w.heap.size rfl _ (ccM c) (0, 0) _ (by exact C0) Try.underlying24 rfl (by kernel_rfl) ?_))
  refine (HP.out _).mono ?_
  rintro e w1 ⟨rfl, hb1⟩
  have hw1 := hw0.trans (hb1.mono hw0.size)
  have C1 := C0.keep hb1
  have P1 := Bk.new w1 (ccM c) 76
  have C2 := C1.keep ((Below.refl _ w1).alloc (Nat.le_refl _) (.cells (ccM c) 76))
  have hw2 := hw1.alloc hw1.size (.cells (ccM c) 76)
  have x1 := P1.cells
  clear hw0 hb1 C0 C1 hw1
  go_wp2_with fail
  refine (HUT.out _).mono ?_
  rintro e w3 ⟨rfl, rfl⟩
  go_wp2_with fail
  refine (HA.out _).mono ?_
  rintro e w4 ⟨rfl, hb4⟩
  have hw4 := hw2.trans (hb4.mono hw2.size)
  have C4 := C2.keep hb4
  have x4 := C4.cells
  clear x1 P1 C2 hb4 hw2
  go_wp2
  go_ret
  exact ⟨rfl, hw4⟩
set_option maxRecDepth 10000 in
set_option maxHeartbeats 4000000 in
theorem eGood3 (c : Cfg) (hf : c.Wf) (t : Int) (ht : 0 ≤ t ∧ t < 18446744073709551616) (h : chk c = 0) (ha : 0 ≤ aEnt c (t % 65536 - 1)) (h1 : 1 ≤ t / 65536) (q : Bool) (hq : decide (t / 65536 ≤ c.la) = q) (w : World) : Calls Try.prog 44 #[cv c, .int .u64 t] w (LvRet (.bool q) w) := by
  have C0 := Bk.new w (ccM c) 24
  have hw0 : Below w.heap.size w (w.alloc (.cells (ccM c) 24)) := (Below.refl _ _).alloc (Nat.le_refl _) _
  have hp := newPlan c hf
  rw [show nc c = c by rw [nc, if_pos h], h] at hp
  have HP := Lib.hid hp
  have HUT := Lib.hid (fun w => Pk.unticket t ht.1 ht.2 w)
  have HA := Lib.hid (Pl.entry c hf (t % 65536 - 1))
  have td : decide (0 ≤ aEnt c (t % 65536 - 1)) = true := by simp [ha]
  have t1 : decide (1 ≤ t / 65536) = true := by simp [h1]
  clear h hp ht ha h1
  go_enter Try.func44, Try.ntmps44
  go_wp2_with (first | (refine wpList_load_row rfl 24 _ rfl w.heap.size rfl _ (ccM c) (0, 0) _ (by exact C0) Try.underlying24 rfl (by kernel_rfl) ?_) | (refine wpList_load_row_w rfl 24 _ rfl w.heap.size rfl _ (ccM c) (0, 0) _ (by exact C0) Try.underlying24 rfl (by kernel_rfl) ?_))
  refine (HP.out _).mono ?_
  rintro e w1 ⟨rfl, hb1⟩
  have hw1 := hw0.trans (hb1.mono hw0.size)
  have C1 := C0.keep hb1
  have P1 := Bk.new w1 (ccM c) 76
  have C2 := C1.keep ((Below.refl _ w1).alloc (Nat.le_refl _) (.cells (ccM c) 76))
  have hw2 := hw1.alloc hw1.size (.cells (ccM c) 76)
  have x1 := P1.cells
  clear hw0 hb1 C0 C1 hw1
  go_wp2_with fail
  refine (HUT.out _).mono ?_
  rintro e w3 ⟨rfl, rfl⟩
  go_wp2_with fail
  refine (HA.out _).mono ?_
  rintro e w4 ⟨rfl, hb4⟩
  have hw4 := hw2.trans (hb4.mono hw2.size)
  have C4 := C2.keep hb4
  have x4 := C4.cells
  clear x1 P1 C2 hb4 hw2
  go_wp2
  go_ret
  exact ⟨rfl, hw4⟩
theorem good_ways (c : Cfg) (t : Int) : (chk c ≠ 0 ∧ goodB c t = false) ∨ (chk c = 0 ∧ ¬ 0 ≤ aEnt c (t % 65536 - 1) ∧ goodB c t = false) ∨ (chk c = 0 ∧ 0 ≤ aEnt c (t % 65536 - 1) ∧ ¬ 1 ≤ t / 65536 ∧ goodB c t = false) ∨ (chk c = 0 ∧ 0 ≤ aEnt c (t % 65536 - 1) ∧ 1 ≤ t / 65536 ∧ goodB c t = decide (t / 65536 ≤ c.la)) := by
  have ha := aEnt_has (c := c) (k := t % 65536 - 1)
  by_cases h : chk c = 0
  · by_cases h0 : 0 ≤ aEnt c (t % 65536 - 1)
    · rw [decide_eq_true h0] at ha
      by_cases h1 : 1 ≤ t / 65536
      · refine .inr (.inr (.inr ⟨h, h0, h1, ?_⟩))
        unfold goodB
        rw [← ha, decide_eq_true h1]
        rfl
      · refine .inr (.inr (.inl ⟨h, h0, h1, ?_⟩))
        unfold goodB
        rw [← ha, decide_eq_false h1]
        rfl
    · refine .inr (.inl ⟨h, h0, ?_⟩)
      unfold goodB
      rw [← ha, decide_eq_false h0]
      rfl
  · refine .inl ⟨h, ?_⟩
    unfold goodB hasB
    rw [okB_false h]
    rfl
theorem eGood (c : Cfg) (hf : c.Wf) (t : Int) (ht : 0 ≤ t ∧ t < 18446744073709551616) (w : World) : Calls Try.prog 44 #[cv c, .int .u64 t] w (LvRet (.bool (goodB c t)) w) := by
  rcases good_ways c t with ⟨h, e⟩ | ⟨h, ha, e⟩ | ⟨h, ha, h1, e⟩ | ⟨h, ha, h1, e⟩
  · rw [e]; exact eGood0 c hf t ht h w
  · rw [e]; exact eGood1 c hf t ht h ha w
  · rw [e]; exact eGood2 c hf t ht h ha h1 w
  · rw [e]; exact eGood3 c hf t ht h ha h1 _ rfl w
set_option maxRecDepth 10000 in
set_option maxHeartbeats 4000000 in
theorem rGood0 (c : Cfg) (hf : c.Wf) (t : Int) (ht : 0 ≤ t ∧ t < 18446744073709551616) (h : chk c ≠ 0) (w : World) : Calls Try.prog 45 #[cv c, .int .u64 t] w (LvRet (.bool false) w) := by
  have C0 := Bk.new w (ccM c) 24
  have hw0 : Below w.heap.size w (w.alloc (.cells (ccM c) 24)) := (Below.refl _ _).alloc (Nat.le_refl _) _
  have HC := Lib.hid (refCheck c hf)
  have HUT := Lib.hid (fun w => Pk.runticket t ht.1 ht.2 w)
  have te : (chk c == 0) = false := by simp [h]
  obtain ⟨k, hk⟩ : ∃ k, t % 65536 - 1 = k := ⟨_, rfl⟩
  simp only [hk] at *
  clear h hk ht
  go_enter Try.func45, Try.ntmps45
  go_wp2_with (first | fail)
  refine (HUT.out _).mono ?_
  rintro e w1 ⟨rfl, n1, rfl⟩
  have hb1 : Below (w.alloc (.cells (ccM c) 24)).heap.size (w.alloc (.cells (ccM c) 24)) ((w.alloc (.cells (ccM c) 24)).drewN n1) := gro_drewN (Below.refl _ _)
  obtain ⟨w1, hw1'⟩ : ∃ u, u = (w.alloc (.cells (ccM c) 24)).drewN n1 := ⟨_, rfl⟩
  rw [← hw1'] at hb1 ⊢
  have hw1 := hw0.trans (hb1.mono hw0.size)
  have C1 := C0.keep hb1
  clear hw0 hb1 C0 hw1'
  go_wp2_with (first | (refine wpList_load_row rfl 24 _ rfl w.heap.size rfl _ (ccM c) (0, 0) _ (by exact C1) Try.underlying24 rfl (by kernel_rfl) ?_) | (refine wpList_load_row_w rfl 24 _ rfl w.heap.size rfl _ (ccM c) (0, 0) _ (by exact C1) Try.underlying24 rfl (by kernel_rfl) ?_))
  refine (HC.out _).mono ?_
  rintro e w2 ⟨rfl, hb2⟩
  have hw2 := hw1.trans (hb2.mono hw1.size)
  have C2 := C1.keep hb2
  have x2 := C2.cells
  clear hb2 C1 hw1
  go_wp2
  go_ret
  exact ⟨rfl, hw2⟩
set_option maxRecDepth 10000 in
set_option maxHeartbeats 4000000 in
theorem rGood1 (c : Cfg) (hf : c.Wf) (t : Int) (ht : 0 ≤ t ∧ t < 18446744073709551616) (h : chk c = 0) (ha : ¬ 0 ≤ t % 65536 - 1) (w : World) : Calls Try.prog 45 #[cv c, .int .u64 t] w (LvRet (.bool false) w) := by
  have C0 := Bk.new w (ccM c) 24
  have hw0 : Below w.heap.size w (w.alloc (.cells (ccM c) 24)) := (Below.refl _ _).alloc (Nat.le_refl _) _
  have HC := Lib.hid (refCheck c hf)
  have HUT := Lib.hid (fun w => Pk.runticket t ht.1 ht.2 w)
  have te : (chk c == 0) = true := by simp [h]
  obtain ⟨k, hk⟩ : ∃ k, t % 65536 - 1 = k := ⟨_, rfl⟩
  simp only [hk] at *
  have ta : decide (0 ≤ k) = false := by simp; omega
  clear h hk ht ha
  go_enter Try.func45, Try.ntmps45
  go_wp2_with (first | fail)
  refine (HUT.out _).mono ?_
  rintro e w1 ⟨rfl, n1, rfl⟩
  have hb1 : Below (w.alloc (.cells (ccM c) 24)).heap.size (w.alloc (.cells (ccM c) 24)) ((w.alloc (.cells (ccM c) 24)).drewN n1) := gro_drewN (Below.refl _ _)
  obtain ⟨w1, hw1'⟩ : ∃ u, u = (w.alloc (.cells (ccM c) 24)).drewN n1 := ⟨_, rfl⟩
  rw [← hw1'] at hb1 ⊢
  have hw1 := hw0.trans (hb1.mono hw0.size)
  have C1 := C0.keep hb1
  clear hw0 hb1 C0 hw1'
  go_wp2_with (first | (refine wpList_load_row rfl 24 _ rfl w.heap.size rfl _ (ccM c) (0, 0) _ (by exact C1) Try.underlying24 rfl (by kernel_rfl) ?_) | (refine wpList_load_row_w rfl 24 _ rfl w.heap.size rfl _ (ccM c) (0, 0) _ (by exact C1) Try.underlying24 rfl (by kernel_rfl) ?_))
  refine (HC.out _).mono ?_
  rintro e w2 ⟨rfl, hb2⟩
  have hw2 := hw1.trans (hb2.mono hw1.size)
  have C2 := C1.keep hb2
  have x2 := C2.cells
  clear hb2 C1 hw1
  go_wp2
  go_ret
  exact ⟨rfl, hw2⟩
set_option maxRecDepth 10000 in
set_option maxHeartbeats 4000000 in
theorem rGood2 (c : Cfg) (hf : c.Wf) (t : Int) (ht : 0 ≤ t ∧ t < 18446744073709551616) (h : chk c = 0) (ha : 0 ≤ t % 65536 - 1) (hn : ¬ t % 65536 - 1 < c.en) (w : World) : Calls Try.prog 45 #[cv c, .int .u64 t] w (LvRet (.bool false) w) := by
  have C0 := Bk.new w (ccM c) 24
  have hw0 : Below w.heap.size w (w.alloc (.cells (ccM c) 24)) := (Below.refl _ _).alloc (Nat.le_refl _) _
  have HC := Lib.hid (refCheck c hf)
  have HUT := Lib.hid (fun w => Pk.runticket t ht.1 ht.2 w)
  have te : (chk c == 0) = true := by simp [h]
  obtain ⟨k, hk⟩ : ∃ k, t % 65536 - 1 = k := ⟨_, rfl⟩
  simp only [hk] at *
  have ta : decide (0 ≤ k) = true := by simp; omega
  have tb : decide (k < c.en) = false := by simp; omega
  clear h hk ht ha hn
  go_enter Try.func45, Try.ntmps45
  go_wp2_with (first | fail)
  refine (HUT.out _).mono ?_
  rintro e w1 ⟨rfl, n1, rfl⟩
  have hb1 : Below (w.alloc (.cells (ccM c) 24)).heap.size (w.alloc (.cells (ccM c) 24)) ((w.alloc (.cells (ccM c) 24)).drewN n1) := gro_drewN (Below.refl _ _)
  obtain ⟨w1, hw1'⟩ : ∃ u, u = (w.alloc (.cells (ccM c) 24)).drewN n1 := ⟨_, rfl⟩
  rw [← hw1'] at hb1 ⊢
  have hw1 := hw0.trans (hb1.mono hw0.size)
  have C1 := C0.keep hb1
  clear hw0 hb1 C0 hw1'
  go_wp2_with (first | (refine wpList_load_row rfl 24 _ rfl w.heap.size rfl _ (ccM c) (0, 0) _ (by exact C1) Try.underlying24 rfl (by kernel_rfl) ?_) | (refine wpList_load_row_w rfl 24 _ rfl w.heap.size rfl _ (ccM c) (0, 0) _ (by exact C1) Try.underlying24 rfl (by kernel_rfl) ?_))
  refine (HC.out _).mono ?_
  rintro e w2 ⟨rfl, hb2⟩
  have hw2 := hw1.trans (hb2.mono hw1.size)
  have C2 := C1.keep hb2
  have x2 := C2.cells
  clear hb2 C1 hw1
  go_wp2
  go_ret
  exact ⟨rfl, hw2⟩
set_option maxRecDepth 10000 in
set_option maxHeartbeats 4000000 in
theorem rGood3 (c : Cfg) (hf : c.Wf) (t : Int) (ht : 0 ≤ t ∧ t < 18446744073709551616) (h : chk c = 0) (ha : 0 ≤ t % 65536 - 1) (hn : t % 65536 - 1 < c.en) (h1 : ¬ 1 ≤ t / 65536) (w : World) : Calls Try.prog 45 #[cv c, .int .u64 t] w (LvRet (.bool false) w) := by
  have C0 := Bk.new w (ccM c) 24
  have hw0 : Below w.heap.size w (w.alloc (.cells (ccM c) 24)) := (Below.refl _ _).alloc (Nat.le_refl _) _
  have HC := Lib.hid (refCheck c hf)
  have HUT := Lib.hid (fun w => Pk.runticket t ht.1 ht.2 w)
  have te : (chk c == 0) = true := by simp [h]
  obtain ⟨k, hk⟩ : ∃ k, t % 65536 - 1 = k := ⟨_, rfl⟩
  simp only [hk] at *
  have ta : decide (0 ≤ k) = true := by simp; omega
  have tb : decide (k < c.en) = true := by simp; omega
  have t1 : decide (1 ≤ t / 65536) = false := by simp; omega
  clear h hk ht ha hn h1
  go_enter Try.func45, Try.ntmps45
  go_wp2_with (first | fail)
  refine (HUT.out _).mono ?_
  rintro e w1 ⟨rfl, n1, rfl⟩
  have hb1 : Below (w.alloc (.cells (ccM c) 24)).heap.size (w.alloc (.cells (ccM c) 24)) ((w.alloc (.cells (ccM c) 24)).drewN n1) := gro_drewN (Below.refl _ _)
  obtain ⟨w1, hw1'⟩ : ∃ u, u = (w.alloc (.cells (ccM c) 24)).drewN n1 := ⟨_, rfl⟩
  rw [← hw1'] at hb1 ⊢
  have hw1 := hw0.trans (hb1.mono hw0.size)
  have C1 := C0.keep hb1
  clear hw0 hb1 C0 hw1'
  go_wp2_with (first | (refine wpList_load_row rfl 24 _ rfl w.heap.size rfl _ (ccM c) (0, 0) _ (by exact C1) Try.underlying24 rfl (by kernel_rfl) ?_) | (refine wpList_load_row_w rfl 24 _ rfl w.heap.size rfl _ (ccM c) (0, 0) _ (by exact C1) Try.underlying24 rfl (by kernel_rfl) ?_))
  refine (HC.out _).mono ?_
  rintro e w2 ⟨rfl, hb2⟩
  have hw2 := hw1.trans (hb2.mono hw1.size)
  have C2 := C1.keep hb2
  have x2 := C2.cells
  clear hb2 C1 hw1
  go_wp2
  go_ret
  exact ⟨rfl, hw2⟩
set_option maxRecDepth 10000 in
set_option maxHeartbeats 4000000 in
theorem rGood4 (c : Cfg) (hf : c.Wf) (t : Int) (ht : 0 ≤ t ∧ t < 18446744073709551616) (h : chk c = 0) (ha : 0 ≤ t % 65536 - 1) (hn : t % 65536 - 1 < c.en) (h1 : 1 ≤ t / 65536) (q : Bool) (hq : decide (t / 65536 ≤ c.la) = q) (w : World) : Calls Try.prog 45 #[cv c, .int .u64 t] w (LvRet (.bool q) w) := by
  have C0 := Bk.new w (ccM c) 24
  have hw0 : Below w.heap.size w (w.alloc (.cells (ccM c) 24)) := (Below.refl _ _).alloc (Nat.le_refl _) _
  have HC := Lib.hid (refCheck c hf)
  have HUT := Lib.hid (fun w => Pk.runticket t ht.1 ht.2 w)
  have te : (chk c == 0) = true := by simp [h]
  obtain ⟨k, hk⟩ : ∃ k, t % 65536 - 1 = k := ⟨_, rfl⟩
  simp only [hk] at *
  have ta : decide (0 ≤ k) = true := by simp; omega
  have tb : decide (k < c.en) = true := by simp; omega
  have t1 : decide (1 ≤ t / 65536) = true := by simp [h1]
  clear h hk ht ha hn h1
  go_enter Try.func45, Try.ntmps45
  go_wp2_with (first | fail)
  refine (HUT.out _).mono ?_
  rintro e w1 ⟨rfl, n1, rfl⟩
  have hb1 : Below (w.alloc (.cells (ccM c) 24)).heap.size (w.alloc (.cells (ccM c) 24)) ((w.alloc (.cells (ccM c) 24)).drewN n1) := gro_drewN (Below.refl _ _)
  obtain ⟨w1, hw1'⟩ : ∃ u, u = (w.alloc (.cells (ccM c) 24)).drewN n1 := ⟨_, rfl⟩
  rw [← hw1'] at hb1 ⊢
  have hw1 := hw0.trans (hb1.mono hw0.size)
  have C1 := C0.keep hb1
  clear hw0 hb1 C0 hw1'
  go_wp2_with (first | (refine wpList_load_row rfl 24 _ rfl w.heap.size rfl _ (ccM c) (0, 0) _ (by exact C1) Try.underlying24 rfl (by kernel_rfl) ?_) | (refine wpList_load_row_w rfl 24 _ rfl w.heap.size rfl _ (ccM c) (0, 0) _ (by exact C1) Try.underlying24 rfl (by kernel_rfl) ?_))
  refine (HC.out _).mono ?_
  rintro e w2 ⟨rfl, hb2⟩
  have hw2 := hw1.trans (hb2.mono hw1.size)
  have C2 := C1.keep hb2
  have x2 := C2.cells
  clear hb2 C1 hw1
  go_wp2
  go_ret
  exact ⟨rfl, hw2⟩
theorem rgood_ways (c : Cfg) (t : Int) : (chk c ≠ 0 ∧ goodB c t = false) ∨ (chk c = 0 ∧ ¬ 0 ≤ t % 65536 - 1 ∧ goodB c t = false) ∨ (chk c = 0 ∧ 0 ≤ t % 65536 - 1 ∧ ¬ t % 65536 - 1 < c.en ∧ goodB c t = false) ∨ (chk c = 0 ∧ 0 ≤ t % 65536 - 1 ∧ t % 65536 - 1 < c.en ∧ ¬ 1 ≤ t / 65536 ∧ goodB c t = false) ∨ (chk c = 0 ∧ 0 ≤ t % 65536 - 1 ∧ t % 65536 - 1 < c.en ∧ 1 ≤ t / 65536 ∧ goodB c t = decide (t / 65536 ≤ c.la)) := by
  by_cases h : chk c = 0
  · by_cases h0 : 0 ≤ t % 65536 - 1
    · by_cases hn : t % 65536 - 1 < c.en
      · by_cases h1 : 1 ≤ t / 65536
        · refine .inr (.inr (.inr (.inr ⟨h, h0, hn, h1, ?_⟩)))
          unfold goodB hasB
          rw [okB_true h, decide_eq_true h0, decide_eq_true hn, decide_eq_true h1]
          rfl
        · refine .inr (.inr (.inr (.inl ⟨h, h0, hn, h1, ?_⟩)))
          unfold goodB
          rw [decide_eq_false h1, Bool.and_false]
          rfl
      · refine .inr (.inr (.inl ⟨h, h0, hn, ?_⟩))
        unfold goodB hasB
        rw [decide_eq_false hn, Bool.and_false]
        rfl
    · refine .inr (.inl ⟨h, h0, ?_⟩)
      unfold goodB hasB
      rw [decide_eq_false h0, Bool.and_false]
      rfl
  · refine .inl ⟨h, ?_⟩
    unfold goodB hasB
    rw [okB_false h]
    rfl
theorem rGood (c : Cfg) (hf : c.Wf) (t : Int) (ht : 0 ≤ t ∧ t < 18446744073709551616) (w : World) : Calls Try.prog 45 #[cv c, .int .u64 t] w (LvRet (.bool (goodB c t)) w) := by
  rcases rgood_ways c t with ⟨h, e⟩ | ⟨h, ha, e⟩ | ⟨h, ha, hn, e⟩ | ⟨h, ha, hn, h1, e⟩ | ⟨h, ha, hn, h1, e⟩
  · rw [e]; exact rGood0 c hf t ht h w
  · rw [e]; exact rGood1 c hf t ht h ha w
  · rw [e]; exact rGood2 c hf t ht h ha hn w
  · rw [e]; exact rGood3 c hf t ht h ha hn h1 w
  · rw [e]; exact rGood4 c hf t ht h ha hn h1 _ rfl w
set_option maxRecDepth 10000 in
set_option maxHeartbeats 4000000 in
theorem eLive_bad (c : Cfg) (hf : c.Wf) (ad : Option Addr) (n cap : Nat) (t : Int) (ht : 0 ≤ t ∧ t < 18446744073709551616) (h : chk c ≠ 0) (w : World) : Calls Try.prog 42 #[cv c, .slice ad n cap, .int .u64 t] w (LvRet (.tuple #[.int .i64 (-1), .bool false]) w) := by
  have C0 := Bk.new w (ccM c) 24
  have hw0 : Below w.heap.size w (w.alloc (.cells (ccM c) 24)) := (Below.refl _ _).alloc (Nat.le_refl _) _
  have hp := newPlan c hf
  rw [show nc c = ⟨0, 0, 0, 0, 0, 0, 0, 0⟩ by rw [nc, if_neg h]] at hp
  have HP := Lib.hid hp
  have te : (chk c != 0) = true := by simp [h]
  clear hp h
  go_enter Try.func42, Try.ntmps42
  go_wp2_with (first | (refine wpList_load_row rfl 24 _ rfl w.heap.size rfl _ (ccM c) (0, 0) _ (by exact C0) Try.underlying24 rfl (by kernel_rfl) ?_) | (refine wpList_load_row_w rfl 24 _ rfl w.heap.size rfl _ (ccM c) (0, 0) _ (by exact C0) Try.underlying24 rfl (by kernel_rfl) ?_))
  refine (HP.out _).mono ?_
  rintro e w1 ⟨rfl, hb1⟩
  have hw1 := hw0.trans (hb1.mono hw0.size)
  have C1 := C0.keep hb1
  have P1 := Bk.new w1 (ccM ⟨0, 0, 0, 0, 0, 0, 0, 0⟩) 76
  have C2 := C1.keep ((Below.refl _ w1).alloc (Nat.le_refl _) (.cells (ccM ⟨0, 0, 0, 0, 0, 0, 0, 0⟩) 76))
  have hw2 := hw1.alloc hw1.size (.cells (ccM ⟨0, 0, 0, 0, 0, 0, 0, 0⟩) 76)
  have x1 := P1.cells
  clear hw0 hb1 C0 C1 hw1
  go_wp2
  go_ret2
  exact ⟨rfl, hw2⟩
set_option maxRecDepth 10000 in
set_option maxHeartbeats 4000000 in
theorem eLive_len (c : Cfg) (hf : c.Wf) (ad : Option Addr) (n cap : Nat) (t : Int) (ht : 0 ≤ t ∧ t < 18446744073709551616) (h : chk c = 0) (hs : (n : Int) ≠ siz c) (w : World) : Calls Try.prog 42 #[cv c, .slice ad n cap, .int .u64 t] w (LvRet (.tuple #[.int .i64 (-1), .bool false]) w) := by
  have C0 := Bk.new w (ccM c) 24
  have hw0 : Below w.heap.size w (w.alloc (.cells (ccM c) 24)) := (Below.refl _ _).alloc (Nat.le_refl _) _
  have hp := newPlan c hf
  rw [show nc c = c by rw [nc, if_pos h], h] at hp
  have HP := Lib.hid hp
  have HSZ := Lib.hid (Pl.size c hf)
  have ts : ((n : Int) != siz c) = true := by simp [hs]
  clear hp h hs
  go_enter Try.func42, Try.ntmps42
  go_wp2_with (first | (refine wpList_load_row rfl 24 _ rfl w.heap.size rfl _ (ccM c) (0, 0) _ (by exact C0) Try.underlying24 rfl (by kernel_rfl) ?_) | (refine wpList_load_row_w rfl 24 _ rfl w.heap.size rfl _ (ccM c) (0, 0) _ (by exact C0) Try.underlying24 rfl (by kernel_rfl) ?_))
  refine (HP.out _).mono ?_
  rintro e w1 ⟨rfl, hb1⟩
  have hw1 := hw0.trans (hb1.mono hw0.size)
  have C1 := C0.keep hb1
  have P1 := Bk.new w1 (ccM c) 76
  have C2 := C1.keep ((Below.refl _ w1).alloc (Nat.le_refl _) (.cells (ccM c) 76))
  have hw2 := hw1.alloc hw1.size (.cells (ccM c) 76)
  have x1 := P1.cells
  clear hw0 hb1 C0 C1 hw1
  go_wp2_with fail
  refine (HSZ.out _).mono ?_
  rintro e w3 ⟨rfl, hb3⟩
  have hw3 := hw2.trans (hb3.mono hw2.size)
  have C3 := C2.keep hb3
  have P3 := P1.keep hb3
  clear x1 P1 C2 hb3 hw2
  go_wp2
  go_ret2
  exact ⟨rfl, hw3⟩
set_option maxRecDepth 10000 in
set_option maxHeartbeats 4000000 in
theorem eLive_ill (c : Cfg) (hf : c.Wf) (ad : Option Addr) (n cap : Nat) (t : Int) (ht : 0 ≤ t ∧ t < 18446744073709551616) (h : chk c = 0) (hs : (n : Int) = siz c) (hg : goodB c t = false) (w : World) : Calls Try.prog 42 #[cv c, .slice ad n cap, .int .u64 t] w (LvRet (.tuple #[.int .i64 (-1), .bool false]) w) := by
  have C0 := Bk.new w (ccM c) 24
  have hw0 : Below w.heap.size w (w.alloc (.cells (ccM c) 24)) := (Below.refl _ _).alloc (Nat.le_refl _) _
  have hp := newPlan c hf
  rw [show nc c = c by rw [nc, if_pos h], h] at hp
  have HP := Lib.hid hp
  have HSZ := Lib.hid (Pl.size c hf)
  have ts : ((n : Int) != siz c) = false := by simp [hs]
  have HGD := Lib.hid (fun w => hg ▸ eGood c hf t ht w)
  clear hp h hs hg
  go_enter Try.func42, Try.ntmps42
  go_wp2_with (first | (refine wpList_load_row rfl 24 _ rfl w.heap.size rfl _ (ccM c) (0, 0) _ (by exact C0) Try.underlying24 rfl (by kernel_rfl) ?_) | (refine wpList_load_row_w rfl 24 _ rfl w.heap.size rfl _ (ccM c) (0, 0) _ (by exact C0) Try.underlying24 rfl (by kernel_rfl) ?_))
  refine (HP.out _).mono ?_
  rintro e w1 ⟨rfl, hb1⟩
  have hw1 := hw0.trans (hb1.mono hw0.size)
  have C1 := C0.keep hb1
  have P1 := Bk.new w1 (ccM c) 76
  have C2 := C1.keep ((Below.refl _ w1).alloc (Nat.le_refl _) (.cells (ccM c) 76))
  have hw2 := hw1.alloc hw1.size (.cells (ccM c) 76)
  have x1 := P1.cells
  clear hw0 hb1 C0 C1 hw1
  go_wp2_with fail
  refine (HSZ.out _).mono ?_
  rintro e w3 ⟨rfl, hb3⟩
  have hw3 := hw2.trans (hb3.mono hw2.size)
  have C3 := C2.keep hb3
  have P3 := P1.keep hb3
  clear x1 P1 C2 hb3 hw2
  go_wp2_with (first | (refine wpList_load_row rfl 24 _ rfl w.heap.size rfl _ (ccM c) (0, 0) _ (by exact C3) Try.underlying24 rfl (by kernel_rfl) ?_) | (refine wpList_load_row_w rfl 24 _ rfl w.heap.size rfl _ (ccM c) (0, 0) _ (by exact C3) Try.underlying24 rfl (by kernel_rfl) ?_))
  refine (HGD.out _).mono ?_
  rintro e w4 ⟨rfl, hb4⟩
  have hw4 := hw3.trans (hb4.mono hw3.size)
  have P4 := P3.keep hb4
  have x4 := P4.cells
  clear C3 P3 hb4 hw3
  go_wp2
  go_ret2
  exact ⟨rfl, hw4⟩
set_option maxRecDepth 10000 in
set_option maxHeartbeats 4000000 in
theorem eLive_dead (c : Cfg) (hf : c.Wf) (ad : Option Addr) (n cap : Nat) (t : Int) (ht : 0 ≤ t ∧ t < 18446744073709551616) (w : World) (h : chk c = 0) (hs : (n : Int) = siz c) (hg : goodB c t = true) (v : Int) (v0 : 0 ≤ v) (v1 : v < 18446744073709551616) (j : Nat) (hj : aEnt c (t % 65536 - 1) = (j : Int)) (hjn : j < n) (b0 off : Nat) (had : ad = some ⟨b0, off, none⟩) (hb0 : b0 < w.heap.size) (hc : w.cell? ⟨b0, off + j, none⟩ = some (.int .u64 v)) (hb : enB v (t / 65536) = false) : Calls Try.prog 42 #[cv c, .slice ad n cap, .int .u64 t] w (LvRet (.tuple #[.int .i64 (-1), .bool false]) w) := by
  have C0 := Bk.new w (ccM c) 24
  have hw0 : Below w.heap.size w (w.alloc (.cells (ccM c) 24)) := (Below.refl _ _).alloc (Nat.le_refl _) _
  have hp := newPlan c hf
  rw [show nc c = c by rw [nc, if_pos h], h] at hp
  have HP := Lib.hid hp
  have HSZ := Lib.hid (Pl.size c hf)
  have ts : ((n : Int) != siz c) = false := by simp [hs]
  have HGD := Lib.hid (fun w => hg ▸ eGood c hf t ht w)
  have HUT := Lib.hid (fun w => Pk.unticket t ht.1 ht.2 w)
  have HAN := Lib.hid (fun w => hj ▸ Pl.entry c hf (t % 65536 - 1) w)
  have HLV := Lib.hid (fun w => hb ▸ enLive v (t / 65536) v0 v1 w)
  subst had
  clear hp h hs hg hb hj
  go_enter Try.func42, Try.ntmps42
  go_wp2_with (first | (refine wpList_load_row rfl 24 _ rfl w.heap.size rfl _ (ccM c) (0, 0) _ (by exact C0) Try.underlying24 rfl (by kernel_rfl) ?_) | (refine wpList_load_row_w rfl 24 _ rfl w.heap.size rfl _ (ccM c) (0, 0) _ (by exact C0) Try.underlying24 rfl (by kernel_rfl) ?_))
  refine (HP.out _).mono ?_
  rintro e w1 ⟨rfl, hb1⟩
  have hw1 := hw0.trans (hb1.mono hw0.size)
  have C1 := C0.keep hb1
  have P1 := Bk.new w1 (ccM c) 76
  have C2 := C1.keep ((Below.refl _ w1).alloc (Nat.le_refl _) (.cells (ccM c) 76))
  have hw2 := hw1.alloc hw1.size (.cells (ccM c) 76)
  have x1 := P1.cells
  clear hw0 hb1 C0 C1 hw1
  go_wp2_with fail
  refine (HSZ.out _).mono ?_
  rintro e w3 ⟨rfl, hb3⟩
  have hw3 := hw2.trans (hb3.mono hw2.size)
  have C3 := C2.keep hb3
  have P3 := P1.keep hb3
  clear x1 P1 C2 hb3 hw2
  go_wp2_with (first | (refine wpList_load_row rfl 24 _ rfl w.heap.size rfl _ (ccM c) (0, 0) _ (by exact C3) Try.underlying24 rfl (by kernel_rfl) ?_) | (refine wpList_load_row_w rfl 24 _ rfl w.heap.size rfl _ (ccM c) (0, 0) _ (by exact C3) Try.underlying24 rfl (by kernel_rfl) ?_))
  refine (HGD.out _).mono ?_
  rintro e w4 ⟨rfl, hb4⟩
  have hw4 := hw3.trans (hb4.mono hw3.size)
  have P4 := P3.keep hb4
  have x4 := P4.cells
  clear C3 P3 hb4 hw3
  go_wp2_with fail
  refine (HUT.out _).mono ?_
  rintro e w5 ⟨rfl, rfl⟩
  go_wp2_with fail
  refine (HAN.out _).mono ?_
  rintro e w5 ⟨rfl, hb5⟩
  have hw5 := hw4.trans (hb5.mono hw4.size)
  have q := (hw5.cell (p := ⟨b0, off + j, none⟩) hb0).trans hc
  clear hc x4 P4 hb5 hw4
  go_wp2_with fail
  refine (HLV.out _).mono ?_
  rintro e w6 ⟨rfl, rfl⟩
  go_wp2
  go_ret2
  exact ⟨rfl, hw5⟩
set_option maxRecDepth 10000 in
set_option maxHeartbeats 4000000 in
theorem eLive_yes (c : Cfg) (hf : c.Wf) (ad : Option Addr) (n cap : Nat) (t : Int) (ht : 0 ≤ t ∧ t < 18446744073709551616) (w : World) (h : chk c = 0) (hs : (n : Int) = siz c) (hg : goodB c t = true) (v : Int) (v0 : 0 ≤ v) (v1 : v < 18446744073709551616) (j : Nat) (hj : aEnt c (t % 65536 - 1) = (j : Int)) (hjn : j < n) (b0 off : Nat) (had : ad = some ⟨b0, off, none⟩) (hb0 : b0 < w.heap.size) (hc : w.cell? ⟨b0, off + j, none⟩ = some (.int .u64 v)) (hb : enB v (t / 65536) = true) : Calls Try.prog 42 #[cv c, .slice ad n cap, .int .u64 t] w (LvRet (.tuple #[.int .i64 (v / 16 % 65536 - 1), .bool true]) w) := by
  have C0 := Bk.new w (ccM c) 24
  have hw0 : Below w.heap.size w (w.alloc (.cells (ccM c) 24)) := (Below.refl _ _).alloc (Nat.le_refl _) _
  have hp := newPlan c hf
  rw [show nc c = c by rw [nc, if_pos h], h] at hp
  have HP := Lib.hid hp
  have HSZ := Lib.hid (Pl.size c hf)
  have ts : ((n : Int) != siz c) = false := by simp [hs]
  have HGD := Lib.hid (fun w => hg ▸ eGood c hf t ht w)
  have HUT := Lib.hid (fun w => Pk.unticket t ht.1 ht.2 w)
  have HAN := Lib.hid (fun w => hj ▸ Pl.entry c hf (t % 65536 - 1) w)
  have HLV := Lib.hid (fun w => hb ▸ enLive v (t / 65536) v0 v1 w)
  subst had
  clear hp h hs hg hb hj
  go_enter Try.func42, Try.ntmps42
  go_wp2_with (first | (refine wpList_load_row rfl 24 _ rfl w.heap.size rfl _ (ccM c) (0, 0) _ (by exact C0) Try.underlying24 rfl (by kernel_rfl) ?_) | (refine wpList_load_row_w rfl 24 _ rfl w.heap.size rfl _ (ccM c) (0, 0) _ (by exact C0) Try.underlying24 rfl (by kernel_rfl) ?_))
  refine (HP.out _).mono ?_
  rintro e w1 ⟨rfl, hb1⟩
  have hw1 := hw0.trans (hb1.mono hw0.size)
  have C1 := C0.keep hb1
  have P1 := Bk.new w1 (ccM c) 76
  have C2 := C1.keep ((Below.refl _ w1).alloc (Nat.le_refl _) (.cells (ccM c) 76))
  have hw2 := hw1.alloc hw1.size (.cells (ccM c) 76)
  have x1 := P1.cells
  clear hw0 hb1 C0 C1 hw1
  go_wp2_with fail
  refine (HSZ.out _).mono ?_
  rintro e w3 ⟨rfl, hb3⟩
  have hw3 := hw2.trans (hb3.mono hw2.size)
  have C3 := C2.keep hb3
  have P3 := P1.keep hb3
  clear x1 P1 C2 hb3 hw2
  go_wp2_with (first | (refine wpList_load_row rfl 24 _ rfl w.heap.size rfl _ (ccM c) (0, 0) _ (by exact C3) Try.underlying24 rfl (by kernel_rfl) ?_) | (refine wpList_load_row_w rfl 24 _ rfl w.heap.size rfl _ (ccM c) (0, 0) _ (by exact C3) Try.underlying24 rfl (by kernel_rfl) ?_))
  refine (HGD.out _).mono ?_
  rintro e w4 ⟨rfl, hb4⟩
  have hw4 := hw3.trans (hb4.mono hw3.size)
  have P4 := P3.keep hb4
  have x4 := P4.cells
  clear C3 P3 hb4 hw3
  go_wp2_with fail
  refine (HUT.out _).mono ?_
  rintro e w5 ⟨rfl, rfl⟩
  go_wp2_with fail
  refine (HAN.out _).mono ?_
  rintro e w5 ⟨rfl, hb5⟩
  have hw5 := hw4.trans (hb5.mono hw4.size)
  have q := (hw5.cell (p := ⟨b0, off + j, none⟩) hb0).trans hc
  clear hc x4 P4 hb5 hw4
  go_wp2_with fail
  refine (HLV.out _).mono ?_
  rintro e w6 ⟨rfl, rfl⟩
  go_wp2
  go_ret2
  exact ⟨rfl, hw5⟩
set_option maxRecDepth 10000 in
set_option maxHeartbeats 4000000 in
theorem rLive_bad (c : Cfg) (hf : c.Wf) (ad : Option Addr) (n cap : Nat) (t : Int) (ht : 0 ≤ t ∧ t < 18446744073709551616) (h : chk c ≠ 0) (w : World) : Calls Try.prog 43 #[cv c, .slice ad n cap, .int .u64 t] w (LvRet (.tuple #[.int .i64 (-1), .bool false]) w) := by
  have C0 := Bk.new w (ccM c) 24
  have hw0 : Below w.heap.size w (w.alloc (.cells (ccM c) 24)) := (Below.refl _ _).alloc (Nat.le_refl _) _
  have HC := Lib.hid (refCheck c hf)
  have te : (chk c != 0) = true := by simp [h]
  clear h
  go_enter Try.func43, Try.ntmps43
  go_wp2_with (first | (refine wpList_load_row rfl 24 _ rfl w.heap.size rfl _ (ccM c) (0, 0) _ (by exact C0) Try.underlying24 rfl (by kernel_rfl) ?_) | (refine wpList_load_row_w rfl 24 _ rfl w.heap.size rfl _ (ccM c) (0, 0) _ (by exact C0) Try.underlying24 rfl (by kernel_rfl) ?_))
  refine (HC.out _).mono ?_
  rintro e w1 ⟨rfl, hb1⟩
  have hw1 := hw0.trans (hb1.mono hw0.size)
  have C1 := C0.keep hb1
  clear hw0 hb1 C0
  go_wp2
  go_ret2
  exact ⟨rfl, hw1⟩
set_option maxRecDepth 10000 in
set_option maxHeartbeats 4000000 in
theorem rLive_len (c : Cfg) (hf : c.Wf) (ad : Option Addr) (n cap : Nat) (t : Int) (ht : 0 ≤ t ∧ t < 18446744073709551616) (h : chk c = 0) (hs : (n : Int) ≠ siz c) (w : World) : Calls Try.prog 43 #[cv c, .slice ad n cap, .int .u64 t] w (LvRet (.tuple #[.int .i64 (-1), .bool false]) w) := by
  have C0 := Bk.new w (ccM c) 24
  have hw0 : Below w.heap.size w (w.alloc (.cells (ccM c) 24)) := (Below.refl _ _).alloc (Nat.le_refl _) _
  have HC := Lib.hid (fun w => h ▸ refCheck c hf w)
  have HAL := Lib.hid (refAll c (chk_ok.1 h))
  have HSL := Lib.hid (spots_len (chk_ok.1 h))
  have HS := Lib.hid hs
  clear h hs
  go_enter Try.func43, Try.ntmps43
  go_wp2_with (first | (refine wpList_load_row rfl 24 _ rfl w.heap.size rfl _ (ccM c) (0, 0) _ (by exact C0) Try.underlying24 rfl (by kernel_rfl) ?_) | (refine wpList_load_row_w rfl 24 _ rfl w.heap.size rfl _ (ccM c) (0, 0) _ (by exact C0) Try.underlying24 rfl (by kernel_rfl) ?_))
  refine (HC.out _).mono ?_
  rintro e w1 ⟨rfl, hb1⟩
  have hw1 := hw0.trans (hb1.mono hw0.size)
  have C1 := C0.keep hb1
  clear hw0 hb1 C0
  go_wp2_with (first | (refine wpList_load_row rfl 24 _ rfl w.heap.size rfl _ (ccM c) (0, 0) _ (by exact C1) Try.underlying24 rfl (by kernel_rfl) ?_) | (refine wpList_load_row_w rfl 24 _ rfl w.heap.size rfl _ (ccM c) (0, 0) _ (by exact C1) Try.underlying24 rfl (by kernel_rfl) ?_))
  refine (HAL.out _).mono ?_
  rintro e w2 ⟨z, rfl, hz, hb2⟩
  obtain ⟨y, rfl, hyl⟩ := owns_slI hz
  have hw2 := hw1.trans (hb2.mono hw1.size)
  have C2 := C1.keep hb2
  have hne : ((n : Int) != (y.len : Int)) = true := by have := HS.out; have := HSL.out; simp; omega
  clear hz hb2 C1 hw1 hyl
  go_wp2
  go_ret2
  exact ⟨rfl, hw2⟩
set_option maxRecDepth 10000 in
set_option maxHeartbeats 4000000 in
theorem rLive_ill (c : Cfg) (hf : c.Wf) (ad : Option Addr) (n cap : Nat) (t : Int) (ht : 0 ≤ t ∧ t < 18446744073709551616) (h : chk c = 0) (hs : (n : Int) = siz c) (hg : goodB c t = false) (w : World) : Calls Try.prog 43 #[cv c, .slice ad n cap, .int .u64 t] w (LvRet (.tuple #[.int .i64 (-1), .bool false]) w) := by
  have C0 := Bk.new w (ccM c) 24
  have hw0 : Below w.heap.size w (w.alloc (.cells (ccM c) 24)) := (Below.refl _ _).alloc (Nat.le_refl _) _
  have HC := Lib.hid (fun w => h ▸ refCheck c hf w)
  have HAL := Lib.hid (refAll c (chk_ok.1 h))
  have HSL := Lib.hid (spots_len (chk_ok.1 h))
  have HS := Lib.hid hs
  have HGD := Lib.hid (fun w => hg ▸ rGood c hf t ht w)
  clear h hs hg
  go_enter Try.func43, Try.ntmps43
  go_wp2_with (first | (refine wpList_load_row rfl 24 _ rfl w.heap.size rfl _ (ccM c) (0, 0) _ (by exact C0) Try.underlying24 rfl (by kernel_rfl) ?_) | (refine wpList_load_row_w rfl 24 _ rfl w.heap.size rfl _ (ccM c) (0, 0) _ (by exact C0) Try.underlying24 rfl (by kernel_rfl) ?_))
  refine (HC.out _).mono ?_
  rintro e w1 ⟨rfl, hb1⟩
  have hw1 := hw0.trans (hb1.mono hw0.size)
  have C1 := C0.keep hb1
  clear hw0 hb1 C0
  go_wp2_with (first | (refine wpList_load_row rfl 24 _ rfl w.heap.size rfl _ (ccM c) (0, 0) _ (by exact C1) Try.underlying24 rfl (by kernel_rfl) ?_) | (refine wpList_load_row_w rfl 24 _ rfl w.heap.size rfl _ (ccM c) (0, 0) _ (by exact C1) Try.underlying24 rfl (by kernel_rfl) ?_))
  refine (HAL.out _).mono ?_
  rintro e w2 ⟨z, rfl, hz, hb2⟩
  obtain ⟨y, rfl, hyl⟩ := owns_slI hz
  have hw2 := hw1.trans (hb2.mono hw1.size)
  have C2 := C1.keep hb2
  have hne : ((n : Int) != (y.len : Int)) = false := by have := HS.out; have := HSL.out; simp; omega
  clear hz hb2 C1 hw1 hyl
  go_wp2_with (first | (refine wpList_load_row rfl 24 _ rfl w.heap.size rfl _ (ccM c) (0, 0) _ (by exact C2) Try.underlying24 rfl (by kernel_rfl) ?_) | (refine wpList_load_row_w rfl 24 _ rfl w.heap.size rfl _ (ccM c) (0, 0) _ (by exact C2) Try.underlying24 rfl (by kernel_rfl) ?_))
  refine (HGD.out _).mono ?_
  rintro e w4 ⟨rfl, hb4⟩
  have hw4 := hw2.trans (hb4.mono hw2.size)
  have C4 := C2.keep hb4
  clear C2 hb4 hw2
  go_wp2
  go_ret2
  exact ⟨rfl, hw4⟩
set_option maxRecDepth 10000 in
set_option maxHeartbeats 4000000 in
theorem rLive_dst (c : Cfg) (hf : c.Wf) (ad : Option Addr) (n cap : Nat) (t : Int) (ht : 0 ≤ t ∧ t < 18446744073709551616) (w : World) (h : chk c = 0) (hs : (n : Int) = siz c) (hg : goodB c t = true) (v : Int) (v0 : 0 ≤ v) (v1 : v < 18446744073709551616) (j : Nat) (hj : aEnt c (t % 65536 - 1) = (j : Int)) (hjn : j < n) (b0 off : Nat) (had : ad = some ⟨b0, off, none⟩) (hb0 : b0 < w.heap.size) (hc : w.cell? ⟨b0, off + j, none⟩ = some (.int .u64 v)) (hb : v % 16 ≠ 1) : Calls Try.prog 43 #[cv c, .slice ad n cap, .int .u64 t] w (LvRet (.tuple #[.int .i64 (-1), .bool false]) w) := by
  have C0 := Bk.new w (ccM c) 24
  have hw0 : Below w.heap.size w (w.alloc (.cells (ccM c) 24)) := (Below.refl _ _).alloc (Nat.le_refl _) _
  have HC := Lib.hid (fun w => h ▸ refCheck c hf w)
  have HAL := Lib.hid (refAll c (chk_ok.1 h))
  have HSL := Lib.hid (spots_len (chk_ok.1 h))
  have HS := Lib.hid hs
  have HGD := Lib.hid (fun w => hg ▸ rGood c hf t ht w)
  have HUT := Lib.hid (fun w => Pk.runticket t ht.1 ht.2 w)
  have HAN := Lib.hid (fun w => hj ▸ (refAt_all c (t % 65536 - 1) 0).2.2.1 ▸ refAt_walk c hf (3, t % 65536 - 1, 0) w)
  have HUE := Lib.hid (fun w => Pk.runentry v v0 v1 w)
  have tq : (v % 16 != 1) = true := by simp [hb]
  subst had
  clear h hs hg hb hj
  go_enter Try.func43, Try.ntmps43
  go_wp2_with (first | (refine wpList_load_row rfl 24 _ rfl w.heap.size rfl _ (ccM c) (0, 0) _ (by exact C0) Try.underlying24 rfl (by kernel_rfl) ?_) | (refine wpList_load_row_w rfl 24 _ rfl w.heap.size rfl _ (ccM c) (0, 0) _ (by exact C0) Try.underlying24 rfl (by kernel_rfl) ?_))
  refine (HC.out _).mono ?_
  rintro e w1 ⟨rfl, hb1⟩
  have hw1 := hw0.trans (hb1.mono hw0.size)
  have C1 := C0.keep hb1
  clear hw0 hb1 C0
  go_wp2_with (first | (refine wpList_load_row rfl 24 _ rfl w.heap.size rfl _ (ccM c) (0, 0) _ (by exact C1) Try.underlying24 rfl (by kernel_rfl) ?_) | (refine wpList_load_row_w rfl 24 _ rfl w.heap.size rfl _ (ccM c) (0, 0) _ (by exact C1) Try.underlying24 rfl (by kernel_rfl) ?_))
  refine (HAL.out _).mono ?_
  rintro e w2 ⟨z, rfl, hz, hb2⟩
  obtain ⟨y, rfl, hyl⟩ := owns_slI hz
  have hw2 := hw1.trans (hb2.mono hw1.size)
  have C2 := C1.keep hb2
  have hne : ((n : Int) != (y.len : Int)) = false := by have := HS.out; have := HSL.out; simp; omega
  clear hz hb2 C1 hw1 hyl
  go_wp2_with (first | (refine wpList_load_row rfl 24 _ rfl w.heap.size rfl _ (ccM c) (0, 0) _ (by exact C2) Try.underlying24 rfl (by kernel_rfl) ?_) | (refine wpList_load_row_w rfl 24 _ rfl w.heap.size rfl _ (ccM c) (0, 0) _ (by exact C2) Try.underlying24 rfl (by kernel_rfl) ?_))
  refine (HGD.out _).mono ?_
  rintro e w4 ⟨rfl, hb4⟩
  have hw4 := hw2.trans (hb4.mono hw2.size)
  have C4 := C2.keep hb4
  clear C2 hb4 hw2
  go_wp2_with fail
  refine (HUT.out _).mono ?_
  rintro e w5 ⟨rfl, n5, rfl⟩
  have hb5 : Below w4.heap.size w4 (w4.drewN n5) := gro_drewN (Below.refl _ _)
  obtain ⟨w5, hw5'⟩ : ∃ u, u = w4.drewN n5 := ⟨_, rfl⟩
  rw [← hw5'] at hb5 ⊢
  have hw5 := hw4.trans (hb5.mono hw4.size)
  have C5 := C4.keep hb5
  clear C4 hb5 hw4 hw5'
  go_wp2_with (first | (refine wpList_load_row rfl 24 _ rfl w.heap.size rfl _ (ccM c) (0, 0) _ (by exact C5) Try.underlying24 rfl (by kernel_rfl) ?_) | (refine wpList_load_row_w rfl 24 _ rfl w.heap.size rfl _ (ccM c) (0, 0) _ (by exact C5) Try.underlying24 rfl (by kernel_rfl) ?_))
  refine (HAN.out _).mono ?_
  rintro e w6 ⟨rfl, hb6⟩
  have hw6 := hw5.trans (hb6.mono hw5.size)
  have q := (hw6.cell (p := ⟨b0, off + j, none⟩) hb0).trans hc
  clear hc C5 hb6 hw5
  go_wp2_with fail
  refine (HUE.out _).mono ?_
  rintro e w7 ⟨rfl, n7, rfl⟩
  have hb7 : Below w6.heap.size w6 (w6.drewN n7) := gro_drewN (Below.refl _ _)
  obtain ⟨w7, hw7'⟩ : ∃ u, u = w6.drewN n7 := ⟨_, rfl⟩
  rw [← hw7'] at hb7 ⊢
  have hw7 := hw6.trans (hb7.mono hw6.size)
  clear hw7' q hb7 hw6
  go_wp2
  go_ret2
  exact ⟨rfl, hw7⟩
set_option maxRecDepth 10000 in
set_option maxHeartbeats 4000000 in
theorem rLive_dgn (c : Cfg) (hf : c.Wf) (ad : Option Addr) (n cap : Nat) (t : Int) (ht : 0 ≤ t ∧ t < 18446744073709551616) (w : World) (h : chk c = 0) (hs : (n : Int) = siz c) (hg : goodB c t = true) (v : Int) (v0 : 0 ≤ v) (v1 : v < 18446744073709551616) (j : Nat) (hj : aEnt c (t % 65536 - 1) = (j : Int)) (hjn : j < n) (b0 off : Nat) (had : ad = some ⟨b0, off, none⟩) (hb0 : b0 < w.heap.size) (hc : w.cell? ⟨b0, off + j, none⟩ = some (.int .u64 v)) (hb : v % 16 = 1) (hb2 : v / 1048576 ≠ t / 65536) : Calls Try.prog 43 #[cv c, .slice ad n cap, .int .u64 t] w (LvRet (.tuple #[.int .i64 (-1), .bool false]) w) := by
  have C0 := Bk.new w (ccM c) 24
  have hw0 : Below w.heap.size w (w.alloc (.cells (ccM c) 24)) := (Below.refl _ _).alloc (Nat.le_refl _) _
  have HC := Lib.hid (fun w => h ▸ refCheck c hf w)
  have HAL := Lib.hid (refAll c (chk_ok.1 h))
  have HSL := Lib.hid (spots_len (chk_ok.1 h))
  have HS := Lib.hid hs
  have HGD := Lib.hid (fun w => hg ▸ rGood c hf t ht w)
  have HUT := Lib.hid (fun w => Pk.runticket t ht.1 ht.2 w)
  have HAN := Lib.hid (fun w => hj ▸ (refAt_all c (t % 65536 - 1) 0).2.2.1 ▸ refAt_walk c hf (3, t % 65536 - 1, 0) w)
  have HUE := Lib.hid (fun w => Pk.runentry v v0 v1 w)
  have tq : (v % 16 != 1) = false := by simp [hb]
  have tg : (v / 1048576 != t / 65536) = true := by simp [hb2]
  subst had
  clear h hs hg hb hj hb2
  go_enter Try.func43, Try.ntmps43
  go_wp2_with (first | (refine wpList_load_row rfl 24 _ rfl w.heap.size rfl _ (ccM c) (0, 0) _ (by exact C0) Try.underlying24 rfl (by kernel_rfl) ?_) | (refine wpList_load_row_w rfl 24 _ rfl w.heap.size rfl _ (ccM c) (0, 0) _ (by exact C0) Try.underlying24 rfl (by kernel_rfl) ?_))
  refine (HC.out _).mono ?_
  rintro e w1 ⟨rfl, hb1⟩
  have hw1 := hw0.trans (hb1.mono hw0.size)
  have C1 := C0.keep hb1
  clear hw0 hb1 C0
  go_wp2_with (first | (refine wpList_load_row rfl 24 _ rfl w.heap.size rfl _ (ccM c) (0, 0) _ (by exact C1) Try.underlying24 rfl (by kernel_rfl) ?_) | (refine wpList_load_row_w rfl 24 _ rfl w.heap.size rfl _ (ccM c) (0, 0) _ (by exact C1) Try.underlying24 rfl (by kernel_rfl) ?_))
  refine (HAL.out _).mono ?_
  rintro e w2 ⟨z, rfl, hz, hb2⟩
  obtain ⟨y, rfl, hyl⟩ := owns_slI hz
  have hw2 := hw1.trans (hb2.mono hw1.size)
  have C2 := C1.keep hb2
  have hne : ((n : Int) != (y.len : Int)) = false := by have := HS.out; have := HSL.out; simp; omega
  clear hz hb2 C1 hw1 hyl
  go_wp2_with (first | (refine wpList_load_row rfl 24 _ rfl w.heap.size rfl _ (ccM c) (0, 0) _ (by exact C2) Try.underlying24 rfl (by kernel_rfl) ?_) | (refine wpList_load_row_w rfl 24 _ rfl w.heap.size rfl _ (ccM c) (0, 0) _ (by exact C2) Try.underlying24 rfl (by kernel_rfl) ?_))
  refine (HGD.out _).mono ?_
  rintro e w4 ⟨rfl, hb4⟩
  have hw4 := hw2.trans (hb4.mono hw2.size)
  have C4 := C2.keep hb4
  clear C2 hb4 hw2
  go_wp2_with fail
  refine (HUT.out _).mono ?_
  rintro e w5 ⟨rfl, n5, rfl⟩
  have hb5 : Below w4.heap.size w4 (w4.drewN n5) := gro_drewN (Below.refl _ _)
  obtain ⟨w5, hw5'⟩ : ∃ u, u = w4.drewN n5 := ⟨_, rfl⟩
  rw [← hw5'] at hb5 ⊢
  have hw5 := hw4.trans (hb5.mono hw4.size)
  have C5 := C4.keep hb5
  clear C4 hb5 hw4 hw5'
  go_wp2_with (first | (refine wpList_load_row rfl 24 _ rfl w.heap.size rfl _ (ccM c) (0, 0) _ (by exact C5) Try.underlying24 rfl (by kernel_rfl) ?_) | (refine wpList_load_row_w rfl 24 _ rfl w.heap.size rfl _ (ccM c) (0, 0) _ (by exact C5) Try.underlying24 rfl (by kernel_rfl) ?_))
  refine (HAN.out _).mono ?_
  rintro e w6 ⟨rfl, hb6⟩
  have hw6 := hw5.trans (hb6.mono hw5.size)
  have q := (hw6.cell (p := ⟨b0, off + j, none⟩) hb0).trans hc
  clear hc C5 hb6 hw5
  go_wp2_with fail
  refine (HUE.out _).mono ?_
  rintro e w7 ⟨rfl, n7, rfl⟩
  have hb7 : Below w6.heap.size w6 (w6.drewN n7) := gro_drewN (Below.refl _ _)
  obtain ⟨w7, hw7'⟩ : ∃ u, u = w6.drewN n7 := ⟨_, rfl⟩
  rw [← hw7'] at hb7 ⊢
  have hw7 := hw6.trans (hb7.mono hw6.size)
  clear hw7' q hb7 hw6
  go_wp2
  go_ret2
  exact ⟨rfl, hw7⟩
set_option maxRecDepth 10000 in
set_option maxHeartbeats 4000000 in
theorem rLive_yes (c : Cfg) (hf : c.Wf) (ad : Option Addr) (n cap : Nat) (t : Int) (ht : 0 ≤ t ∧ t < 18446744073709551616) (w : World) (h : chk c = 0) (hs : (n : Int) = siz c) (hg : goodB c t = true) (v : Int) (v0 : 0 ≤ v) (v1 : v < 18446744073709551616) (j : Nat) (hj : aEnt c (t % 65536 - 1) = (j : Int)) (hjn : j < n) (b0 off : Nat) (had : ad = some ⟨b0, off, none⟩) (hb0 : b0 < w.heap.size) (hc : w.cell? ⟨b0, off + j, none⟩ = some (.int .u64 v)) (hb : v % 16 = 1) (hb2 : v / 1048576 = t / 65536) : Calls Try.prog 43 #[cv c, .slice ad n cap, .int .u64 t] w (LvRet (.tuple #[.int .i64 (v / 16 % 65536 - 1), .bool true]) w) := by
  have C0 := Bk.new w (ccM c) 24
  have hw0 : Below w.heap.size w (w.alloc (.cells (ccM c) 24)) := (Below.refl _ _).alloc (Nat.le_refl _) _
  have HC := Lib.hid (fun w => h ▸ refCheck c hf w)
  have HAL := Lib.hid (refAll c (chk_ok.1 h))
  have HSL := Lib.hid (spots_len (chk_ok.1 h))
  have HS := Lib.hid hs
  have HGD := Lib.hid (fun w => hg ▸ rGood c hf t ht w)
  have HUT := Lib.hid (fun w => Pk.runticket t ht.1 ht.2 w)
  have HAN := Lib.hid (fun w => hj ▸ (refAt_all c (t % 65536 - 1) 0).2.2.1 ▸ refAt_walk c hf (3, t % 65536 - 1, 0) w)
  have HUE := Lib.hid (fun w => Pk.runentry v v0 v1 w)
  have tq : (v % 16 != 1) = false := by simp [hb]
  have tg : (v / 1048576 != t / 65536) = false := by simp [hb2]
  subst had
  clear h hs hg hb hj hb2
  go_enter Try.func43, Try.ntmps43
  go_wp2_with (first | (refine wpList_load_row rfl 24 _ rfl w.heap.size rfl _ (ccM c) (0, 0) _ (by exact C0) Try.underlying24 rfl (by kernel_rfl) ?_) | (refine wpList_load_row_w rfl 24 _ rfl w.heap.size rfl _ (ccM c) (0, 0) _ (by exact C0) Try.underlying24 rfl (by kernel_rfl) ?_))
  refine (HC.out _).mono ?_
  rintro e w1 ⟨rfl, hb1⟩
  have hw1 := hw0.trans (hb1.mono hw0.size)
  have C1 := C0.keep hb1
  clear hw0 hb1 C0
  go_wp2_with (first | (refine wpList_load_row rfl 24 _ rfl w.heap.size rfl _ (ccM c) (0, 0) _ (by exact C1) Try.underlying24 rfl (by kernel_rfl) ?_) | (refine wpList_load_row_w rfl 24 _ rfl w.heap.size rfl _ (ccM c) (0, 0) _ (by exact C1) Try.underlying24 rfl (by kernel_rfl) ?_))
  refine (HAL.out _).mono ?_
  rintro e w2 ⟨z, rfl, hz, hb2⟩
  obtain ⟨y, rfl, hyl⟩ := owns_slI hz
  have hw2 := hw1.trans (hb2.mono hw1.size)
  have C2 := C1.keep hb2
  have hne : ((n : Int) != (y.len : Int)) = false := by have := HS.out; have := HSL.out; simp; omega
  clear hz hb2 C1 hw1 hyl
  go_wp2_with (first | (refine wpList_load_row rfl 24 _ rfl w.heap.size rfl _ (ccM c) (0, 0) _ (by exact C2) Try.underlying24 rfl (by kernel_rfl) ?_) | (refine wpList_load_row_w rfl 24 _ rfl w.heap.size rfl _ (ccM c) (0, 0) _ (by exact C2) Try.underlying24 rfl (by kernel_rfl) ?_))
  refine (HGD.out _).mono ?_
  rintro e w4 ⟨rfl, hb4⟩
  have hw4 := hw2.trans (hb4.mono hw2.size)
  have C4 := C2.keep hb4
  clear C2 hb4 hw2
  go_wp2_with fail
  refine (HUT.out _).mono ?_
  rintro e w5 ⟨rfl, n5, rfl⟩
  have hb5 : Below w4.heap.size w4 (w4.drewN n5) := gro_drewN (Below.refl _ _)
  obtain ⟨w5, hw5'⟩ : ∃ u, u = w4.drewN n5 := ⟨_, rfl⟩
  rw [← hw5'] at hb5 ⊢
  have hw5 := hw4.trans (hb5.mono hw4.size)
  have C5 := C4.keep hb5
  clear C4 hb5 hw4 hw5'
  go_wp2_with (first | (refine wpList_load_row rfl 24 _ rfl w.heap.size rfl _ (ccM c) (0, 0) _ (by exact C5) Try.underlying24 rfl (by kernel_rfl) ?_) | (refine wpList_load_row_w rfl 24 _ rfl w.heap.size rfl _ (ccM c) (0, 0) _ (by exact C5) Try.underlying24 rfl (by kernel_rfl) ?_))
  refine (HAN.out _).mono ?_
  rintro e w6 ⟨rfl, hb6⟩
  have hw6 := hw5.trans (hb6.mono hw5.size)
  have q := (hw6.cell (p := ⟨b0, off + j, none⟩) hb0).trans hc
  clear hc C5 hb6 hw5
  go_wp2_with fail
  refine (HUE.out _).mono ?_
  rintro e w7 ⟨rfl, n7, rfl⟩
  have hb7 : Below w6.heap.size w6 (w6.drewN n7) := gro_drewN (Below.refl _ _)
  obtain ⟨w7, hw7'⟩ : ∃ u, u = w6.drewN n7 := ⟨_, rfl⟩
  rw [← hw7'] at hb7 ⊢
  have hw7 := hw6.trans (hb7.mono hw6.size)
  clear hw7' q hb7 hw6
  go_wp2
  go_ret2
  exact ⟨rfl, hw7⟩
/-- The ways of both, at one input. -/
theorem live_ways {c : Cfg} {L : List Int} {v : Sl} {w : World} (hr : Reads w .u64 v.v L) (hL : ∀ x ∈ L, 0 ≤ x ∧ x < 18446744073709551616) (t : Int) :
    (chk c ≠ 0) ∨ (chk c = 0 ∧ (v.len : Int) ≠ siz c) ∨ (chk c = 0 ∧ (v.len : Int) = siz c ∧ goodB c t = false) ∨ (chk c = 0 ∧ (v.len : Int) = siz c ∧ goodB c t = true ∧ ∃ j b0 off, 0 ≤ lvW c L t ∧ lvW c L t < 18446744073709551616 ∧ aEnt c (t % 65536 - 1) = ((j : Nat) : Int) ∧ j < v.len ∧ v.ad = some ⟨b0, off, none⟩ ∧ b0 < w.heap.size ∧ w.cell? ⟨b0, off + j, none⟩ = some (.int .u64 (lvW c L t))) := by
  by_cases h : chk c = 0
  · by_cases hs : (v.len : Int) = siz c
    · cases hg : goodB c t
      · exact .inr (.inr (.inl ⟨h, hs, rfl⟩))
      · refine .inr (.inr (.inr ⟨h, hs, rfl, ?_⟩))
        have hh : hasB c (t % 65536 - 1) c.en = true := by
          unfold goodB at hg
          simp only [Bool.and_eq_true] at hg
          exact hg.1.1
        obtain ⟨h1, h2, h3⟩ := hasB_spec hh
        have hln := reads_len hr
        have hok := chk_ok.1 h
        have hww := hok.ww
        have he : aEnt c (t % 65536 - 1) = 3 + c.ww + c.sl + 2 * (t % 65536 - 1) := by rw [aEnt, if_pos hh]
        have hsl := hok.sl
        have hz : 3 + c.ww + c.sl + 2 * (t % 65536 - 1) < siz c := by
          have h2 := hok.en
          have h3 := hok.bl
          have h4 := hok.wd
          have := mul_range (a := c.sl) (b := c.bl) (A := 8) (B := 16) (by omega) (by omega) (by omega) (by omega)
          have := mul_range (a := c.sl * c.bl) (b := 1 + c.wd) (A := 128) (B := 5) (by omega) (by omega) (by omega) (by omega)
          rw [siz, if_pos (okB_of_ok hok)]
          omega
        obtain ⟨j, hj⟩ : ∃ j : Nat, aEnt c (t % 65536 - 1) = (j : Int) := ⟨(aEnt c (t % 65536 - 1)).toNat, by rw [Int.toNat_of_nonneg]; omega⟩
        have hjn : j < L.length := by omega
        have hv : lvW c L t = L[j] := by
          unfold lvW
          rw [hj, Int.toNat_natCast, List.getD_eq_getElem?_getD, List.getElem?_eq_getElem hjn]
          rfl
        obtain ⟨ad, cap, e, _, _, h3⟩ := hr
        rcases h3 with rfl | ⟨b0, off, rfl, hb0, hc⟩
        · simp at hjn
        · have e2 : v.ad = some ⟨b0, off, none⟩ := by
            obtain ⟨va, vl, vc⟩ := v
            simp only [Sl.v, Value.slice.injEq] at e
            exact e.1
          have hx := hL _ (List.getElem_mem hjn)
          refine ⟨j, b0, off, ?_, ?_, hj, by omega, e2, hb0, ?_⟩
          · rw [hv]; exact hx.1
          · rw [hv]; exact hx.2
          · rw [hv]; exact hc _ hjn
    · exact .inr (.inl ⟨h, hs⟩)
  · exact .inl h
theorem eLive (c : Cfg) (hf : c.Wf) {L : List Int} {v : Sl} {w : World} (hr : Reads w .u64 v.v L) (hL : ∀ x ∈ L, 0 ≤ x ∧ x < 18446744073709551616) (t : Int) (ht : 0 ≤ t ∧ t < 18446744073709551616) : Calls Try.prog 42 #[cv c, v.v, .int .u64 t] w (LvPost c L t w) := by
  have hln := reads_len hr
  rcases live_ways (c := c) hr hL t with h | ⟨h, hs⟩ | ⟨h, hs, hg⟩ | ⟨h, hs, hg, j, b0, off, v0, v1, hj, hjn, had, hb0, hc⟩
  · have e : lvB c L t = false := by unfold lvB; rw [decide_eq_false h]; rfl
    exact lv_post (eLive_bad c hf _ _ _ t ht h w) (lv_no e) e
  · have e : lvB c L t = false := by unfold lvB; rw [decide_eq_false (show ¬ ((L.length : Int) = siz c) by omega), Bool.and_false]; rfl
    exact lv_post (eLive_len c hf _ _ _ t ht h hs w) (lv_no e) e
  · have e : lvB c L t = false := by unfold lvB; rw [hg, Bool.and_false]; rfl
    exact lv_post (eLive_ill c hf _ _ _ t ht h hs hg w) (lv_no e) e
  · have e0 : lvB c L t = enB (lvW c L t) (t / 65536) := by unfold lvB; rw [decide_eq_true h, decide_eq_true (show ((L.length : Int) = siz c) by omega), hg]; rfl
    cases hb : enB (lvW c L t) (t / 65536)
    · have e := e0.trans hb
      exact lv_post (eLive_dead c hf _ _ _ t ht w h hs hg _ v0 v1 j hj hjn b0 off had hb0 hc hb) (lv_no e) e
    · have e := e0.trans hb
      exact lv_post (eLive_yes c hf _ _ _ t ht w h hs hg _ v0 v1 j hj hjn b0 off had hb0 hc hb) (by rw [lvI, if_pos e]) e
theorem rLive (c : Cfg) (hf : c.Wf) {L : List Int} {v : Sl} {w : World} (hr : Reads w .u64 v.v L) (hL : ∀ x ∈ L, 0 ≤ x ∧ x < 18446744073709551616) (t : Int) (ht : 0 ≤ t ∧ t < 18446744073709551616) : Calls Try.prog 43 #[cv c, v.v, .int .u64 t] w (LvPost c L t w) := by
  have hln := reads_len hr
  rcases live_ways (c := c) hr hL t with h | ⟨h, hs⟩ | ⟨h, hs, hg⟩ | ⟨h, hs, hg, j, b0, off, v0, v1, hj, hjn, had, hb0, hc⟩
  · have e : lvB c L t = false := by unfold lvB; rw [decide_eq_false h]; rfl
    exact lv_post (rLive_bad c hf _ _ _ t ht h w) (lv_no e) e
  · have e : lvB c L t = false := by unfold lvB; rw [decide_eq_false (show ¬ ((L.length : Int) = siz c) by omega), Bool.and_false]; rfl
    exact lv_post (rLive_len c hf _ _ _ t ht h hs w) (lv_no e) e
  · have e : lvB c L t = false := by unfold lvB; rw [hg, Bool.and_false]; rfl
    exact lv_post (rLive_ill c hf _ _ _ t ht h hs hg w) (lv_no e) e
  · have e0 : lvB c L t = enB (lvW c L t) (t / 65536) := by unfold lvB; rw [decide_eq_true h, decide_eq_true (show ((L.length : Int) = siz c) by omega), hg]; rfl
    by_cases h1 : lvW c L t % 16 = 1
    · by_cases h2 : lvW c L t / 1048576 = t / 65536
      · have e : lvB c L t = true := by rw [e0]; simp [enB, h1, h2]
        exact lv_post (rLive_yes c hf _ _ _ t ht w h hs hg _ v0 v1 j hj hjn b0 off had hb0 hc h1 h2) (by rw [lvI, if_pos e]) e
      · have e : lvB c L t = false := by rw [e0]; simp [enB, h1, h2]
        exact lv_post (rLive_dgn c hf _ _ _ t ht w h hs hg _ v0 v1 j hj hjn b0 off had hb0 hc h1 h2) (lv_no e) e
    · have e : lvB c L t = false := by rw [e0]; simp [enB, h1]
      exact lv_post (rLive_dst c hf _ _ _ t ht w h hs hg _ v0 v1 j hj hjn b0 off had hb0 hc h1) (lv_no e) e
end Go.Proofs.Ytblkfbbdeodpjaa.Me

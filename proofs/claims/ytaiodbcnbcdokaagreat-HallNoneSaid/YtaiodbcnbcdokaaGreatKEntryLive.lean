/- Part EntryLive. -/
import Derived.Test.YtaiodbcnbcdokaaGreatKEntryLines
import Derived.Test.YtaiodbcnbcdokaaGreatKSlabs
set_option linter.unusedVariables false
set_option linter.unusedSimpArgs false
set_option linter.unusedSectionVars false
set_option maxRecDepth 100000
set_option maxHeartbeats 16000000
namespace Go.Proofs.YtaiodbcnbcdokaaGreat.Me
open Go Go.RowKit Gro Own Wd Ap Go.Proofs.YtaiodbcnbcdokaaGreat.Pl Wo
def LvRet (v : Value) (w : World) (e : Ending) (w' : World) : Prop := e = .returned v ∧ Below w.heap.size w w'
def goodB (c : Cfg) (t : Int) : Bool := hasB c (t % 65536 - 1) c.en && decide (1 ≤ t / 65536) && decide (t / 65536 ≤ c.la)
theorem aEnt_has {c : Cfg} {k : Int} : decide (0 ≤ bf c k) = hasB c k c.en := by
 unfold bf
 cases h : hasB c k c.en
 ·simp
 ·obtain ⟨h1, h2, h3⟩ := fV h
  have hok := jA h1
  have := hok.ww
  have := hok.sl
  simp only [if_true, decide_eq_true_eq]
  omega
theorem eGood0 (c : Cfg) (hf : c.Wf) (t : Int) (ht : 0 ≤ t ∧ t < 18446744073709551616) (h : chk c ≠ 0) (w : World) : Calls Tryz.prog 48 #[cv c, .int .u64 t] w (LvRet (.bool false) w) := by
 have C0 := Bk.new w (ccM c) 24
 have hw0 : Below w.heap.size w (w.alloc (.cells (ccM c) 24)) := (Below.refl _ _).alloc (Nat.le_refl _) _
 have hp := jK c hf
 rw [show nc c = ⟨0, 0, 0, 0, 0, 0, 0, 0⟩ by rw [nc, if_neg h]] at hp
 have HP := Lib.hid hp
 have HUT := Lib.hid (fun w => Pk.eO t ht.1 ht.2 w)
 have te : (chk c == 0) = false := by simp [h]
 clear h hp ht
 go_enter Tryz.func48, Tryz.ntmps48
 go_wp2_with (first | (refine wpList_load_row rfl 24 _ rfl w.heap.size rfl _ (ccM c) (0, 0) _ qa6z Tryz.underlying24 rfl ah ?_) | (refine fC rfl 24 _ rfl w.heap.size rfl _ (ccM c) (0, 0) _ qa6z Tryz.underlying24 rfl ah ?_))
 refine (HP.out _).mono ?_
 rintro e w1 ⟨rfl, hb1⟩
 have hw1 := hw0.trans (hb1.mono hw0.size)
 have C1 := C0.keep hb1
 have P1 := Bk.new w1 (ccM ⟨0, 0, 0, 0, 0, 0, 0, 0⟩) 86
 have C2 := C1.keep ((Below.refl _ w1).alloc (Nat.le_refl _) (.cells (ccM ⟨0, 0, 0, 0, 0, 0, 0, 0⟩) 86))
 have hw2 := hw1.alloc hw1.size (.cells (ccM ⟨0, 0, 0, 0, 0, 0, 0, 0⟩) 86)
 have x1 := P1.cells
 clear hw0 hb1 C0 C1 hw1
 go_wp2_with fail
 refine (HUT.out _).mono ?_
 rintro e w3 ⟨rfl, rfl⟩
 go_wp2
 go_ret
 exact ⟨rfl, hw2⟩
theorem eGood1 (c : Cfg) (hf : c.Wf) (t : Int) (ht : 0 ≤ t ∧ t < 18446744073709551616) (h : chk c = 0) (ha : ¬ 0 ≤ bf c (t % 65536 - 1)) (w : World) : Calls Tryz.prog 48 #[cv c, .int .u64 t] w (LvRet (.bool false) w) := by
 have C0 := Bk.new w (ccM c) 24
 have hw0 : Below w.heap.size w (w.alloc (.cells (ccM c) 24)) := (Below.refl _ _).alloc (Nat.le_refl _) _
 have hp := jK c hf
 rw [show nc c = c by rw [nc, if_pos h], h] at hp
 have HP := Lib.hid hp
 have HUT := Lib.hid (fun w => Pk.eO t ht.1 ht.2 w)
 have HA := Lib.hid (Pl.entry c hf (t % 65536 - 1))
 have td : decide (0 ≤ bf c (t % 65536 - 1)) = false := bq
 clear h hp ht ha
 exact qa45
theorem eGood2 (c : Cfg) (hf : c.Wf) (t : Int) (ht : 0 ≤ t ∧ t < 18446744073709551616) (h : chk c = 0) (ha : 0 ≤ bf c (t % 65536 - 1)) (h1 : ¬ 1 ≤ t / 65536) (w : World) : Calls Tryz.prog 48 #[cv c, .int .u64 t] w (LvRet (.bool false) w) := by
 have C0 := Bk.new w (ccM c) 24
 have hw0 : Below w.heap.size w (w.alloc (.cells (ccM c) 24)) := (Below.refl _ _).alloc (Nat.le_refl _) _
 have hp := jK c hf
 rw [show nc c = c by rw [nc, if_pos h], h] at hp
 have HP := Lib.hid hp
 have HUT := Lib.hid (fun w => Pk.eO t ht.1 ht.2 w)
 have HA := Lib.hid (Pl.entry c hf (t % 65536 - 1))
 have td : decide (0 ≤ bf c (t % 65536 - 1)) = true := by simp [ha]
 have t1 : decide (1 ≤ t / 65536) = false := bq
 exact qar
theorem eGood3 (c : Cfg) (hf : c.Wf) (t : Int) (ht : 0 ≤ t ∧ t < 18446744073709551616) (h : chk c = 0) (ha : 0 ≤ bf c (t % 65536 - 1)) (h1 : 1 ≤ t / 65536) (q : Bool) (hq : decide (t / 65536 ≤ c.la) = q) (w : World) : Calls Tryz.prog 48 #[cv c, .int .u64 t] w (LvRet (.bool q) w) := by
 have C0 := Bk.new w (ccM c) 24
 have hw0 : Below w.heap.size w (w.alloc (.cells (ccM c) 24)) := (Below.refl _ _).alloc (Nat.le_refl _) _
 have hp := jK c hf
 rw [show nc c = c by rw [nc, if_pos h], h] at hp
 have HP := Lib.hid hp
 have HUT := Lib.hid (fun w => Pk.eO t ht.1 ht.2 w)
 have HA := Lib.hid (Pl.entry c hf (t % 65536 - 1))
 have td : decide (0 ≤ bf c (t % 65536 - 1)) = true := by simp [ha]
 have t1 : decide (1 ≤ t / 65536) = true := qa6c
 exact qar
theorem good_ways (c : Cfg) (t : Int) : (chk c ≠ 0 ∧ goodB c t = false) ∨ (chk c = 0 ∧ ¬ 0 ≤ bf c (t % 65536 - 1) ∧ goodB c t = false) ∨ (chk c = 0 ∧ 0 ≤ bf c (t % 65536 - 1) ∧ ¬ 1 ≤ t / 65536 ∧ goodB c t = false) ∨ (chk c = 0 ∧ 0 ≤ bf c (t % 65536 - 1) ∧ 1 ≤ t / 65536 ∧ goodB c t = decide (t / 65536 ≤ c.la)) := by
 have ha := aEnt_has (c := c) (k := t % 65536 - 1)
 by_cases h : chk c = 0
 ·by_cases h0 : 0 ≤ bf c (t % 65536 - 1)
  ·rw [decide_eq_true h0] at ha
   by_cases h1 : 1 ≤ t / 65536
   ·refine .inr (.inr (.inr ⟨h, h0, h1, ?_⟩))
    unfold goodB
    rw [← ha, decide_eq_true h1]
    rfl
   ·refine .inr (.inr (.inl ⟨h, h0, h1, ?_⟩))
    unfold goodB
    rw [← ha, decide_eq_false h1]
    rfl
  ·refine .inr (.inl ⟨h, h0, ?_⟩)
   unfold goodB
   rw [← ha, decide_eq_false h0]
   rfl
 ·refine .inl ⟨h, ?_⟩
  unfold goodB hasB
  rw [okB_false h]
  rfl
theorem eGood (c : Cfg) (hf : c.Wf) (t : Int) (ht : 0 ≤ t ∧ t < 18446744073709551616) (w : World) : Calls Tryz.prog 48 #[cv c, .int .u64 t] w (LvRet (.bool (goodB c t)) w) := by
 rcases good_ways c t with ⟨h, e⟩ | ⟨h, ha, e⟩ | ⟨h, ha, h1, e⟩ | ⟨h, ha, h1, e⟩
 ·rw [e]; exact eGood0 c hf t ht h w
 ·rw [e]; exact eGood1 c hf t ht h ha w
 ·rw [e]; exact eGood2 c hf t ht h ha h1 w
 ·rw [e]; exact eGood3 c hf t ht h ha h1 _ rfl w
end Go.Proofs.YtaiodbcnbcdokaaGreat.Me

/- slab.wordOf, the reference's Word (made by genword.py). -/
import Derived.Test.YtblkfbbdeodpjaaInsideRef
namespace Go.Proofs.Ytblkfbbdeodpjaa.Me
open Go Go.RowKit Go.Proofs.Ytblkfbbdeodpjaa.Gro Go.Proofs.Ytblkfbbdeodpjaa.Own Go.Proofs.Ytblkfbbdeodpjaa.Wd Go.Proofs.Ytblkfbbdeodpjaa.Ap Go.Proofs.Ytblkfbbdeodpjaa.Pl Go.Proofs.Ytblkfbbdeodpjaa.Wo
set_option linter.unusedVariables false
set_option linter.unusedSimpArgs false
/-- Has slab k a word, in the words L? -/
def wrdB (c : Cfg) (L : List Int) (k : Int) : Bool := decide (chk c = 0) && decide ((L.length : Int) = siz c) && decide (0 ≤ k) && decide (k < c.sl)
def wrdV (c : Cfg) (L : List Int) (k : Int) : Int := if wrdB c L k = true then L.getD (3 + c.ww.toNat + k.toNat) 0 else 0
theorem wrdB_spec {c : Cfg} {L : List Int} {k : Int} : wrdB c L k = true ↔ chk c = 0 ∧ (L.length : Int) = siz c ∧ 0 ≤ k ∧ k < c.sl := by
  simp [wrdB, and_assoc]
def WrdPost (c : Cfg) (L : List Int) (k : Int) (w : World) (e : Ending) (w' : World) : Prop := e = .returned (.tuple #[.int .u64 (wrdV c L k), .bool (wrdB c L k)]) ∧ Below w.heap.size w w'
theorem wrd_no {c : Cfg} {L : List Int} {k : Int} (h : ¬ (chk c = 0 ∧ (L.length : Int) = siz c ∧ 0 ≤ k ∧ k < c.sl)) : wrdB c L k = false ∧ wrdV c L k = 0 := by
  have hb : wrdB c L k = false := by
    cases hq : wrdB c L k
    · rfl
    · exact absurd (wrdB_spec.1 hq) h
  exact ⟨hb, by rw [wrdV, hb]; rfl⟩
theorem wrd_yes {c : Cfg} {L : List Int} {k : Int} (h : chk c = 0 ∧ (L.length : Int) = siz c ∧ 0 ≤ k ∧ k < c.sl) : wrdB c L k = true ∧ wrdV c L k = L.getD (3 + c.ww.toNat + k.toNat) 0 := by
  have hb := wrdB_spec.2 h
  exact ⟨hb, by rw [wrdV, if_pos hb]⟩
theorem wrd_post {c : Cfg} {L : List Int} {k x : Int} {b : Bool} {f : FuncId} {args : Array Value} {w : World} (h : Calls Try.prog f args w (InsQ x b w)) (h1 : wrdV c L k = x) (h2 : wrdB c L k = b) : Calls Try.prog f args w (WrdPost c L k w) := by
  subst h1
  subst h2
  exact h
set_option maxRecDepth 10000 in
set_option maxHeartbeats 4000000 in
theorem word_bad (c : Cfg) (hf : c.Wf) (ad : Option Addr) (n cap : Nat) (k : Int) (h : chk c ≠ 0) (w : World) : Calls Try.prog 79 #[cv c, .slice ad n cap, .int .i64 k] w (InsQ 0 false w) := by
  have C0 := Bk.new w (ccM c) 24
  have hw0 : Below w.heap.size w (w.alloc (.cells (ccM c) 24)) := (Below.refl _ _).alloc (Nat.le_refl _) _
  have hp := newPlan c hf
  rw [show nc c = ⟨0, 0, 0, 0, 0, 0, 0, 0⟩ by rw [nc, if_neg h]] at hp
  have HP := Lib.hid hp
  have hne : (chk c != 0) = true := by simp [h]
  have ha := Pl.slab ⟨0, 0, 0, 0, 0, 0, 0, 0⟩ zero_wf k
  rw [show aSlab ⟨0, 0, 0, 0, 0, 0, 0, 0⟩ k = -1 from rfl] at ha
  have HA := Lib.hid ha
  clear h hp ha
  go_enter Try.func79, Try.ntmps79
  go_wp2_with (refine wpList_load_row rfl 24 _ rfl w.heap.size rfl _ (ccM c) (0, 0) _ (by exact C0) Try.underlying24 rfl (by kernel_rfl) ?_)
  refine (HP.out _).mono ?_
  rintro e w1 ⟨rfl, hb1⟩
  have hw1 := hw0.trans (hb1.mono hw0.size)
  have P1 := Bk.new w1 (ccM ⟨0, 0, 0, 0, 0, 0, 0, 0⟩) 76
  have hw2 := hw1.alloc hw1.size (.cells (ccM ⟨0, 0, 0, 0, 0, 0, 0, 0⟩) 76)
  have x1 := P1.cells
  clear hw0 hb1 C0
  go_wp2_with fail
  refine (HA.out _).mono ?_
  rintro e w3 ⟨rfl, hb3⟩
  have P3 := P1.keep hb3
  have x3 := P3.cells
  have hw3 := hw2.trans (hb3.mono hw2.size)
  clear P1 x1 hb3 hw2
  go_wp2
  go_ret2
  exact ⟨rfl, hw3⟩
set_option maxRecDepth 10000 in
set_option maxHeartbeats 4000000 in
theorem word_len (c : Cfg) (hf : c.Wf) (ad : Option Addr) (n cap : Nat) (k : Int) (h : chk c = 0) (hs : (n : Int) ≠ siz c) (w : World) : Calls Try.prog 79 #[cv c, .slice ad n cap, .int .i64 k] w (InsQ 0 false w) := by
  have C0 := Bk.new w (ccM c) 24
  have hw0 : Below w.heap.size w (w.alloc (.cells (ccM c) 24)) := (Below.refl _ _).alloc (Nat.le_refl _) _
  have hp := newPlan c hf
  rw [show nc c = c by rw [nc, if_pos h], h] at hp
  have HP := Lib.hid hp
  have HSZ := Lib.hid (Pl.size c hf)
  have HA := Lib.hid (Pl.slab c hf k)
  have hne : ((n : Int) != siz c) = true := by simp [hs]
  clear h hp hs
  go_enter Try.func79, Try.ntmps79
  go_wp2_with (refine wpList_load_row rfl 24 _ rfl w.heap.size rfl _ (ccM c) (0, 0) _ (by exact C0) Try.underlying24 rfl (by kernel_rfl) ?_)
  refine (HP.out _).mono ?_
  rintro e w1 ⟨rfl, hb1⟩
  have hw1 := hw0.trans (hb1.mono hw0.size)
  have P1 := Bk.new w1 (ccM c) 76
  have hw2 := hw1.alloc hw1.size (.cells (ccM c) 76)
  have x1 := P1.cells
  clear hw0 hb1 C0
  go_wp2_with fail
  refine (HA.out _).mono ?_
  rintro e w3 ⟨rfl, hb3⟩
  have P3 := P1.keep hb3
  have x3 := P3.cells
  have hw3 := hw2.trans (hb3.mono hw2.size)
  clear P1 x1 hb3 hw2
  go_wp2_with fail
  refine (HSZ.out _).mono ?_
  rintro e w4 ⟨rfl, hb4⟩
  have hw4 := hw3.trans (hb4.mono hw3.size)
  go_wp2
  go_ret2
  exact ⟨rfl, hw4⟩
set_option maxRecDepth 10000 in
set_option maxHeartbeats 4000000 in
theorem word_out (c : Cfg) (hf : c.Wf) (ad : Option Addr) (n cap : Nat) (k : Int) (h : chk c = 0) (hs : (n : Int) = siz c) (hk : ¬ (0 ≤ k ∧ k < c.sl)) (w : World) : Calls Try.prog 79 #[cv c, .slice ad n cap, .int .i64 k] w (InsQ 0 false w) := by
  have C0 := Bk.new w (ccM c) 24
  have hw0 : Below w.heap.size w (w.alloc (.cells (ccM c) 24)) := (Below.refl _ _).alloc (Nat.le_refl _) _
  have hp := newPlan c hf
  rw [show nc c = c by rw [nc, if_pos h], h] at hp
  have HP := Lib.hid hp
  have HSZ := Lib.hid (Pl.size c hf)
  have ha := Pl.slab c hf k
  rw [show aSlab c k = -1 by rw [aSlab, if_neg]; rw [hasB_ok (chk_ok.1 h)]; exact hk] at ha
  have HA := Lib.hid ha
  have hne : ((n : Int) != siz c) = false := by simp [hs]
  clear h hp ha hs hk
  go_enter Try.func79, Try.ntmps79
  go_wp2_with (refine wpList_load_row rfl 24 _ rfl w.heap.size rfl _ (ccM c) (0, 0) _ (by exact C0) Try.underlying24 rfl (by kernel_rfl) ?_)
  refine (HP.out _).mono ?_
  rintro e w1 ⟨rfl, hb1⟩
  have hw1 := hw0.trans (hb1.mono hw0.size)
  have P1 := Bk.new w1 (ccM c) 76
  have hw2 := hw1.alloc hw1.size (.cells (ccM c) 76)
  have x1 := P1.cells
  clear hw0 hb1 C0
  go_wp2_with fail
  refine (HA.out _).mono ?_
  rintro e w3 ⟨rfl, hb3⟩
  have P3 := P1.keep hb3
  have x3 := P3.cells
  have hw3 := hw2.trans (hb3.mono hw2.size)
  clear P1 x1 hb3 hw2
  go_wp2_with fail
  refine (HSZ.out _).mono ?_
  rintro e w4 ⟨rfl, hb4⟩
  have hw4 := hw3.trans (hb4.mono hw3.size)
  go_wp2
  go_ret2
  exact ⟨rfl, hw4⟩
set_option maxRecDepth 10000 in
set_option maxHeartbeats 4000000 in
theorem word_in (c : Cfg) (hf : c.Wf) (ad : Option Addr) (n cap : Nat) (k : Int) (h : chk c = 0) (hs : (n : Int) = siz c) (h0 : 0 ≤ k) (h1 : k < c.sl) (v : Int) (w : World) (j : Nat) (hj : (j : Int) = 3 + c.ww + k) (hjn : j < n) (b0 off : Nat) (had : ad = some ⟨b0, off, none⟩) (hb0 : b0 < w.heap.size) (hc : w.cell? ⟨b0, off + j, none⟩ = some (.int .u64 v)) : Calls Try.prog 79 #[cv c, .slice ad n cap, .int .i64 k] w (InsQ v true w) := by
  have C0 := Bk.new w (ccM c) 24
  have hw0 : Below w.heap.size w (w.alloc (.cells (ccM c) 24)) := (Below.refl _ _).alloc (Nat.le_refl _) _
  have hp := newPlan c hf
  rw [show nc c = c by rw [nc, if_pos h], h] at hp
  have HP := Lib.hid hp
  have HSZ := Lib.hid (Pl.size c hf)
  have ha := Pl.slab c hf k
  rw [show aSlab c k = (j : Int) by rw [aSlab, if_pos]; omega; rw [hasB_ok (chk_ok.1 h)]; exact ⟨h0, h1⟩] at ha
  have HA := Lib.hid ha
  have hne : ((n : Int) != siz c) = false := by simp [hs]
  subst had
  clear h hp ha hs h0 h1 hj
  go_enter Try.func79, Try.ntmps79
  go_wp2_with (refine wpList_load_row rfl 24 _ rfl w.heap.size rfl _ (ccM c) (0, 0) _ (by exact C0) Try.underlying24 rfl (by kernel_rfl) ?_)
  refine (HP.out _).mono ?_
  rintro e w1 ⟨rfl, hb1⟩
  have hw1 := hw0.trans (hb1.mono hw0.size)
  have P1 := Bk.new w1 (ccM c) 76
  have hw2 := hw1.alloc hw1.size (.cells (ccM c) 76)
  have x1 := P1.cells
  clear hw0 hb1 C0
  go_wp2_with fail
  refine (HA.out _).mono ?_
  rintro e w3 ⟨rfl, hb3⟩
  have P3 := P1.keep hb3
  have x3 := P3.cells
  have hw3 := hw2.trans (hb3.mono hw2.size)
  clear P1 x1 hb3 hw2
  go_wp2_with fail
  refine (HSZ.out _).mono ?_
  rintro e w4 ⟨rfl, hb4⟩
  have hw4 := hw3.trans (hb4.mono hw3.size)
  have q := (hw4.cell (p := ⟨b0, off + j, none⟩) hb0).trans hc
  clear x3 P3
  go_wp2
  go_ret2
  exact ⟨rfl, hw4⟩
end Go.Proofs.Ytblkfbbdeodpjaa.Me

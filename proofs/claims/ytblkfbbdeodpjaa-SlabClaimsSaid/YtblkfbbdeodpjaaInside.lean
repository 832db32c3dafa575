/- epoch.Inside, the reference's, epoch.Least (made by geninside.py). -/
import Derived.Test.YtblkfbbdeodpjaaMemCopy
import Derived.Test.YtblkfbbdeodpjaaWorks
import Derived.Test.YtblkfbbdeodpjaaPlans
import Derived.IntWalk
namespace Go.Proofs.Ytblkfbbdeodpjaa.Me
open Go Go.RowKit Go.Proofs.Ytblkfbbdeodpjaa.Gro Go.Proofs.Ytblkfbbdeodpjaa.Own Go.Proofs.Ytblkfbbdeodpjaa.Wd Go.Proofs.Ytblkfbbdeodpjaa.Ap Go.Proofs.Ytblkfbbdeodpjaa.Pl Go.Proofs.Ytblkfbbdeodpjaa.Wo
set_option linter.unusedVariables false
set_option linter.unusedSimpArgs false
/-- Does worker k announce an epoch as active, in the words L? -/
def insB (c : Cfg) (L : List Int) (k : Int) : Bool := decide (chk c = 0) && decide ((L.length : Int) = siz c) && decide (0 ≤ k) && decide (k < c.ww) && (L.getD (3 + k.toNat) 0 % 2 == 1)
def insE (c : Cfg) (L : List Int) (k : Int) : Int := if insB c L k = true then L.getD (3 + k.toNat) 0 / 2 else 0
theorem insB_spec {c : Cfg} {L : List Int} {k : Int} : insB c L k = true ↔ chk c = 0 ∧ (L.length : Int) = siz c ∧ 0 ≤ k ∧ k < c.ww ∧ L.getD (3 + k.toNat) 0 % 2 = 1 := by
  simp [insB, and_assoc]
def InsPost (c : Cfg) (L : List Int) (k : Int) (w : World) (e : Ending) (w' : World) : Prop := e = .returned (.tuple #[.int .u64 (insE c L k), .bool (insB c L k)]) ∧ Below w.heap.size w w'
theorem zero_wf : (⟨0, 0, 0, 0, 0, 0, 0, 0⟩ : Cfg).Wf := by constructor <;> decide
theorem ins_no {c : Cfg} {L : List Int} {k : Int} (h : ¬ (chk c = 0 ∧ (L.length : Int) = siz c ∧ 0 ≤ k ∧ k < c.ww ∧ L.getD (3 + k.toNat) 0 % 2 = 1)) : insB c L k = false ∧ insE c L k = 0 := by
  have hb : insB c L k = false := by
    cases hq : insB c L k
    · rfl
    · exact absurd (insB_spec.1 hq) h
  exact ⟨hb, by rw [insE, hb]; rfl⟩
theorem ins_yes {c : Cfg} {L : List Int} {k : Int} (h : chk c = 0 ∧ (L.length : Int) = siz c ∧ 0 ≤ k ∧ k < c.ww ∧ L.getD (3 + k.toNat) 0 % 2 = 1) : insB c L k = true ∧ insE c L k = L.getD (3 + k.toNat) 0 / 2 := by
  have hb := insB_spec.2 h
  exact ⟨hb, by rw [insE, if_pos hb]⟩
abbrev InsQ (x : Int) (b : Bool) (w : World) (e : Ending) (w' : World) : Prop := e = .returned (.tuple #[.int .u64 x, .bool b]) ∧ Below w.heap.size w w'
theorem ins_post {c : Cfg} {L : List Int} {k x : Int} {b : Bool} {f : FuncId} {args : Array Value} {w : World} (h : Calls Try.prog f args w (InsQ x b w)) (h1 : insE c L k = x) (h2 : insB c L k = b) : Calls Try.prog f args w (InsPost c L k w) := by
  subst h1
  subst h2
  exact h
set_option maxRecDepth 10000 in
set_option maxHeartbeats 4000000 in
theorem inside_bad (c : Cfg) (hf : c.Wf) (ad : Option Addr) (n cap : Nat) (k : Int) (h : chk c ≠ 0) (w : World) : Calls Try.prog 75 #[cv c, .slice ad n cap, .int .i64 k] w (InsQ 0 false w) := by
  have C0 := Bk.new w (ccM c) 24
  have hw0 : Below w.heap.size w (w.alloc (.cells (ccM c) 24)) := (Below.refl _ _).alloc (Nat.le_refl _) _
  have hp := newPlan c hf
  rw [show nc c = ⟨0, 0, 0, 0, 0, 0, 0, 0⟩ by rw [nc, if_neg h]] at hp
  have HP := Lib.hid hp
  have hne : (chk c != 0) = true := by simp [h]
  have ha := Pl.announce ⟨0, 0, 0, 0, 0, 0, 0, 0⟩ zero_wf k
  rw [show aAnn ⟨0, 0, 0, 0, 0, 0, 0, 0⟩ k = -1 from rfl] at ha
  have HA := Lib.hid ha
  clear h hp ha
  go_enter Try.func75, Try.ntmps75
  go_wp2_with (refine wpList_load_row rfl 24 _ rfl w.heap.size rfl _ (ccM c) (0, 0) _ (by exact C0) Try.underlying24 rfl (by kernel_rfl) ?_)
  refine (HP.out _).mono ?_
  rintro e w1 ⟨rfl, hb1⟩
  have hw1 := hw0.trans (hb1.mono hw0.size)
  have P1 := Bk.new w1 (ccM ⟨0, 0, 0, 0, 0, 0, 0, 0⟩) 76
  have hw2 := hw1.alloc hw1.size (.cells (ccM ⟨0, 0, 0, 0, 0, 0, 0, 0⟩) 76)
  have x1 := P1.cells
  clear hw0 hb1 C0
  go_wp2_with fail
  refine (HA.out _).mono ?_
  rintro e w3 ⟨rfl, hb3⟩
  have P3 := P1.keep hb3
  have x3 := P3.cells
  have hw3 := hw2.trans (hb3.mono hw2.size)
  clear P1 x1 hb3 hw2
  go_wp2
  go_ret2
  exact ⟨rfl, hw3⟩
set_option maxRecDepth 10000 in
set_option maxHeartbeats 4000000 in
theorem inside_len (c : Cfg) (hf : c.Wf) (ad : Option Addr) (n cap : Nat) (k : Int) (h : chk c = 0) (hs : (n : Int) ≠ siz c) (w : World) : Calls Try.prog 75 #[cv c, .slice ad n cap, .int .i64 k] w (InsQ 0 false w) := by
  have C0 := Bk.new w (ccM c) 24
  have hw0 : Below w.heap.size w (w.alloc (.cells (ccM c) 24)) := (Below.refl _ _).alloc (Nat.le_refl _) _
  have hp := newPlan c hf
  rw [show nc c = c by rw [nc, if_pos h], h] at hp
  have HP := Lib.hid hp
  have HSZ := Lib.hid (Pl.size c hf)
  have HA := Lib.hid (Pl.announce c hf k)
  have hne : ((n : Int) != siz c) = true := by simp [hs]
  clear h hp hs
  go_enter Try.func75, Try.ntmps75
  go_wp2_with (refine wpList_load_row rfl 24 _ rfl w.heap.size rfl _ (ccM c) (0, 0) _ (by exact C0) Try.underlying24 rfl (by kernel_rfl) ?_)
  refine (HP.out _).mono ?_
  rintro e w1 ⟨rfl, hb1⟩
  have hw1 := hw0.trans (hb1.mono hw0.size)
  have P1 := Bk.new w1 (ccM c) 76
  have hw2 := hw1.alloc hw1.size (.cells (ccM c) 76)
  have x1 := P1.cells
  clear hw0 hb1 C0
  go_wp2_with fail
  refine (HA.out _).mono ?_
  rintro e w3 ⟨rfl, hb3⟩
  have P3 := P1.keep hb3
  have x3 := P3.cells
  have hw3 := hw2.trans (hb3.mono hw2.size)
  clear P1 x1 hb3 hw2
  go_wp2_with fail
  refine (HSZ.out _).mono ?_
  rintro e w4 ⟨rfl, hb4⟩
  have hw4 := hw3.trans (hb4.mono hw3.size)
  go_wp2
  go_ret2
  exact ⟨rfl, hw4⟩
set_option maxRecDepth 10000 in
set_option maxHeartbeats 4000000 in
theorem inside_out (c : Cfg) (hf : c.Wf) (ad : Option Addr) (n cap : Nat) (k : Int) (h : chk c = 0) (hs : (n : Int) = siz c) (hk : ¬ (0 ≤ k ∧ k < c.ww)) (w : World) : Calls Try.prog 75 #[cv c, .slice ad n cap, .int .i64 k] w (InsQ 0 false w) := by
  have C0 := Bk.new w (ccM c) 24
  have hw0 : Below w.heap.size w (w.alloc (.cells (ccM c) 24)) := (Below.refl _ _).alloc (Nat.le_refl _) _
  have hp := newPlan c hf
  rw [show nc c = c by rw [nc, if_pos h], h] at hp
  have HP := Lib.hid hp
  have HSZ := Lib.hid (Pl.size c hf)
  have ha := Pl.announce c hf k
  rw [show aAnn c k = -1 by rw [aAnn, if_neg]; rw [hasB_ok (chk_ok.1 h)]; exact hk] at ha
  have HA := Lib.hid ha
  have hne : ((n : Int) != siz c) = false := by simp [hs]
  clear h hp ha hs hk
  go_enter Try.func75, Try.ntmps75
  go_wp2_with (refine wpList_load_row rfl 24 _ rfl w.heap.size rfl _ (ccM c) (0, 0) _ (by exact C0) Try.underlying24 rfl (by kernel_rfl) ?_)
  refine (HP.out _).mono ?_
  rintro e w1 ⟨rfl, hb1⟩
  have hw1 := hw0.trans (hb1.mono hw0.size)
  have P1 := Bk.new w1 (ccM c) 76
  have hw2 := hw1.alloc hw1.size (.cells (ccM c) 76)
  have x1 := P1.cells
  clear hw0 hb1 C0
  go_wp2_with fail
  refine (HA.out _).mono ?_
  rintro e w3 ⟨rfl, hb3⟩
  have P3 := P1.keep hb3
  have x3 := P3.cells
  have hw3 := hw2.trans (hb3.mono hw2.size)
  clear P1 x1 hb3 hw2
  go_wp2_with fail
  refine (HSZ.out _).mono ?_
  rintro e w4 ⟨rfl, hb4⟩
  have hw4 := hw3.trans (hb4.mono hw3.size)
  go_wp2
  go_ret2
  exact ⟨rfl, hw4⟩
set_option maxRecDepth 10000 in
set_option maxHeartbeats 4000000 in
theorem inside_int (c : Cfg) (hf : c.Wf) (ad : Option Addr) (n cap : Nat) (k : Int) (h : chk c = 0) (hs : (n : Int) = siz c) (h0 : 0 ≤ k) (h1 : k < c.ww) (v : Int) (v0 : 0 ≤ v) (v1 : v < 18446744073709551616) (hv : v % 2 = 1) (w : World) (j : Nat) (hj : (j : Int) = 3 + k) (hjn : j < n) (b0 off : Nat) (had : ad = some ⟨b0, off, none⟩) (hb0 : b0 < w.heap.size) (hc : w.cell? ⟨b0, off + j, none⟩ = some (.int .u64 v)) : Calls Try.prog 75 #[cv c, .slice ad n cap, .int .i64 k] w (InsQ (v / 2) true w) := by
  have C0 := Bk.new w (ccM c) 24
  have hw0 : Below w.heap.size w (w.alloc (.cells (ccM c) 24)) := (Below.refl _ _).alloc (Nat.le_refl _) _
  have hp := newPlan c hf
  rw [show nc c = c by rw [nc, if_pos h], h] at hp
  have HP := Lib.hid hp
  have HSZ := Lib.hid (Pl.size c hf)
  have ha := Pl.announce c hf k
  rw [show aAnn c k = (j : Int) by rw [aAnn, if_pos]; omega; rw [hasB_ok (chk_ok.1 h)]; exact ⟨h0, h1⟩] at ha
  have HA := Lib.hid ha
  have hne : ((n : Int) != siz c) = false := by simp [hs]
  have hvb : (v % 2 == 1) = true := by simp [hv]
  subst had
  clear h hp ha hs h0 h1 hj hv
  go_enter Try.func75, Try.ntmps75
  go_wp2_with (refine wpList_load_row rfl 24 _ rfl w.heap.size rfl _ (ccM c) (0, 0) _ (by exact C0) Try.underlying24 rfl (by kernel_rfl) ?_)
  refine (HP.out _).mono ?_
  rintro e w1 ⟨rfl, hb1⟩
  have hw1 := hw0.trans (hb1.mono hw0.size)
  have P1 := Bk.new w1 (ccM c) 76
  have hw2 := hw1.alloc hw1.size (.cells (ccM c) 76)
  have x1 := P1.cells
  clear hw0 hb1 C0
  go_wp2_with fail
  refine (HA.out _).mono ?_
  rintro e w3 ⟨rfl, hb3⟩
  have P3 := P1.keep hb3
  have x3 := P3.cells
  have hw3 := hw2.trans (hb3.mono hw2.size)
  clear P1 x1 hb3 hw2
  go_wp2_with fail
  refine (HSZ.out _).mono ?_
  rintro e w4 ⟨rfl, hb4⟩
  have hw4 := hw3.trans (hb4.mono hw3.size)
  have q := (hw4.cell (p := ⟨b0, off + j, none⟩) hb0).trans hc
  have hu := Pk.unannounce v v0 v1 w4
  rw [hvb] at hu
  have HU := Lib.hid hu
  clear hu x3 P3
  go_wp2_with fail
  refine HU.out.mono ?_
  rintro e w5 ⟨rfl, rfl⟩
  go_wp2
  go_ret2
  exact ⟨rfl, hw4⟩
set_option maxRecDepth 10000 in
set_option maxHeartbeats 4000000 in
theorem inside_inf (c : Cfg) (hf : c.Wf) (ad : Option Addr) (n cap : Nat) (k : Int) (h : chk c = 0) (hs : (n : Int) = siz c) (h0 : 0 ≤ k) (h1 : k < c.ww) (v : Int) (v0 : 0 ≤ v) (v1 : v < 18446744073709551616) (hv : v % 2 ≠ 1) (w : World) (j : Nat) (hj : (j : Int) = 3 + k) (hjn : j < n) (b0 off : Nat) (had : ad = some ⟨b0, off, none⟩) (hb0 : b0 < w.heap.size) (hc : w.cell? ⟨b0, off + j, none⟩ = some (.int .u64 v)) : Calls Try.prog 75 #[cv c, .slice ad n cap, .int .i64 k] w (InsQ 0 false w) := by
  have C0 := Bk.new w (ccM c) 24
  have hw0 : Below w.heap.size w (w.alloc (.cells (ccM c) 24)) := (Below.refl _ _).alloc (Nat.le_refl _) _
  have hp := newPlan c hf
  rw [show nc c = c by rw [nc, if_pos h], h] at hp
  have HP := Lib.hid hp
  have HSZ := Lib.hid (Pl.size c hf)
  have ha := Pl.announce c hf k
  rw [show aAnn c k = (j : Int) by rw [aAnn, if_pos]; omega; rw [hasB_ok (chk_ok.1 h)]; exact ⟨h0, h1⟩] at ha
  have HA := Lib.hid ha
  have hne : ((n : Int) != siz c) = false := by simp [hs]
  have hvb : (v % 2 == 1) = false := by simp [hv]
  subst had
  clear h hp ha hs h0 h1 hj hv
  go_enter Try.func75, Try.ntmps75
  go_wp2_with (refine wpList_load_row rfl 24 _ rfl w.heap.size rfl _ (ccM c) (0, 0) _ (by exact C0) Try.underlying24 rfl (by kernel_rfl) ?_)
  refine (HP.out _).mono ?_
  rintro e w1 ⟨rfl, hb1⟩
  have hw1 := hw0.trans (hb1.mono hw0.size)
  have P1 := Bk.new w1 (ccM c) 76
  have hw2 := hw1.alloc hw1.size (.cells (ccM c) 76)
  have x1 := P1.cells
  clear hw0 hb1 C0
  go_wp2_with fail
  refine (HA.out _).mono ?_
  rintro e w3 ⟨rfl, hb3⟩
  have P3 := P1.keep hb3
  have x3 := P3.cells
  have hw3 := hw2.trans (hb3.mono hw2.size)
  clear P1 x1 hb3 hw2
  go_wp2_with fail
  refine (HSZ.out _).mono ?_
  rintro e w4 ⟨rfl, hb4⟩
  have hw4 := hw3.trans (hb4.mono hw3.size)
  have q := (hw4.cell (p := ⟨b0, off + j, none⟩) hb0).trans hc
  have hu := Pk.unannounce v v0 v1 w4
  rw [hvb] at hu
  have HU := Lib.hid hu
  clear hu x3 P3
  go_wp2_with fail
  refine HU.out.mono ?_
  rintro e w5 ⟨rfl, rfl⟩
  go_wp2
  go_ret2
  exact ⟨rfl, hw4⟩
end Go.Proofs.Ytblkfbbdeodpjaa.Me

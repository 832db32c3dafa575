/- Layer 21: script.newReader. -/
import Derived.Test.YtpmcedfeiconfaaGreatDoorScRdMs
namespace Go.Proofs.YtpmcedfeiconfaaGreatDoor.Scw
open Go Go.RowKit Go.ChangeMaps Go.Proofs.YtpmcedfeiconfaaGreatDoor.Gro Go.Proofs.YtpmcedfeiconfaaGreatDoor.Own Go.Proofs.YtpmcedfeiconfaaGreatDoor.Mr Go.Proofs.YtpmcedfeiconfaaGreatDoor.Opn Go.Proofs.YtpmcedfeiconfaaGreatDoor.Opw Go.Proofs.YtpmcedfeiconfaaGreatDoor.Pl Go.Proofs.YtpmcedfeiconfaaGreatDoor.Scr Go.Proofs.YtpmcedfeiconfaaGreatDoor.Wd
set_option linter.unusedVariables false
set_option linter.unusedSimpArgs false
abbrev hallB : ByteArray := ⟨#[104, 97, 108, 108]⟩
abbrev doB : ByteArray := ⟨#[100, 111]⟩
abbrev pickB : ByteArray := ⟨#[112, 105, 99, 107]⟩
abbrev ruleV (g n f b : Nat) : Value := .agg #[.slice (some ⟨g, 0, none⟩) n n, .func (.func f) #[.pointer (some ⟨b, 0, none⟩)] #[]]
abbrev rowE : Array Value := #[.string ⟨#[]⟩]
abbrev rowH : Array Value := #[.string hallB, .string doB]
abbrev rowP : Array Value := #[.string hallB, .string doB, .string pickB]
abbrev rulesL (b g1 g2 g3 : Nat) : List (ByteArray × Value) := [(hallB, ruleV g1 1 52 b), (doB, ruleV g2 2 53 b), (pickB, ruleV g3 3 54 b)]
/-- The rules lie in memory. -/
structure Rules (B b m : Nat) (w : World) : Prop where
  ex : ∃ g1 g2 g3, MapAt w m Value.string (rulesL b g1 g2 g3) ∧ Bk w g1 rowE 9 ∧ Bk w g2 rowH 9 ∧ Bk w g3 rowP 9 ∧ m < B ∧ m ≠ b ∧ g1 < B ∧ g1 ≠ b ∧ g2 < B ∧ g2 ≠ b ∧ g3 < B ∧ g3 ≠ b
theorem Rules.keep {B b m : Nat} {w w' : World} (h : Rules B b m w) (f : Far B b w w') : Rules B b m w' := by
  obtain ⟨g1, g2, g3, ⟨es, ck, h1, h2⟩, r1, r2, r3, a1, a2, b1, b2, c1, c2, d1, d2⟩ := h.ex
  exact ⟨g1, g2, g3, ⟨es, ck, (f.block m a1 a2).trans h1, h2⟩, (f.block g1 b1 b2).trans r1, (f.block g2 c1 c2).trans r2, (f.block g3 d1 d2).trans r3, a1, a2, b1, b2, c1, c2, d1, d2⟩
abbrev rdZ : Array Value := #[.int .i64 0, .int .i64 0, .int .i64 0, .int .i64 0, .int .i64 0, .int .i64 0, .int .i64 0, .int .u64 0, .slice none 0 0, .slice none 0 0, .string ⟨#[]⟩, .map none]
theorem build_rd (w : World) : (Instr.build 71 #[]).run Tryz.prog w = .ok (.agg rdZ) w := run_build w _ _ _ (by kernel_rfl)
theorem build_ru1 (b g : Nat) (w : World) : (Instr.build 98 #[(0, .slice (some ⟨g, 0, none⟩) 1 1), (1, .func (.func 52) #[.pointer (some ⟨b, 0, none⟩)] #[])]).run Tryz.prog w = .ok (ruleV g 1 52 b) w := run_build w _ _ _ (by kernel_rfl)
theorem build_ru2 (b g : Nat) (w : World) : (Instr.build 98 #[(0, .slice (some ⟨g, 0, none⟩) 2 2), (1, .func (.func 53) #[.pointer (some ⟨b, 0, none⟩)] #[])]).run Tryz.prog w = .ok (ruleV g 2 53 b) w := run_build w _ _ _ (by kernel_rfl)
theorem build_ru3 (b g : Nat) (w : World) : (Instr.build 98 #[(0, .slice (some ⟨g, 0, none⟩) 3 3), (1, .func (.func 54) #[.pointer (some ⟨b, 0, none⟩)] #[])]).run Tryz.prog w = .ok (ruleV g 3 54 b) w := run_build w _ _ _ (by kernel_rfl)
def NewPost (w : World) (e : Ending) (w' : World) : Prop :=
  ∃ b m, e = .returned (.pointer (some ⟨b, 0, none⟩)) ∧ Below w.heap.size w w' ∧ w.heap.size ≤ b ∧ RdW w'.heap.size b m st0 w' ∧ Rules w'.heap.size b m w'
set_option maxRecDepth 100000 in
set_option maxHeartbeats 8000000 in
theorem fNew (w : World) : Calls Tryz.prog 32 #[] w (NewPost w) := by
  have hmm := @run_makeMap Tryz.prog
  have hmf : ∀ (fn : Fn) (first cap : Array Value) (w : World), (Instr.makeFunc fn first cap).run Tryz.prog w = .ok (.func fn first cap) w := fun _ _ _ _ => rfl
  have hbr := build_rd
  have hb1 := build_ru1
  have hb2 := build_ru2
  have hb3 := build_ru3
  have M2 : MapB (((w.alloc (.cells rdZ 71)).alloc (.map #[] 0)).alloc (.cells rowE 9)) (w.heap.size + 1) Value.string [] := by
    have h := MapB.new (val := Value.string) (w.alloc (.cells rdZ 71))
    rw [World.size_alloc] at h
    exact h.of (Below.heap_alloc _ _ _ (by simp))
  have R2 : Bk (((w.alloc (.cells rdZ 71)).alloc (.map #[] 0)).alloc (.cells rowE 9)) w.heap.size rdZ 71 := ((Bk.new w _ _).alloc _).alloc _
  have E2 : Bk (((w.alloc (.cells rdZ 71)).alloc (.map #[] 0)).alloc (.cells rowE 9)) (w.heap.size + 2) rowE 9 := by
    have h := Bk.new ((w.alloc (.cells rdZ 71)).alloc (.map #[] 0)) rowE 9
    rw [World.size_alloc, World.size_alloc] at h
    exact h
  have B2 : Below w.heap.size w (((w.alloc (.cells rdZ 71)).alloc (.map #[] 0)).alloc (.cells rowE 9)) := (((Below.refl _ _).alloc (Nat.le_refl _) _).alloc (by simp) _).alloc (by simp; omega) _
  have Z2 : (((w.alloc (.cells rdZ 71)).alloc (.map #[] 0)).alloc (.cells rowE 9)).heap.size = w.heap.size + 3 := by simp
  have HM2 := Lib.hid M2
  have HR2 := Lib.hid R2
  have HE2 := Lib.hid E2
  have HB2 := Lib.hid B2
  have HZ2 := Lib.hid Z2
  clear M2 R2 E2 B2 Z2
  go_enter Tryz.func32, Tryz.ntmps32
  go_wp2_with (first
    | (refine wpList_insB rfl _ _ _ rfl (str_keys Tryz.underlying9) Tryz.underlying69 (w.heap.size + 1) [] rfl hallB rfl (ruleV (w.heap.size + 2) 1 52 w.heap.size) rfl (by exact HM2.out) (by rfl) ?_
       intro w3 M3 O3
       have z3 : w3.heap.size = w.heap.size + 3 := O3.size.trans HZ2.out
       have HM4 : RowKit.Hid (MapB (w3.alloc (.cells rowH 9)) (w.heap.size + 1) Value.string [(hallB, ruleV (w.heap.size + 2) 1 52 w.heap.size)]) := Lib.hid (M3.of (Below.heap_alloc _ _ _ M3.lt))
       have HR4 : RowKit.Hid (Bk (w3.alloc (.cells rowH 9)) w.heap.size rdZ 71) := Lib.hid (Bk.alloc (w := w3) (g := w.heap.size) (cs := rdZ) (t := 71) ((O3.block w.heap.size (by omega)).trans HR2.out) _)
       have HE4 : RowKit.Hid (Bk (w3.alloc (.cells rowH 9)) (w.heap.size + 2) rowE 9) := Lib.hid (Bk.alloc (w := w3) (g := (w.heap.size + 2)) (cs := rowE) (t := 9) ((O3.block (w.heap.size + 2) (by omega)).trans HE2.out) _)
       have HH4 : RowKit.Hid (Bk (w3.alloc (.cells rowH 9)) (w.heap.size + 3) rowH 9) := Lib.hid (by have h := Bk.new w3 rowH 9; rw [z3] at h; exact h)
       have HB4 : RowKit.Hid (Below w.heap.size w (w3.alloc (.cells rowH 9))) := Lib.hid ((HB2.out.trans (O3.below (by omega))).alloc (by omega) _)
       have HZ4 : RowKit.Hid ((w3.alloc (.cells rowH 9)).heap.size = w.heap.size + 4) := Lib.hid (by simp [z3])
       clear M3 O3 HM2 HR2 HE2 HB2 HZ2)
    | (refine wpList_insB rfl _ _ _ rfl (str_keys Tryz.underlying9) Tryz.underlying69 (w.heap.size + 1) [(hallB, ruleV (w.heap.size + 2) 1 52 w.heap.size)] rfl doB rfl (ruleV (w.heap.size + 3) 2 53 w.heap.size) rfl (by exact HM4.out) (by rfl) ?_
       intro w5 M5 O5
       have z5 : w5.heap.size = w.heap.size + 4 := O5.size.trans HZ4.out
       have HM6 : RowKit.Hid (MapB (w5.alloc (.cells rowP 9)) (w.heap.size + 1) Value.string [(hallB, ruleV (w.heap.size + 2) 1 52 w.heap.size), (doB, ruleV (w.heap.size + 3) 2 53 w.heap.size)]) := Lib.hid (M5.of (Below.heap_alloc _ _ _ M5.lt))
       have HR6 : RowKit.Hid (Bk (w5.alloc (.cells rowP 9)) w.heap.size rdZ 71) := Lib.hid (Bk.alloc (w := w5) (g := w.heap.size) (cs := rdZ) (t := 71) ((O5.block w.heap.size (by omega)).trans HR4.out) _)
       have HE6 : RowKit.Hid (Bk (w5.alloc (.cells rowP 9)) (w.heap.size + 2) rowE 9) := Lib.hid (Bk.alloc (w := w5) (g := (w.heap.size + 2)) (cs := rowE) (t := 9) ((O5.block (w.heap.size + 2) (by omega)).trans HE4.out) _)
       have HH6 : RowKit.Hid (Bk (w5.alloc (.cells rowP 9)) (w.heap.size + 3) rowH 9) := Lib.hid (Bk.alloc (w := w5) (g := (w.heap.size + 3)) (cs := rowH) (t := 9) ((O5.block (w.heap.size + 3) (by omega)).trans HH4.out) _)
       have HP6 : RowKit.Hid (Bk (w5.alloc (.cells rowP 9)) (w.heap.size + 4) rowP 9) := Lib.hid (by have h := Bk.new w5 rowP 9; rw [z5] at h; exact h)
       have HB6 : RowKit.Hid (Below w.heap.size w (w5.alloc (.cells rowP 9))) := Lib.hid ((HB4.out.trans (O5.below (by omega))).alloc (by omega) _)
       have HZ6 : RowKit.Hid ((w5.alloc (.cells rowP 9)).heap.size = w.heap.size + 5) := Lib.hid (by simp [z5])
       clear M5 O5 HM4 HR4 HE4 HH4 HB4 HZ4 z3)
    | (refine wpList_insB rfl _ _ _ rfl (str_keys Tryz.underlying9) Tryz.underlying69 (w.heap.size + 1) [(hallB, ruleV (w.heap.size + 2) 1 52 w.heap.size), (doB, ruleV (w.heap.size + 3) 2 53 w.heap.size)] rfl pickB rfl (ruleV (w.heap.size + 4) 3 54 w.heap.size) rfl (by exact HM6.out) (by rfl) ?_
       intro w7 M7 O7
       have z7 : w7.heap.size = w.heap.size + 5 := O7.size.trans HZ6.out
       have R7 : Bk w7 w.heap.size rdZ 71 := (O7.block w.heap.size (by omega)).trans HR6.out
       have x7 := R7.cells
       have l7 := R7.lt
       have f7 := R7.frozen 11
       have HR7 := Lib.hid R7
       have HM7 := Lib.hid M7
       have HE7 : RowKit.Hid (Bk w7 (w.heap.size + 2) rowE 9) := Lib.hid ((O7.block (w.heap.size + 2) (by omega)).trans HE6.out)
       have HH7 : RowKit.Hid (Bk w7 (w.heap.size + 3) rowH 9) := Lib.hid ((O7.block (w.heap.size + 3) (by omega)).trans HH6.out)
       have HP7 : RowKit.Hid (Bk w7 (w.heap.size + 4) rowP 9) := Lib.hid ((O7.block (w.heap.size + 4) (by omega)).trans HP6.out)
       have HB7 : RowKit.Hid (Below w.heap.size w w7) := Lib.hid (HB6.out.trans (O7.below (by omega)))
       have HZ7 := Lib.hid z7
       clear M7 O7 HM6 HR6 HE6 HH6 HP6 HB6 HZ6 z5 R7 z7))
  go_ret
  have hsz : (w7.setCell ⟨w.heap.size, 11, none⟩ (.map (some (w.heap.size + 1)))).heap.size = w.heap.size + 5 := by simp [World.setCell, HZ7.out]
  have ot : ∀ g, g ≠ w.heap.size → (w7.setCell ⟨w.heap.size, 11, none⟩ (.map (some (w.heap.size + 1)))).heap[g]? = w7.heap[g]? := fun g hg => heap_setCell_other w7 ⟨w.heap.size, 11, none⟩ g _ (by simpa using hg)
  refine ⟨w.heap.size, w.heap.size + 1, rfl, HB7.out.setCell (p := ⟨w.heap.size, 11, none⟩) (Nat.le_refl _) _, Nat.le_refl _, ?_, ?_⟩
  · rw [hsz]
    refine ⟨by omega, by rw [hsz]; exact Nat.le_refl _, nilV, nilV, [], HR7.out.setCell 11 _, OwnP.nil _ _, OwnI.nil⟩
  · rw [hsz]
    refine ⟨w.heap.size + 2, w.heap.size + 3, w.heap.size + 4, ?_, (ot (w.heap.size + 2) (by omega)).trans HE7.out, (ot (w.heap.size + 3) (by omega)).trans HH7.out, (ot (w.heap.size + 4) (by omega)).trans HP7.out, by omega, by omega, by omega, by omega, by omega, by omega, by omega, by omega⟩
    exact (HM7.out.of (ot (w.heap.size + 1) (by omega))).at
end Go.Proofs.YtpmcedfeiconfaaGreatDoor.Scw

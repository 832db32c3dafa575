/- The operations of a memory, on none and on one. -/
import Derived.Test.YticgpikpefgldaaMem
namespace Go.Proofs.Yticgpikpefgldaa.Me
open Go Go.RowKit Go.Proofs.Yticgpikpefgldaa.Gro Go.Proofs.Yticgpikpefgldaa.Own Go.Proofs.Yticgpikpefgldaa.Wd Go.Proofs.Yticgpikpefgldaa.Ap Go.Proofs.Yticgpikpefgldaa.Pl
set_option linter.unusedVariables false
set_option linter.unusedSimpArgs false

/-- All but two blocks are as they were. -/
structure Touch (g gl : Nat) (w w' : World) : Prop where
  os : w'.os = w.os
  tape : w'.tape = w.tape
  output : w'.output = w.output
  size : w.heap.size ≤ w'.heap.size
  block : ∀ k, k < w.heap.size → k ≠ g → k ≠ gl → w'.heap[k]? = w.heap[k]?
section
variable {g gl base : Nat} {w w1 w2 w' : World}
theorem Touch.refl (g gl : Nat) (w : World) : Touch g gl w w := ⟨rfl, rfl, rfl, Nat.le_refl _, fun _ _ _ _ => rfl⟩
theorem Touch.trans (h : Touch g gl w w1) (k : Touch g gl w1 w2) : Touch g gl w w2 :=
  ⟨k.os.trans h.os, k.tape.trans h.tape, k.output.trans h.output, Nat.le_trans h.size k.size, fun j hj h1 h2 => (k.block j (Nat.lt_of_lt_of_le hj h.size) h1 h2).trans (h.block j hj h1 h2)⟩
theorem Touch.of_below (h : Below w.heap.size w w') : Touch g gl w w' := ⟨h.os, h.tape, h.output, h.size, fun k hk _ _ => h.block k hk⟩
theorem Touch.below (h : Touch g gl w w') (hg : base ≤ g) (hl : base ≤ gl) (hb : base ≤ w.heap.size) : Below base w w' := ⟨h.os, h.tape, h.output, h.size, fun k hk => h.block k (by omega) (by omega) (by omega)⟩
theorem Touch.setCell (h : Touch g gl w w1) {p : Addr} (hp : p.block = g ∨ p.block = gl ∨ w.heap.size ≤ p.block) (v : Value) : Touch g gl w (w1.setCell p v) :=
  ⟨h.os, h.tape, h.output, by simpa using h.size, fun k hk h1 h2 => (heap_setCell_other w1 p k v (by omega)).trans (h.block k hk h1 h2)⟩
theorem Touch.alloc (h : Touch g gl w w1) (o : Obj) : Touch g gl w (w1.alloc o) :=
  ⟨h.os, h.tape, h.output, by have := h.size; simp; omega, fun k hk h1 h2 => (Below.heap_alloc w1 o k (Nat.lt_of_lt_of_le hk h.size)).trans (h.block k hk h1 h2)⟩
theorem Touch.drew (h : Touch g gl w w1) : Touch g gl w w1.drew := ⟨h.os, h.tape, h.output, h.size, h.block⟩
theorem Touch.bk (h : Touch g gl w w') {b : Nat} {cs : Array Value} {t : TypeId} (hb : Bk w b cs t) (h1 : b ≠ g) (h2 : b ≠ gl) : Bk w' b cs t := (h.block b hb.lt h1 h2).trans hb
end
theorem own_setCell_ne {w : World} {base n cap gl : Nat} {e : TypeId} {xs : List Value} (h : w.ownsRow base e 1 (.slice (some ⟨gl, 0, none⟩) n cap) n xs) {p : Addr} (hp : p.block ≠ gl) (v : Value) : (w.setCell p v).ownsRow base e 1 (.slice (some ⟨gl, 0, none⟩) n cap) n xs := by
  refine ⟨h.1, ?_⟩
  rcases h.2 with ⟨he, _⟩ | ⟨g', cap', cur, he, hge, hh, rest⟩
  · cases he
  · have e1 : gl = g' := (by simpa using he : gl = g' ∧ cap = cap').1
    subst e1
    exact .inr ⟨gl, cap', cur, he, hge, (heap_setCell_other w p gl v (Ne.symm hp)).trans hh, rest⟩
section
variable {base : Nat} {w w' : World} {g gl cap : Nat} {c : Cfg} {a : Acc} {L : List Int}
theorem MemAt.at (M : MemAt base w g c a gl cap L) {i : Nat} (hi : i < L.length) : w.cell? ⟨gl, i, none⟩ = some (.int .u64 L[i]) := by
  rw [World.ownsRow.cellAt M.W i (by simpa using hi)]; simp [hi]
theorem MemAt.lt (M : MemAt base w g c a gl cap L) : g < w.heap.size ∧ gl < w.heap.size := ⟨M.B.lt, (World.ownsRow.lt M.W gl rfl).2⟩
theorem MemAt.gl0 (M : MemAt base w g c a gl cap L) : base ≤ gl := (World.ownsRow.lt M.W gl rfl).1
theorem MemAt.keep (M : MemAt base w g c a gl cap L) (hb : Below w.heap.size w w') : MemAt base w' g c a gl cap L :=
  ⟨M.B.keep hb, owns_below M.W hb (fun k hk => by simp [Value.ownBlock] at hk; have := M.lt.2; omega), M.g0, M.ne⟩
/-- Another memory's changes. -/
theorem MemAt.apart (M : MemAt base w g c a gl cap L) {g' gl' : Nat} (h : Touch g' gl' w w') (h1 : g ≠ g') (h2 : g ≠ gl') (h3 : gl ≠ g') (h4 : gl ≠ gl') : MemAt base w' g c a gl cap L := by
  refine ⟨h.bk M.B h1 h2, ⟨M.W.1, ?_⟩, M.g0, M.ne⟩
  rcases M.W.2 with ⟨he, _⟩ | ⟨g1, cap', cur, he, hge, hh, rest⟩
  · cases he
  · have e1 : gl = g1 := (by simpa using he : gl = g1 ∧ cap = cap').1
    subst e1
    exact .inr ⟨gl, cap', cur, he, hge, (h.block gl M.lt.2 h3 h4).trans hh, rest⟩
/-- A word is stored. -/
theorem MemAt.write (M : MemAt base w g c a gl cap L) (i : Nat) (v : Int) : MemAt base (w.setCell ⟨gl, i, none⟩ (.int .u64 v)) g c a gl cap (L.set i v) := by
  have h := World.ownsRow.stored M.W i (.int .u64 v)
  refine ⟨?_, ?_, M.g0, M.ne⟩
  · rw [List.length_set]
    exact M.B.setCell_far (a := ⟨gl, i, none⟩) M.ne _
  · rw [List.length_set, List.map_set]
    exact h.1
end
theorem has_nil (at_ : Int) (w : World) : Calls Try.prog 99 #[.pointer none, .int .i64 at_] w fun e w' => e = .returned (.bool false) ∧ w = w' := by
  go_enter Try.func99, Try.ntmps99
  go_wp2
  go_ret
  exact ⟨rfl, rfl⟩
theorem clear_nil (w : World) : Calls Try.prog 152 #[.pointer none] w fun e w' => e = .returned (.tuple #[]) ∧ w = w' := by
  go_enter Try.func152, Try.ntmps152
  go_wp2
  go_end0
  exact ⟨rfl, rfl⟩
theorem record_nil (r : Acc) (w : World) : Calls Try.prog 142 #[.pointer none, av r] w fun e w' => e = .returned (.tuple #[.int .u64 0, .bool false]) ∧ Below w.heap.size w w' := by
  go_enter Try.func142, Try.ntmps142
  go_wp2_with (first | (go_at_call 99; refine (has_nil _ _).mono ?_; rintro e w1 ⟨rfl, rfl⟩) | (go_at_call 152; refine (clear_nil _).mono ?_; rintro e w1 ⟨rfl, rfl⟩))
  go_ret2
  exact ⟨rfl, (Below.refl _ _).alloc (Nat.le_refl _) _⟩
theorem build_load (at_ : Int) (w : World) : (Instr.build 48 #[(0, .int .i64 1), (1, .int .i64 at_)]).run Try.prog w = .ok (av ⟨1, at_, 0, 0, 0⟩) w := run_build w _ _ _ (by kernel_rfl)
theorem load_nil (at_ : Int) (w : World) : Calls Try.prog 103 #[.pointer none, .int .i64 at_] w fun e w' => e = .returned (.int .u64 0) ∧ Below w.heap.size w w' := by
  have hb := build_load at_
  go_enter Try.func103, Try.ntmps103
  go_wp2_with (go_at_call 142; refine (record_nil ⟨1, at_, 0, 0, 0⟩ _).mono ?_; rintro e w1 ⟨rfl, hb1⟩)
  go_ret
  exact ⟨rfl, hb1⟩
theorem build_cas (at_ x y : Int) (w : World) : (Instr.build 48 #[(0, .int .i64 3), (1, .int .i64 at_), (2, .int .u64 x), (3, .int .u64 y)]).run Try.prog w = .ok (av ⟨3, at_, x, y, 0⟩) w := run_build w _ _ _ (by kernel_rfl)
theorem cas_nil (at_ x y : Int) (w : World) : Calls Try.prog 120 #[.pointer none, .int .i64 at_, .int .u64 x, .int .u64 y] w fun e w' => e = .returned (.bool false) ∧ Below w.heap.size w w' := by
  have hb := build_cas at_ x y
  go_enter Try.func120, Try.ntmps120
  go_wp2_with (go_at_call 142; refine (record_nil ⟨3, at_, x, y, 0⟩ _).mono ?_; rintro e w1 ⟨rfl, hb1⟩)
  go_ret
  exact ⟨rfl, hb1⟩
theorem build_add (at_ x : Int) (w : World) : (Instr.build 48 #[(0, .int .i64 4), (1, .int .i64 at_), (2, .int .u64 x)]).run Try.prog w = .ok (av ⟨4, at_, x, 0, 0⟩) w := run_build w _ _ _ (by kernel_rfl)
theorem add_nil (at_ x : Int) (w : World) : Calls Try.prog 144 #[.pointer none, .int .i64 at_, .int .u64 x] w fun e w' => e = .returned (.int .u64 0) ∧ Below w.heap.size w w' := by
  have hb := build_add at_ x
  go_enter Try.func144, Try.ntmps144
  go_wp2_with (go_at_call 142; refine (record_nil ⟨4, at_, x, 0, 0⟩ _).mono ?_; rintro e w1 ⟨rfl, hb1⟩)
  go_ret
  exact ⟨rfl, hb1⟩
theorem build_store (at_ x : Int) (w : World) : (Instr.build 48 #[(0, .int .i64 2), (1, .int .i64 at_), (2, .int .u64 x)]).run Try.prog w = .ok (av ⟨2, at_, x, 0, 0⟩) w := run_build w _ _ _ (by kernel_rfl)
theorem store_nil (at_ x : Int) (w : World) : Calls Try.prog 106 #[.pointer none, .int .i64 at_, .int .u64 x] w fun e w' => e = .returned (.tuple #[]) ∧ Below w.heap.size w w' := by
  have hb := build_store at_ x
  go_enter Try.func106, Try.ntmps106
  go_wp2_with (go_at_call 142; refine (record_nil ⟨2, at_, x, 0, 0⟩ _).mono ?_; rintro e w1 ⟨rfl, hb1⟩)
  go_end0
  exact ⟨rfl, hb1⟩
theorem peek_nil (at_ : Int) (w : World) : Calls Try.prog 49 #[.pointer none, .int .i64 at_] w fun e w' => e = .returned (.int .u64 0) ∧ w = w' := by
  go_enter Try.func49, Try.ntmps49
  go_wp2_with (go_at_call 99; refine (has_nil _ _).mono ?_; rintro e w1 ⟨rfl, rfl⟩)
  go_ret
  exact ⟨rfl, rfl⟩
theorem all_nil (w : World) : Calls Try.prog 18 #[.pointer none] w fun e w' => e = .returned (.slice none 0 0) ∧ w = w' := by
  go_enter Try.func18, Try.ntmps18
  go_wp2
  go_ret
  exact ⟨rfl, rfl⟩
end Go.Proofs.Yticgpikpefgldaa.Me

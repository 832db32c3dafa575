/- The operations of a memory that is there. -/
import Derived.Test.YticgpikpefgldaaMemOps
namespace Go.Proofs.Yticgpikpefgldaa.Me
open Go Go.RowKit Go.Proofs.Yticgpikpefgldaa.Gro Go.Proofs.Yticgpikpefgldaa.Own Go.Proofs.Yticgpikpefgldaa.Wd Go.Proofs.Yticgpikpefgldaa.Ap Go.Proofs.Yticgpikpefgldaa.Pl
set_option linter.unusedVariables false
set_option linter.unusedSimpArgs false

section
variable {base : Nat} {w : World} {g gl cap : Nat} {c : Cfg} {a : Acc} {L : List Int}
theorem has_in (M : MemAt base w g c a gl cap L) (i : Nat) (hi : i < L.length) (hm : L.length ≤ 1000) : Calls Try.prog 99 #[.pointer (some ⟨g, 0, none⟩), .int .i64 (i : Int)] w fun e w' => e = .returned (.bool true) ∧ w = w' := by
  have x := M.B.cells
  have h0 : (0 : Int) ≤ (i : Int) := by omega
  have h1 : (i : Int) < (L.length : Int) := by omega
  go_enter Try.func99, Try.ntmps99
  go_wp2
  go_ret
  exact ⟨rfl, rfl⟩
theorem has_out (M : MemAt base w g c a gl cap L) (i : Int) (hi : ¬ (0 ≤ i ∧ i < (L.length : Int))) (hm : L.length ≤ 1000) : Calls Try.prog 99 #[.pointer (some ⟨g, 0, none⟩), .int .i64 i] w fun e w' => e = .returned (.bool false) ∧ w = w' := by
  have x := M.B.cells
  by_cases h0 : 0 ≤ i
  · have h1 : decide (i < (L.length : Int)) = false := by simp; omega
    go_enter Try.func99, Try.ntmps99
    go_wp2
    go_ret
    exact ⟨rfl, rfl⟩
  · have h1 : decide (0 ≤ i) = false := by simp; omega
    go_enter Try.func99, Try.ntmps99
    go_wp2
    go_ret
    exact ⟨rfl, rfl⟩
/-- The last access is written. -/
theorem MemAt.seen (M : MemAt base w g c a gl cap L) (r : Acc) : MemAt base (((((w.setCell ⟨g, 8, none⟩ (.int .i64 r.kd)).setCell ⟨g, 9, none⟩ (.int .i64 r.at_)).setCell ⟨g, 10, none⟩ (.int .u64 r.x)).setCell ⟨g, 11, none⟩ (.int .u64 r.y)).setCell ⟨g, 12, none⟩ (.int .u64 r.old)) g c r gl cap L ∧
    Touch g gl w (((((w.setCell ⟨g, 8, none⟩ (.int .i64 r.kd)).setCell ⟨g, 9, none⟩ (.int .i64 r.at_)).setCell ⟨g, 10, none⟩ (.int .u64 r.x)).setCell ⟨g, 11, none⟩ (.int .u64 r.y)).setCell ⟨g, 12, none⟩ (.int .u64 r.old)) := by
  refine ⟨⟨?_, ?_, M.g0, M.ne⟩, ?_⟩
  · exact ((((M.B.setCell 8 (.int .i64 r.kd)).setCell 9 (.int .i64 r.at_)).setCell 10 (.int .u64 r.x)).setCell 11 (.int .u64 r.y)).setCell 12 (.int .u64 r.old)
  · have hne : (⟨g, 8, none⟩ : Addr).block ≠ gl := M.ne
    exact own_setCell_ne (own_setCell_ne (own_setCell_ne (own_setCell_ne (own_setCell_ne M.W (p := ⟨g, 8, none⟩) M.ne _) (p := ⟨g, 9, none⟩) M.ne _) (p := ⟨g, 10, none⟩) M.ne _) (p := ⟨g, 11, none⟩) M.ne _) (p := ⟨g, 12, none⟩) M.ne _
  · exact (((((Touch.refl g gl w).setCell (p := ⟨g, 8, none⟩) (.inl rfl) _).setCell (p := ⟨g, 9, none⟩) (.inl rfl) _).setCell (p := ⟨g, 10, none⟩) (.inl rfl) _).setCell (p := ⟨g, 11, none⟩) (.inl rfl) _).setCell (p := ⟨g, 12, none⟩) (.inl rfl) _
theorem clear_in (M : MemAt base w g c a gl cap L) : Calls Try.prog 152 #[.pointer (some ⟨g, 0, none⟩)] w fun e w' => e = .returned (.tuple #[]) ∧ MemAt base w' g c a0 gl cap L ∧ Touch g gl w w' := by
  have x := M.B.cells
  have z := M.B.frozen
  have hM := M.seen a0
  have hs := M.lt.1
  go_enter Try.func152, Try.ntmps152
  go_wp2
  go_end0
  exact ⟨rfl, hM⟩
theorem record_in (M : MemAt base w g c a gl cap L) (i : Nat) (hi : i < L.length) (hm : L.length ≤ 1000) (kd xx yy : Int) : Calls Try.prog 142 #[.pointer (some ⟨g, 0, none⟩), av ⟨kd, i, xx, yy, 0⟩] w fun e w' => e = .returned (.tuple #[.int .u64 L[i], .bool true]) ∧ MemAt base w' g c ⟨kd, i, xx, yy, L[i]⟩ gl cap L ∧ Touch g gl w w' := by
  have hb0 : Below w.heap.size w (w.alloc (.cells #[.int .i64 kd, .int .i64 i, .int .u64 xx, .int .u64 yy, .int .u64 0] 48)) := (Below.refl _ _).alloc (Nat.le_refl _) _
  have M1 := M.keep hb0
  have h0 : (0 : Int) ≤ (i : Int) := by omega
  have h1 : (i : Int) < (L.length : Int) := by omega
  have x := M1.B.cells
  have z := M1.B.frozen
  have q := M1.at hi
  have hs := M.lt.1
  have hs2 := M.lt.2
  go_enter Try.func142, Try.ntmps142
  go_wp2_with (go_at_call 99; refine (has_in M1 i hi hm).mono ?_; rintro e w1 ⟨rfl, rfl⟩)
  have hb1 : Below w.heap.size w (w.alloc (.cells #[.int .i64 kd, .int .i64 i, .int .u64 xx, .int .u64 yy, .int .u64 L[i]] 48)).drew := ((Below.refl _ _).alloc (Nat.le_refl _) _).drew
  have M2 := M.keep hb1
  have T1 := Touch.of_below (g := g) (gl := gl) hb1
  go_region
  all_goals
    have QB : Bk (w.alloc (.cells #[.int .i64 kd, .int .i64 i, .int .u64 xx, .int .u64 yy, .int .u64 L[i]] 48)).drew w.heap.size #[.int .i64 kd, .int .i64 i, .int .u64 xx, .int .u64 yy, .int .u64 L[i]] 48 := Bk.new _ _ _
    generalize (w.alloc (.cells #[.int .i64 kd, .int .i64 i, .int .u64 xx, .int .u64 yy, .int .u64 L[i]] 48)).drew = w2 at *
    have hgb : g ≠ w.heap.size := by omega
    generalize w.heap.size = gb at *
    have x2 := M2.B.cells
    have z2 := M2.B.frozen
    have q2 := QB.cells
    clear x z q M1 hb0
    go_wp2
    go_ret2
    have h := M2.seen ⟨kd, i, xx, yy, L[i]⟩
    exact ⟨rfl, h.1, T1.trans h.2⟩
theorem load_in (M : MemAt base w g c a gl cap L) (i : Nat) (hi : i < L.length) (hm : L.length ≤ 1000) : Calls Try.prog 103 #[.pointer (some ⟨g, 0, none⟩), .int .i64 (i : Int)] w fun e w' => e = .returned (.int .u64 L[i]) ∧ MemAt base w' g c ⟨1, i, 0, 0, L[i]⟩ gl cap L ∧ Touch g gl w w' := by
  have hb := build_load (i : Int)
  go_enter Try.func103, Try.ntmps103
  go_wp2_with fail
  refine (record_in M i hi hm 1 0 0).mono ?_
  rintro e w1 ⟨rfl, M1, t1⟩
  go_wp2
  go_ret
  exact ⟨rfl, M1, t1⟩
theorem store_in (M : MemAt base w g c a gl cap L) (i : Nat) (hi : i < L.length) (hm : L.length ≤ 1000) (v : Int) : Calls Try.prog 106 #[.pointer (some ⟨g, 0, none⟩), .int .i64 (i : Int), .int .u64 v] w fun e w' => e = .returned (.tuple #[]) ∧ MemAt base w' g c ⟨2, i, v, 0, L[i]⟩ gl cap (L.set i v) ∧ Touch g gl w w' := by
  have hb := build_store (i : Int) v
  go_enter Try.func106, Try.ntmps106
  go_wp2_with fail
  refine (record_in M i hi hm 2 v 0).mono ?_
  rintro e w1 ⟨rfl, M1, t1⟩
  have x1 := M1.B.cells
  have q1 := M1.at hi
  have fz := World.ownsRow.frozenAt M1.W
  have h0 : (0 : Int) ≤ (i : Int) := by omega
  have h1 : (i : Int) < (L.length : Int) := by omega
  go_wp2
  go_end0
  exact ⟨rfl, M1.write i v, t1.setCell (p := ⟨gl, i, none⟩) (.inr (.inl rfl)) _⟩
theorem cas_yes (M : MemAt base w g c a gl cap L) (i : Nat) (hi : i < L.length) (hm : L.length ≤ 1000) (y : Int) : Calls Try.prog 120 #[.pointer (some ⟨g, 0, none⟩), .int .i64 (i : Int), .int .u64 L[i], .int .u64 y] w fun e w' => e = .returned (.bool true) ∧ MemAt base w' g c ⟨3, i, L[i], y, L[i]⟩ gl cap (L.set i y) ∧ Touch g gl w w' := by
  have hb := build_cas (i : Int) L[i] y
  go_enter Try.func120, Try.ntmps120
  go_wp2_with fail
  refine (record_in M i hi hm 3 L[i] y).mono ?_
  rintro e w1 ⟨rfl, M1, t1⟩
  have x1 := M1.B.cells
  have q1 := M1.at hi
  have fz := World.ownsRow.frozenAt M1.W
  have h0 : (0 : Int) ≤ (i : Int) := by omega
  have h1 : (i : Int) < (L.length : Int) := by omega
  go_wp2
  go_ret
  exact ⟨rfl, M1.write i y, t1.setCell (p := ⟨gl, i, none⟩) (.inr (.inl rfl)) _⟩
theorem cas_no (M : MemAt base w g c a gl cap L) (i : Nat) (hi : i < L.length) (hm : L.length ≤ 1000) (x y : Int) (hx : L[i] ≠ x) : Calls Try.prog 120 #[.pointer (some ⟨g, 0, none⟩), .int .i64 (i : Int), .int .u64 x, .int .u64 y] w fun e w' => e = .returned (.bool false) ∧ MemAt base w' g c ⟨3, i, x, y, L[i]⟩ gl cap L ∧ Touch g gl w w' := by
  have hb := build_cas (i : Int) x y
  have hne : (L[i] != x) = true := by simp [hx]
  clear hx
  go_enter Try.func120, Try.ntmps120
  go_wp2_with fail
  refine (record_in M i hi hm 3 x y).mono ?_
  rintro e w1 ⟨rfl, M1, t1⟩
  go_wp2
  go_ret
  exact ⟨rfl, M1, t1⟩
theorem add_in (M : MemAt base w g c a gl cap L) (i : Nat) (hi : i < L.length) (hm : L.length ≤ 1000) (v : Int) : Calls Try.prog 144 #[.pointer (some ⟨g, 0, none⟩), .int .i64 (i : Int), .int .u64 v] w fun e w' => e = .returned (.int .u64 L[i]) ∧ MemAt base w' g c ⟨4, i, v, 0, L[i]⟩ gl cap (L.set i (IntKind.u64.wrap (L[i] + v))) ∧ Touch g gl w w' := by
  have hb := build_add (i : Int) v
  go_enter Try.func144, Try.ntmps144
  go_wp2_with fail
  refine (record_in M i hi hm 4 v 0).mono ?_
  rintro e w1 ⟨rfl, M1, t1⟩
  have x1 := M1.B.cells
  have q1 := M1.at hi
  have fz := World.ownsRow.frozenAt M1.W
  have h0 : (0 : Int) ≤ (i : Int) := by omega
  have h1 : (i : Int) < (L.length : Int) := by omega
  go_wp2
  go_ret
  exact ⟨rfl, M1.write i _, t1.setCell (p := ⟨gl, i, none⟩) (.inr (.inl rfl)) _⟩
theorem peek_in (M : MemAt base w g c a gl cap L) (i : Nat) (hi : i < L.length) (hm : L.length ≤ 1000) : Calls Try.prog 49 #[.pointer (some ⟨g, 0, none⟩), .int .i64 (i : Int)] w fun e w' => e = .returned (.int .u64 L[i]) ∧ w = w' := by
  have x1 := M.B.cells
  have q1 := M.at hi
  have fz := World.ownsRow.frozenAt M.W
  have h0 : (0 : Int) ≤ (i : Int) := by omega
  have h1 : (i : Int) < (L.length : Int) := by omega
  go_enter Try.func49, Try.ntmps49
  go_wp2_with (go_at_call 99; refine (has_in M i hi hm).mono ?_; rintro e w1 ⟨rfl, rfl⟩)
  go_ret
  exact ⟨rfl, rfl⟩
theorem peek_out (M : MemAt base w g c a gl cap L) (i : Int) (hi : ¬ (0 ≤ i ∧ i < (L.length : Int))) (hm : L.length ≤ 1000) : Calls Try.prog 49 #[.pointer (some ⟨g, 0, none⟩), .int .i64 i] w fun e w' => e = .returned (.int .u64 0) ∧ w = w' := by
  go_enter Try.func49, Try.ntmps49
  go_wp2_with (go_at_call 99; refine (has_out M i hi hm).mono ?_; rintro e w1 ⟨rfl, rfl⟩)
  go_ret
  exact ⟨rfl, rfl⟩
theorem record_out (M : MemAt base w g c a gl cap L) (i : Int) (hi : ¬ (0 ≤ i ∧ i < (L.length : Int))) (hm : L.length ≤ 1000) (kd x y : Int) : Calls Try.prog 142 #[.pointer (some ⟨g, 0, none⟩), av ⟨kd, i, x, y, 0⟩] w fun e w' => e = .returned (.tuple #[.int .u64 0, .bool false]) ∧ MemAt base w' g c a0 gl cap L ∧ Touch g gl w w' := by
  have hb0 : Below w.heap.size w (w.alloc (.cells #[.int .i64 kd, .int .i64 i, .int .u64 x, .int .u64 y, .int .u64 0] 48)) := (Below.refl _ _).alloc (Nat.le_refl _) _
  have M1 := M.keep hb0
  go_enter Try.func142, Try.ntmps142
  go_wp2_with (first | (go_at_call 99; refine (has_out M1 i hi hm).mono ?_; rintro e w1 ⟨rfl, rfl⟩) | (go_at_call 152; refine (clear_in M1).mono ?_; rintro e w1 ⟨rfl, M2, t2⟩))
  go_ret2
  exact ⟨rfl, M2, (Touch.of_below hb0).trans t2⟩
theorem load_out (M : MemAt base w g c a gl cap L) (i : Int) (hi : ¬ (0 ≤ i ∧ i < (L.length : Int))) (hm : L.length ≤ 1000) : Calls Try.prog 103 #[.pointer (some ⟨g, 0, none⟩), .int .i64 i] w fun e w' => e = .returned (.int .u64 0) ∧ MemAt base w' g c a0 gl cap L ∧ Touch g gl w w' := by
  have hb := build_load i
  go_enter Try.func103, Try.ntmps103
  go_wp2_with fail
  refine (record_out M i hi hm 1 0 0).mono ?_
  rintro e w1 ⟨rfl, M1, t1⟩
  go_wp2
  go_ret
  exact ⟨rfl, M1, t1⟩
theorem cas_out (M : MemAt base w g c a gl cap L) (i : Int) (hi : ¬ (0 ≤ i ∧ i < (L.length : Int))) (hm : L.length ≤ 1000) (x y : Int) : Calls Try.prog 120 #[.pointer (some ⟨g, 0, none⟩), .int .i64 i, .int .u64 x, .int .u64 y] w fun e w' => e = .returned (.bool false) ∧ MemAt base w' g c a0 gl cap L ∧ Touch g gl w w' := by
  have hb := build_cas i x y
  go_enter Try.func120, Try.ntmps120
  go_wp2_with fail
  refine (record_out M i hi hm 3 x y).mono ?_
  rintro e w1 ⟨rfl, M1, t1⟩
  go_wp2
  go_ret
  exact ⟨rfl, M1, t1⟩
theorem add_out (M : MemAt base w g c a gl cap L) (i : Int) (hi : ¬ (0 ≤ i ∧ i < (L.length : Int))) (hm : L.length ≤ 1000) (x : Int) : Calls Try.prog 144 #[.pointer (some ⟨g, 0, none⟩), .int .i64 i, .int .u64 x] w fun e w' => e = .returned (.int .u64 0) ∧ MemAt base w' g c a0 gl cap L ∧ Touch g gl w w' := by
  have hb := build_add i x
  go_enter Try.func144, Try.ntmps144
  go_wp2_with fail
  refine (record_out M i hi hm 4 x 0).mono ?_
  rintro e w1 ⟨rfl, M1, t1⟩
  go_wp2
  go_ret
  exact ⟨rfl, M1, t1⟩
theorem store_out (M : MemAt base w g c a gl cap L) (i : Int) (hi : ¬ (0 ≤ i ∧ i < (L.length : Int))) (hm : L.length ≤ 1000) (x : Int) : Calls Try.prog 106 #[.pointer (some ⟨g, 0, none⟩), .int .i64 i, .int .u64 x] w fun e w' => e = .returned (.tuple #[]) ∧ MemAt base w' g c a0 gl cap L ∧ Touch g gl w w' := by
  have hb := build_store i x
  go_enter Try.func106, Try.ntmps106
  go_wp2_with fail
  refine (record_out M i hi hm 2 x 0).mono ?_
  rintro e w1 ⟨rfl, M1, t1⟩
  go_wp2
  go_end0
  exact ⟨rfl, M1, t1⟩
end
end Go.Proofs.Yticgpikpefgldaa.Me

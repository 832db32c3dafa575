/- The reference's memory: its record and words; Do and what calls it. -/
import Derived.Test.YticgpikpefgldaaMemOps
import Derived.Test.YticgpikpefgldaaSubRow
namespace Go.Proofs.Yticgpikpefgldaa.Me
open Go Go.RowKit Go.Proofs.Yticgpikpefgldaa.Gro Go.Proofs.Yticgpikpefgldaa.Own Go.Proofs.Yticgpikpefgldaa.Wd Go.Proofs.Yticgpikpefgldaa.Ap Go.Proofs.Yticgpikpefgldaa.Pl
set_option linter.unusedVariables false
set_option linter.unusedSimpArgs false
abbrev rc (c : Cfg) (a : Acc) (v : Sl) : Array Value := #[.int .i64 c.ww, .int .i64 c.sl, .int .i64 c.bl, .int .i64 c.wd, .int .i64 c.en, .int .i64 c.rk, .int .i64 c.bg, .int .u64 c.la, .slice v.ad v.len v.cap, .int .i64 a.kd, .int .i64 a.at_, .int .u64 a.x, .int .u64 a.y, .int .u64 a.old]
structure RefMem (base : Nat) (w : World) (g : Nat) (c : Cfg) (a : Acc) (gl cap : Nat) (L : List Int) : Prop where
  B : Bk w g (rc c a ⟨some ⟨gl, 0, none⟩, L.length, cap⟩) 50
  W : w.ownsRow base 22 1 (.slice (some ⟨gl, 0, none⟩) L.length cap) L.length (L.map (.int .u64))
  g0 : base ≤ g
  ne : g ≠ gl
theorem own_setRow_ne {w : World} {base n cap gl : Nat} {e : TypeId} {xs : List Value} (h : w.ownsRow base e 1 (.slice (some ⟨gl, 0, none⟩) n cap) n xs) {g : Nat} (hp : g ≠ gl) (cs : Array Value) : (w.setRow g cs).ownsRow base e 1 (.slice (some ⟨gl, 0, none⟩) n cap) n xs := by
  refine ⟨h.1, ?_⟩
  rcases h.2 with ⟨he, _⟩ | ⟨g', cap', cur, he, hge, hh, rest⟩
  · cases he
  · have e1 : gl = g' := (by simpa using he : gl = g' ∧ cap = cap').1
    subst e1
    exact .inr ⟨gl, cap', cur, he, hge, (setRow_other w g gl cs (Ne.symm hp)).trans hh, rest⟩
section
variable {base : Nat} {w w1 w' : World} {g gl cap : Nat} {c : Cfg} {a : Acc} {L : List Int}
theorem Touch.setRow (h : Touch g gl w w1) (cs : Array Value) : Touch g gl w (w1.setRow g cs) :=
  ⟨h.os, h.tape, h.output, by simpa using h.size, fun k hk h1 h2 => (setRow_other w1 g k cs h1).trans (h.block k hk h1 h2)⟩
theorem RefMem.at (M : RefMem base w g c a gl cap L) {i : Nat} (hi : i < L.length) : w.cell? ⟨gl, i, none⟩ = some (.int .u64 L[i]) := by
  rw [World.ownsRow.cellAt M.W i (by simpa using hi)]; simp [hi]
theorem RefMem.lt (M : RefMem base w g c a gl cap L) : g < w.heap.size ∧ gl < w.heap.size := ⟨M.B.lt, (World.ownsRow.lt M.W gl rfl).2⟩
theorem RefMem.gl0 (M : RefMem base w g c a gl cap L) : base ≤ gl := (World.ownsRow.lt M.W gl rfl).1
theorem RefMem.keep (M : RefMem base w g c a gl cap L) (hb : Below w.heap.size w w') : RefMem base w' g c a gl cap L :=
  ⟨M.B.keep hb, owns_below M.W hb (fun k hk => by simp [Value.ownBlock] at hk; have := M.lt.2; omega), M.g0, M.ne⟩
/-- Another memory's changes. -/
theorem RefMem.apart (M : RefMem base w g c a gl cap L) {g' gl' : Nat} (h : Touch g' gl' w w') (h1 : g ≠ g') (h2 : g ≠ gl') (h3 : gl ≠ g') (h4 : gl ≠ gl') : RefMem base w' g c a gl cap L := by
  refine ⟨h.bk M.B h1 h2, ⟨M.W.1, ?_⟩, M.g0, M.ne⟩
  rcases M.W.2 with ⟨he, _⟩ | ⟨g1, cap', cur, he, hge, hh, rest⟩
  · cases he
  · have e1 : gl = g1 := (by simpa using he : gl = g1 ∧ cap = cap').1
    subst e1
    exact .inr ⟨gl, cap', cur, he, hge, (h.block gl M.lt.2 h3 h4).trans hh, rest⟩
/-- A word is stored. -/
theorem RefMem.write (M : RefMem base w g c a gl cap L) (i : Nat) (v : Int) : RefMem base (w.setCell ⟨gl, i, none⟩ (.int .u64 v)) g c a gl cap (L.set i v) := by
  have h := World.ownsRow.stored M.W i (.int .u64 v)
  refine ⟨?_, ?_, M.g0, M.ne⟩
  · rw [List.length_set]
    exact M.B.setCell_far (a := ⟨gl, i, none⟩) M.ne _
  · rw [List.length_set, List.map_set]
    exact h.1
/-- The last access is written. -/
theorem RefMem.seen (M : RefMem base w g c a gl cap L) (r : Acc) : RefMem base (w.setRow g (rc c r ⟨some ⟨gl, 0, none⟩, L.length, cap⟩)) g c r gl cap L :=
  ⟨M.B.setRow _, own_setRow_ne M.W M.ne _, M.g0, M.ne⟩
theorem RefMem.frozen (M : RefMem base w g c a gl cap L) (i : Nat) : w.frozen? ⟨gl, i, none⟩ = false := by
  rcases M.W.2 with ⟨he, _⟩ | ⟨g1, cap', cur, he, hge, hh, rest⟩
  · cases he
  · have e1 : gl = g1 := (by simpa using he : gl = g1 ∧ cap = cap').1
    subst e1
    exact frozen_of_row w gl i cur _ hh
theorem build_acc0 (w : World) : (Instr.build 48 #[]).run Try.prog w = .ok (av a0) w := run_build w _ _ _ (by kernel_rfl)
theorem build_acc (r : Acc) (w : World) : (Instr.build 48 #[(0, .int .i64 r.kd), (1, .int .i64 r.at_), (2, .int .u64 r.x), (3, .int .u64 r.y), (4, .int .u64 r.old)]).run Try.prog w = .ok (av r) w := run_build w _ _ _ (by kernel_rfl)
theorem do_out (M : RefMem base w g c a gl cap L) (k i x y : Int) (hi : ¬ (0 ≤ i ∧ i < (L.length : Int))) (hm : L.length ≤ 1000) : Calls Try.prog 107 #[.pointer (some ⟨g, 0, none⟩), .int .i64 k, .int .i64 i, .int .u64 x, .int .u64 y] w fun e w' => e = .returned (.tuple #[.int .u64 0, .bool false]) ∧ RefMem base w' g c a0 gl cap L ∧ Touch g gl w w' := by
  have hb := build_acc0
  have M1 := M.seen a0
  have T1 := (Touch.refl g gl w).setRow (rc c a0 ⟨some ⟨gl, 0, none⟩, L.length, cap⟩)
  have x1 := M1.B.cells
  by_cases h0 : 0 ≤ i
  · have h1 : decide ((L.length : Int) ≤ i) = true := by simp; omega
    have h2 : decide (i < 0) = false := by simp; omega
    clear hi
    go_enter Try.func107, Try.ntmps107
    go_wp2_with (refine Sub.wpList_store_sub rfl 48 _ _ rfl g 9 #[.int .i64 0, .int .i64 0, .int .u64 0, .int .u64 0, .int .u64 0] rfl rfl 50 (rc c a ⟨some ⟨gl, 0, none⟩, L.length, cap⟩) (rc c a0 ⟨some ⟨gl, 0, none⟩, L.length, cap⟩) (by exact M.B) (by kernel_rfl) (Nat.le_of_ble_eq_true (by kernel_rfl)) (by kernel_rfl) (by kernel_rfl) ?_)
    go_ret2
    exact ⟨rfl, M1, T1⟩
  · have h2 : decide (i < 0) = true := by simp; omega
    clear hi h0
    go_enter Try.func107, Try.ntmps107
    go_wp2_with (refine Sub.wpList_store_sub rfl 48 _ _ rfl g 9 #[.int .i64 0, .int .i64 0, .int .u64 0, .int .u64 0, .int .u64 0] rfl rfl 50 (rc c a ⟨some ⟨gl, 0, none⟩, L.length, cap⟩) (rc c a0 ⟨some ⟨gl, 0, none⟩, L.length, cap⟩) (by exact M.B) (by kernel_rfl) (Nat.le_of_ble_eq_true (by kernel_rfl)) (by kernel_rfl) (by kernel_rfl) ?_)
    go_ret2
    exact ⟨rfl, M1, T1⟩
set_option maxHeartbeats 1000000 in
theorem do_load (M : RefMem base w g c a gl cap L) (i : Nat) (hi : i < L.length) (hm : L.length ≤ 1000) (x y : Int)  : Calls Try.prog 107 #[.pointer (some ⟨g, 0, none⟩), .int .i64 1, .int .i64 (i : Int), .int .u64 x, .int .u64 y] w fun e w' => e = .returned (.tuple #[.int .u64 L[i], .bool true]) ∧ RefMem base w' g c ⟨1, i, x, y, L[i]⟩ gl cap L ∧ Touch g gl w w' := by
  have hb0 := build_acc0
  obtain ⟨v, hv⟩ : ∃ v, v = L[i] := ⟨_, rfl⟩
  have hb := build_acc ⟨1, i, x, y, v⟩
  have M1 := M.seen a0
  have M2 := M1.seen ⟨1, i, x, y, v⟩
  have T2 := ((Touch.refl g gl w).setRow (rc c a0 ⟨some ⟨gl, 0, none⟩, L.length, cap⟩)).setRow (rc c ⟨1, i, x, y, v⟩ ⟨some ⟨gl, 0, none⟩, L.length, cap⟩)
  have x1 := M1.B.cells
  have x2 := M2.B.cells
  have q1 := M1.at hi
  have q2 := M2.at hi
  have f2 := M2.frozen i
  have h1 : decide ((L.length : Int) ≤ (i : Int)) = false := by simp; omega
  have h1' : decide (L.length ≤ i) = false := by simp; omega
  have h2 : decide ((i : Int) < 0) = false := by simp <;> omega
  have hlt : (i : Int) < (L.length : Int) := by omega
  rw [← hv] at q1 q2 ⊢
  clear hv hi
  go_enter Try.func107, Try.ntmps107
  have tok1 : True := trivial
  go_wp2_with (first | (have _t := tok1; refine Sub.wpList_store_sub rfl 48 _ _ rfl g 9 #[.int .i64 0, .int .i64 0, .int .u64 0, .int .u64 0, .int .u64 0] rfl rfl 50 (rc c a ⟨some ⟨gl, 0, none⟩, L.length, cap⟩) (rc c a0 ⟨some ⟨gl, 0, none⟩, L.length, cap⟩) (by exact M.B) (by kernel_rfl) (Nat.le_of_ble_eq_true (by kernel_rfl)) (by kernel_rfl) (by kernel_rfl) ?_; clear tok1 _t) | (refine Sub.wpList_store_sub rfl 48 _ _ rfl g 9 #[.int .i64 1, .int .i64 (i : Int), .int .u64 x, .int .u64 y, .int .u64 v] rfl rfl 50 (rc c a0 ⟨some ⟨gl, 0, none⟩, L.length, cap⟩) (rc c ⟨1, i, x, y, v⟩ ⟨some ⟨gl, 0, none⟩, L.length, cap⟩) (by exact M1.B) (by kernel_rfl) (Nat.le_of_ble_eq_true (by kernel_rfl)) (by kernel_rfl) (by kernel_rfl) ?_))
  go_ret2
  exact ⟨rfl, M2, T2⟩
set_option maxHeartbeats 1000000 in
theorem do_store (M : RefMem base w g c a gl cap L) (i : Nat) (hi : i < L.length) (hm : L.length ≤ 1000) (x y : Int)  : Calls Try.prog 107 #[.pointer (some ⟨g, 0, none⟩), .int .i64 2, .int .i64 (i : Int), .int .u64 x, .int .u64 y] w fun e w' => e = .returned (.tuple #[.int .u64 L[i], .bool true]) ∧ RefMem base w' g c ⟨2, i, x, y, L[i]⟩ gl cap (L.set i x) ∧ Touch g gl w w' := by
  have hb0 := build_acc0
  obtain ⟨v, hv⟩ : ∃ v, v = L[i] := ⟨_, rfl⟩
  have hb := build_acc ⟨2, i, x, y, v⟩
  have M1 := M.seen a0
  have M2 := M1.seen ⟨2, i, x, y, v⟩
  have T2 := ((Touch.refl g gl w).setRow (rc c a0 ⟨some ⟨gl, 0, none⟩, L.length, cap⟩)).setRow (rc c ⟨2, i, x, y, v⟩ ⟨some ⟨gl, 0, none⟩, L.length, cap⟩)
  have x1 := M1.B.cells
  have x2 := M2.B.cells
  have q1 := M1.at hi
  have q2 := M2.at hi
  have f2 := M2.frozen i
  have h1 : decide ((L.length : Int) ≤ (i : Int)) = false := by simp; omega
  have h1' : decide (L.length ≤ i) = false := by simp; omega
  have h2 : decide ((i : Int) < 0) = false := by simp <;> omega
  have hlt : (i : Int) < (L.length : Int) := by omega
  have M3 := M2.write i x
  have T3 := T2.setCell (p := ⟨gl, i, none⟩) (.inr (.inl rfl)) (.int .u64 x)
  rw [← hv] at q1 q2 ⊢
  clear hv hi
  go_enter Try.func107, Try.ntmps107
  have tok1 : True := trivial
  go_wp2_with (first | (have _t := tok1; refine Sub.wpList_store_sub rfl 48 _ _ rfl g 9 #[.int .i64 0, .int .i64 0, .int .u64 0, .int .u64 0, .int .u64 0] rfl rfl 50 (rc c a ⟨some ⟨gl, 0, none⟩, L.length, cap⟩) (rc c a0 ⟨some ⟨gl, 0, none⟩, L.length, cap⟩) (by exact M.B) (by kernel_rfl) (Nat.le_of_ble_eq_true (by kernel_rfl)) (by kernel_rfl) (by kernel_rfl) ?_; clear tok1 _t) | (refine Sub.wpList_store_sub rfl 48 _ _ rfl g 9 #[.int .i64 2, .int .i64 (i : Int), .int .u64 x, .int .u64 y, .int .u64 v] rfl rfl 50 (rc c a0 ⟨some ⟨gl, 0, none⟩, L.length, cap⟩) (rc c ⟨2, i, x, y, v⟩ ⟨some ⟨gl, 0, none⟩, L.length, cap⟩) (by exact M1.B) (by kernel_rfl) (Nat.le_of_ble_eq_true (by kernel_rfl)) (by kernel_rfl) (by kernel_rfl) ?_))
  go_ret2
  exact ⟨rfl, M3, T3⟩
set_option maxHeartbeats 1000000 in
theorem do_cas_yes (M : RefMem base w g c a gl cap L) (i : Nat) (hi : i < L.length) (hm : L.length ≤ 1000) (x y : Int) (hx : L[i] = x) : Calls Try.prog 107 #[.pointer (some ⟨g, 0, none⟩), .int .i64 3, .int .i64 (i : Int), .int .u64 x, .int .u64 y] w fun e w' => e = .returned (.tuple #[.int .u64 L[i], .bool true]) ∧ RefMem base w' g c ⟨3, i, x, y, L[i]⟩ gl cap (L.set i y) ∧ Touch g gl w w' := by
  have hb0 := build_acc0
  obtain ⟨v, hv⟩ : ∃ v, v = L[i] := ⟨_, rfl⟩
  have hb := build_acc ⟨3, i, x, y, v⟩
  have M1 := M.seen a0
  have M2 := M1.seen ⟨3, i, x, y, v⟩
  have T2 := ((Touch.refl g gl w).setRow (rc c a0 ⟨some ⟨gl, 0, none⟩, L.length, cap⟩)).setRow (rc c ⟨3, i, x, y, v⟩ ⟨some ⟨gl, 0, none⟩, L.length, cap⟩)
  have x1 := M1.B.cells
  have x2 := M2.B.cells
  have q1 := M1.at hi
  have q2 := M2.at hi
  have f2 := M2.frozen i
  have h1 : decide ((L.length : Int) ≤ (i : Int)) = false := by simp; omega
  have h1' : decide (L.length ≤ i) = false := by simp; omega
  have h2 : decide ((i : Int) < 0) = false := by simp <;> omega
  have hlt : (i : Int) < (L.length : Int) := by omega
  have hxx : (v == x) = true := by rw [hv]; simp [hx]
  have M3 := M2.write i y
  have T3 := T2.setCell (p := ⟨gl, i, none⟩) (.inr (.inl rfl)) (.int .u64 y)
  rw [← hv] at q1 q2 ⊢
  clear hx
  clear hv hi
  go_enter Try.func107, Try.ntmps107
  have tok1 : True := trivial
  go_wp2_with (first | (have _t := tok1; refine Sub.wpList_store_sub rfl 48 _ _ rfl g 9 #[.int .i64 0, .int .i64 0, .int .u64 0, .int .u64 0, .int .u64 0] rfl rfl 50 (rc c a ⟨some ⟨gl, 0, none⟩, L.length, cap⟩) (rc c a0 ⟨some ⟨gl, 0, none⟩, L.length, cap⟩) (by exact M.B) (by kernel_rfl) (Nat.le_of_ble_eq_true (by kernel_rfl)) (by kernel_rfl) (by kernel_rfl) ?_; clear tok1 _t) | (refine Sub.wpList_store_sub rfl 48 _ _ rfl g 9 #[.int .i64 3, .int .i64 (i : Int), .int .u64 x, .int .u64 y, .int .u64 v] rfl rfl 50 (rc c a0 ⟨some ⟨gl, 0, none⟩, L.length, cap⟩) (rc c ⟨3, i, x, y, v⟩ ⟨some ⟨gl, 0, none⟩, L.length, cap⟩) (by exact M1.B) (by kernel_rfl) (Nat.le_of_ble_eq_true (by kernel_rfl)) (by kernel_rfl) (by kernel_rfl) ?_))
  go_ret2
  exact ⟨rfl, M3, T3⟩
set_option maxHeartbeats 1000000 in
theorem do_cas_no (M : RefMem base w g c a gl cap L) (i : Nat) (hi : i < L.length) (hm : L.length ≤ 1000) (x y : Int) (hx : ¬ L[i] = x) : Calls Try.prog 107 #[.pointer (some ⟨g, 0, none⟩), .int .i64 3, .int .i64 (i : Int), .int .u64 x, .int .u64 y] w fun e w' => e = .returned (.tuple #[.int .u64 L[i], .bool true]) ∧ RefMem base w' g c ⟨3, i, x, y, L[i]⟩ gl cap L ∧ Touch g gl w w' := by
  have hb0 := build_acc0
  obtain ⟨v, hv⟩ : ∃ v, v = L[i] := ⟨_, rfl⟩
  have hb := build_acc ⟨3, i, x, y, v⟩
  have M1 := M.seen a0
  have M2 := M1.seen ⟨3, i, x, y, v⟩
  have T2 := ((Touch.refl g gl w).setRow (rc c a0 ⟨some ⟨gl, 0, none⟩, L.length, cap⟩)).setRow (rc c ⟨3, i, x, y, v⟩ ⟨some ⟨gl, 0, none⟩, L.length, cap⟩)
  have x1 := M1.B.cells
  have x2 := M2.B.cells
  have q1 := M1.at hi
  have q2 := M2.at hi
  have f2 := M2.frozen i
  have h1 : decide ((L.length : Int) ≤ (i : Int)) = false := by simp; omega
  have h1' : decide (L.length ≤ i) = false := by simp; omega
  have h2 : decide ((i : Int) < 0) = false := by simp <;> omega
  have hlt : (i : Int) < (L.length : Int) := by omega
  have hxx : (v == x) = false := by rw [hv]; simp [hx]
  rw [← hv] at q1 q2 ⊢
  clear hx
  clear hv hi
  go_enter Try.func107, Try.ntmps107
  have tok1 : True := trivial
  go_wp2_with (first | (have _t := tok1; refine Sub.wpList_store_sub rfl 48 _ _ rfl g 9 #[.int .i64 0, .int .i64 0, .int .u64 0, .int .u64 0, .int .u64 0] rfl rfl 50 (rc c a ⟨some ⟨gl, 0, none⟩, L.length, cap⟩) (rc c a0 ⟨some ⟨gl, 0, none⟩, L.length, cap⟩) (by exact M.B) (by kernel_rfl) (Nat.le_of_ble_eq_true (by kernel_rfl)) (by kernel_rfl) (by kernel_rfl) ?_; clear tok1 _t) | (refine Sub.wpList_store_sub rfl 48 _ _ rfl g 9 #[.int .i64 3, .int .i64 (i : Int), .int .u64 x, .int .u64 y, .int .u64 v] rfl rfl 50 (rc c a0 ⟨some ⟨gl, 0, none⟩, L.length, cap⟩) (rc c ⟨3, i, x, y, v⟩ ⟨some ⟨gl, 0, none⟩, L.length, cap⟩) (by exact M1.B) (by kernel_rfl) (Nat.le_of_ble_eq_true (by kernel_rfl)) (by kernel_rfl) (by kernel_rfl) ?_))
  go_ret2
  exact ⟨rfl, M2, T2⟩
set_option maxHeartbeats 1000000 in
theorem do_add (M : RefMem base w g c a gl cap L) (i : Nat) (hi : i < L.length) (hm : L.length ≤ 1000) (x y : Int)  : Calls Try.prog 107 #[.pointer (some ⟨g, 0, none⟩), .int .i64 4, .int .i64 (i : Int), .int .u64 x, .int .u64 y] w fun e w' => e = .returned (.tuple #[.int .u64 L[i], .bool true]) ∧ RefMem base w' g c ⟨4, i, x, y, L[i]⟩ gl cap (L.set i (IntKind.u64.wrap (L[i] + x))) ∧ Touch g gl w w' := by
  have hb0 := build_acc0
  obtain ⟨v, hv⟩ : ∃ v, v = L[i] := ⟨_, rfl⟩
  have hb := build_acc ⟨4, i, x, y, v⟩
  have M1 := M.seen a0
  have M2 := M1.seen ⟨4, i, x, y, v⟩
  have T2 := ((Touch.refl g gl w).setRow (rc c a0 ⟨some ⟨gl, 0, none⟩, L.length, cap⟩)).setRow (rc c ⟨4, i, x, y, v⟩ ⟨some ⟨gl, 0, none⟩, L.length, cap⟩)
  have x1 := M1.B.cells
  have x2 := M2.B.cells
  have q1 := M1.at hi
  have q2 := M2.at hi
  have f2 := M2.frozen i
  have h1 : decide ((L.length : Int) ≤ (i : Int)) = false := by simp; omega
  have h1' : decide (L.length ≤ i) = false := by simp; omega
  have h2 : decide ((i : Int) < 0) = false := by simp <;> omega
  have hlt : (i : Int) < (L.length : Int) := by omega
  have M3 := M2.write i (IntKind.u64.wrap (v + x))
  have T3 := T2.setCell (p := ⟨gl, i, none⟩) (.inr (.inl rfl)) (.int .u64 (IntKind.u64.wrap (v + x)))
  rw [← hv] at q1 q2 ⊢
  clear hv hi
  go_enter Try.func107, Try.ntmps107
  have tok1 : True := trivial
  go_wp2_with (first | (have _t := tok1; refine Sub.wpList_store_sub rfl 48 _ _ rfl g 9 #[.int .i64 0, .int .i64 0, .int .u64 0, .int .u64 0, .int .u64 0] rfl rfl 50 (rc c a ⟨some ⟨gl, 0, none⟩, L.length, cap⟩) (rc c a0 ⟨some ⟨gl, 0, none⟩, L.length, cap⟩) (by exact M.B) (by kernel_rfl) (Nat.le_of_ble_eq_true (by kernel_rfl)) (by kernel_rfl) (by kernel_rfl) ?_; clear tok1 _t) | (refine Sub.wpList_store_sub rfl 48 _ _ rfl g 9 #[.int .i64 4, .int .i64 (i : Int), .int .u64 x, .int .u64 y, .int .u64 v] rfl rfl 50 (rc c a0 ⟨some ⟨gl, 0, none⟩, L.length, cap⟩) (rc c ⟨4, i, x, y, v⟩ ⟨some ⟨gl, 0, none⟩, L.length, cap⟩) (by exact M1.B) (by kernel_rfl) (Nat.le_of_ble_eq_true (by kernel_rfl)) (by kernel_rfl) (by kernel_rfl) ?_))
  go_ret2
  exact ⟨rfl, M3, T3⟩
theorem rload_out (M : RefMem base w g c a gl cap L) (i : Int) (hi : ¬ (0 ≤ i ∧ i < (L.length : Int))) (hm : L.length ≤ 1000)  : Calls Try.prog 56 #[.pointer (some ⟨g, 0, none⟩), .int .i64 i] w fun e w' => e = .returned (.int .u64 0) ∧ RefMem base w' g c a0 gl cap L ∧ Touch g gl w w' := by
  go_enter Try.func56, Try.ntmps56
  go_wp2_with fail
  refine (do_out M 1 i 0 0 hi hm).mono ?_
  rintro e w1 ⟨rfl, M1, T1⟩
  go_wp2
  go_ret
  exact ⟨rfl, M1, T1⟩
theorem rload_in (M : RefMem base w g c a gl cap L) (i : Nat) (hi : i < L.length) (hm : L.length ≤ 1000)  : Calls Try.prog 56 #[.pointer (some ⟨g, 0, none⟩), .int .i64 (i : Int)] w fun e w' => e = .returned (.int .u64 L[i]) ∧ RefMem base w' g c ⟨1, i, 0, 0, L[i]⟩ gl cap L ∧ Touch g gl w w' := by
  go_enter Try.func56, Try.ntmps56
  go_wp2_with fail
  refine (do_load M i hi hm 0 0).mono ?_
  rintro e w1 ⟨rfl, M1, T1⟩
  go_wp2
  go_ret
  exact ⟨rfl, M1, T1⟩
theorem rstore_out (M : RefMem base w g c a gl cap L) (i : Int) (hi : ¬ (0 ≤ i ∧ i < (L.length : Int))) (hm : L.length ≤ 1000) (x : Int) : Calls Try.prog 61 #[.pointer (some ⟨g, 0, none⟩), .int .i64 i, .int .u64 x] w fun e w' => e = .returned (.tuple #[]) ∧ RefMem base w' g c a0 gl cap L ∧ Touch g gl w w' := by
  go_enter Try.func61, Try.ntmps61
  go_wp2_with fail
  refine (do_out M 2 i x 0 hi hm).mono ?_
  rintro e w1 ⟨rfl, M1, T1⟩
  go_wp2
  go_end0
  exact ⟨rfl, M1, T1⟩
theorem rstore_in (M : RefMem base w g c a gl cap L) (i : Nat) (hi : i < L.length) (hm : L.length ≤ 1000) (x : Int) : Calls Try.prog 61 #[.pointer (some ⟨g, 0, none⟩), .int .i64 (i : Int), .int .u64 x] w fun e w' => e = .returned (.tuple #[]) ∧ RefMem base w' g c ⟨2, i, x, 0, L[i]⟩ gl cap (L.set i x) ∧ Touch g gl w w' := by
  go_enter Try.func61, Try.ntmps61
  go_wp2_with fail
  refine (do_store M i hi hm x 0).mono ?_
  rintro e w1 ⟨rfl, M1, T1⟩
  go_wp2
  go_end0
  exact ⟨rfl, M1, T1⟩
theorem rcas_out (M : RefMem base w g c a gl cap L) (i : Int) (hi : ¬ (0 ≤ i ∧ i < (L.length : Int))) (hm : L.length ≤ 1000) (x y : Int) : Calls Try.prog 60 #[.pointer (some ⟨g, 0, none⟩), .int .i64 i, .int .u64 x, .int .u64 y] w fun e w' => e = .returned (.bool false) ∧ RefMem base w' g c a0 gl cap L ∧ Touch g gl w w' := by
  go_enter Try.func60, Try.ntmps60
  go_wp2_with fail
  refine (do_out M 3 i x y hi hm).mono ?_
  rintro e w1 ⟨rfl, M1, T1⟩
  go_wp2
  go_ret
  exact ⟨rfl, M1, T1⟩
theorem rcas_yes (M : RefMem base w g c a gl cap L) (i : Nat) (hi : i < L.length) (hm : L.length ≤ 1000) (x y : Int) (hx : L[i] = x) : Calls Try.prog 60 #[.pointer (some ⟨g, 0, none⟩), .int .i64 (i : Int), .int .u64 x, .int .u64 y] w fun e w' => e = .returned (.bool true) ∧ RefMem base w' g c ⟨3, i, x, y, L[i]⟩ gl cap (L.set i y) ∧ Touch g gl w w' := by
  have hxx : (L[i] == x) = true := by simp [hx]
  go_enter Try.func60, Try.ntmps60
  go_wp2_with fail
  refine (do_cas_yes M i hi hm x y hx).mono ?_
  rintro e w1 ⟨rfl, M1, T1⟩
  go_wp2
  go_ret
  exact ⟨rfl, M1, T1⟩
theorem rcas_no (M : RefMem base w g c a gl cap L) (i : Nat) (hi : i < L.length) (hm : L.length ≤ 1000) (x y : Int) (hx : ¬ L[i] = x) : Calls Try.prog 60 #[.pointer (some ⟨g, 0, none⟩), .int .i64 (i : Int), .int .u64 x, .int .u64 y] w fun e w' => e = .returned (.bool false) ∧ RefMem base w' g c ⟨3, i, x, y, L[i]⟩ gl cap L ∧ Touch g gl w w' := by
  have hxx : (L[i] == x) = false := by simp [hx]
  go_enter Try.func60, Try.ntmps60
  go_wp2_with fail
  refine (do_cas_no M i hi hm x y hx).mono ?_
  rintro e w1 ⟨rfl, M1, T1⟩
  go_wp2
  go_ret
  exact ⟨rfl, M1, T1⟩
theorem radd_out (M : RefMem base w g c a gl cap L) (i : Int) (hi : ¬ (0 ≤ i ∧ i < (L.length : Int))) (hm : L.length ≤ 1000) (x : Int) : Calls Try.prog 76 #[.pointer (some ⟨g, 0, none⟩), .int .i64 i, .int .u64 x] w fun e w' => e = .returned (.int .u64 0) ∧ RefMem base w' g c a0 gl cap L ∧ Touch g gl w w' := by
  go_enter Try.func76, Try.ntmps76
  go_wp2_with fail
  refine (do_out M 4 i x 0 hi hm).mono ?_
  rintro e w1 ⟨rfl, M1, T1⟩
  go_wp2
  go_ret
  exact ⟨rfl, M1, T1⟩
theorem radd_in (M : RefMem base w g c a gl cap L) (i : Nat) (hi : i < L.length) (hm : L.length ≤ 1000) (x : Int) : Calls Try.prog 76 #[.pointer (some ⟨g, 0, none⟩), .int .i64 (i : Int), .int .u64 x] w fun e w' => e = .returned (.int .u64 L[i]) ∧ RefMem base w' g c ⟨4, i, x, 0, L[i]⟩ gl cap (L.set i (IntKind.u64.wrap (L[i] + x))) ∧ Touch g gl w w' := by
  go_enter Try.func76, Try.ntmps76
  go_wp2_with fail
  refine (do_add M i hi hm x 0).mono ?_
  rintro e w1 ⟨rfl, M1, T1⟩
  go_wp2
  go_ret
  exact ⟨rfl, M1, T1⟩
end
end Go.Proofs.Yticgpikpefgldaa.Me

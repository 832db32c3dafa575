/- The contract of (*Pool).change. -/
import Derived.Test.YtgpdkagmacpghaaIdealMeets
import Derived.WalkSpells
namespace Go.Proofs.Ytgpdkagmacpghaa.Idl
open Go Go.RowKit Go.Proofs.Ytgpdkagmacpghaa.Mr Go.ChangeMaps
set_option linter.unusedVariables false
set_option linter.unusedSimpArgs false

/-- The world keeps every block that existed but those of S. -/
structure Keeps (S : Nat → Prop) (w w' : World) : Prop where
  os : w'.os = w.os
  tape : w'.tape = w.tape
  output : w'.output = w.output
  size : w.heap.size ≤ w'.heap.size
  block : ∀ k, k < w.heap.size → ¬ S k → w'.heap[k]? = w.heap[k]?
theorem Keeps.refl (S : Nat → Prop) (w : World) : Keeps S w w := ⟨rfl, rfl, rfl, Nat.le_refl _, fun _ _ _ => rfl⟩
theorem Keeps.trans {S : Nat → Prop} {a b c : World} (h : Keeps S a b) (k : Keeps S b c) : Keeps S a c :=
  ⟨k.os.trans h.os, k.tape.trans h.tape, k.output.trans h.output, Nat.le_trans h.size k.size, fun i hi hs => (k.block i (Nat.lt_of_lt_of_le hi h.size) hs).trans (h.block i hi hs)⟩
theorem Keeps.alloc {S : Nat → Prop} {a w : World} (h : Keeps S a w) (o : Obj) : Keeps S a (w.alloc o) :=
  h.trans ⟨rfl, rfl, rfl, by simp, fun i hi _ => Below.heap_alloc w o i hi⟩
theorem Keeps.drew {S : Nat → Prop} {a w : World} (h : Keeps S a w) : Keeps S a w.drew := h.trans ⟨rfl, rfl, rfl, Nat.le_refl _, fun _ _ _ => rfl⟩
theorem Keeps.setCell {S : Nat → Prop} {a w : World} (h : Keeps S a w) {x : Addr} (v : Value) (hx : S x.block ∨ a.heap.size ≤ x.block) : Keeps S a (w.setCell x v) :=
  ⟨h.os, h.tape, h.output, by simpa [World.setCell] using h.size, fun i hi hs => (Below.heap_setCell w x v i (fun e => by
    rcases hx with hx | hx
    · exact hs (e ▸ hx)
    · omega)).trans (h.block i hi hs)⟩
theorem Keeps.setBlock {S : Nat → Prop} {a w : World} (h : Keeps S a w) {b : Nat} {es : Array MapEntry} {c : Nat} (hb : w.heap[b]? = some (.map es c)) (o : Obj) (hx : S b ∨ a.heap.size ≤ b) : Keeps S a (setBlock w b o) :=
  ⟨h.os, h.tape, h.output, by simpa [ChangeMaps.setBlock] using h.size, fun i hi hs => (heap_setBlock_other hb o (fun e => by
    rcases hx with hx | hx
    · exact hs (e ▸ hx)
    · omega)).trans (h.block i hi hs)⟩
theorem Keeps.below {S : Nat → Prop} {a w w' : World} (h : Keeps S a w) (hb : Below w.heap.size w w') : Keeps S a w' :=
  h.trans ⟨hb.os, hb.tape, hb.output, hb.size, fun i hi _ => hb.block i hi⟩
theorem Keeps.toBelow {S : Nat → Prop} {w w' : World} (h : Keeps S w w') {B : Nat} (hB : B ≤ w.heap.size) (hS : ∀ k, k < B → ¬ S k) : Below B w w' :=
  ⟨h.os, h.tape, h.output, h.size, fun k hk => h.block k (Nat.lt_of_lt_of_le hk hB) (hS k hk)⟩

section
variable {w : World} {p : Nat} {ws : Int} {ml md : Option Nat} {L : List (Int × Int)} {D : List Int}
theorem eql_live (w : World) (r : Option Nat) : (binOp .eql 157 (.map r) (.map none)).run Try.prog w = .ok (.bool r.isNone) w := run_eql_map_nil w _ _ _ r Try.underlying157
theorem eql_dead (w : World) (r : Option Nat) : (binOp .eql 158 (.map r) (.map none)).run Try.prog w = .ok (.bool r.isNone) w := run_eql_map_nil w _ _ _ r Try.underlying158

theorem PoolAt.drew (h : PoolAt w p ws ml md L D) : PoolAt w.drew p ws ml md L D := h.of_blocks rfl (fun _ _ => rfl) (fun _ _ => rfl)
theorem cell_setBlock {b b' i : Nat} {es : Array MapEntry} {c : Nat} (hb : w.heap[b]? = some (.map es c)) (o : Obj) (h : b' ≠ b) : (setBlock w b o).cell? ⟨b', i, none⟩ = w.cell? ⟨b', i, none⟩ := World.cell?_of_block (w := w) (a := ⟨b', i, none⟩) (heap_setBlock_other hb o h)
def poolS (p : Nat) (ml md : Option Nat) (k : Nat) : Prop := k = p ∨ ml = some k ∨ md = some k

/-- After a store into the map of live tickets. -/
theorem PoolAt.set_live {b : Nat} (h : PoolAt w p ws (some b) md L D) {es' : Array MapEntry} {c' : Nat} {L' : List (Int × Int)} (hL : es'.toList.map kv = (LV L').map (pr (Value.int .u64))) : PoolAt (setBlock w b (.map es' c')) p ws (some b) md L' D := by
  obtain ⟨es, c, hb, _⟩ := (h.live : MapAt w b _ _)
  have hp := heap_setBlock_other hb (.map es' c') (Ne.symm (h.live_lt rfl).2)
  have h1 := h.of_blocks (w' := setBlock w b (.map es' c')) (ml := some b) hp
  refine ⟨(World.cell?_of_block (w := w) (a := ⟨p, 0, none⟩) hp).trans h.c0, (World.cell?_of_block (w := w) (a := ⟨p, 1, none⟩) hp).trans h.c1, (World.cell?_of_block (w := w) (a := ⟨p, 2, none⟩) hp).trans h.c2, fun i => (World.frozen?_of_block (w := w) (a := ⟨p, i, none⟩) hp).trans (h.fr i), ⟨es', c', heap_setBlock_same hb _, hL⟩, mapV_of h.dead (fun b' e => heap_setBlock_other hb _ (fun e' => h.ne b rfl (e' ▸ e))), h.ne⟩
theorem PoolAt.set_dead {b : Nat} (h : PoolAt w p ws ml (some b) L D) {es' : Array MapEntry} {c' : Nat} {D' : List Int} (hL : es'.toList.map kv = (DV D').map (pr (Value.int .u64))) : PoolAt (setBlock w b (.map es' c')) p ws ml (some b) L D' := by
  obtain ⟨es, c, hb, _⟩ := (h.dead : MapAt w b _ _)
  have hp := heap_setBlock_other hb (.map es' c') (Ne.symm (h.dead_lt rfl).2)
  refine ⟨(World.cell?_of_block (w := w) (a := ⟨p, 0, none⟩) hp).trans h.c0, (World.cell?_of_block (w := w) (a := ⟨p, 1, none⟩) hp).trans h.c1, (World.cell?_of_block (w := w) (a := ⟨p, 2, none⟩) hp).trans h.c2, fun i => (World.frozen?_of_block (w := w) (a := ⟨p, i, none⟩) hp).trans (h.fr i), mapV_of h.live (fun b' e => heap_setBlock_other hb _ (fun e' => h.ne b' e (e' ▸ rfl))), ⟨es', c', heap_setBlock_same hb _, hL⟩, h.ne⟩

def Changed (w : World) (p : Nat) (ws : Int) (ml md : Option Nat) (L : List (Int × Int)) (D : List Int) (w' : World) : Prop :=
  ∃ ml' md', PoolAt w' p ws ml' md' L D ∧ Keeps (poolS p ml md) w w' ∧ (∀ b, ml' = some b → ml = some b ∨ w.heap.size ≤ b) ∧ (∀ b, md' = some b → md = some b ∨ w.heap.size ≤ b)

set_option maxRecDepth 100000 in
theorem change_issue_some (n : Int) (hn : n = 1 ∨ n = 3) (k ot x sl by_ nth t r : Int) (use : Bool) (rd : Value) (b : Nat) (h : PoolAt w p ws (some b) md L D) :
    Calls Try.prog 116 #[.pointer (some ⟨p, 0, none⟩), .int .i64 n, (Ans.mk k ot x sl by_ nth t r use rd).val] w fun e w' => e = .returned (.tuple #[]) ∧ Changed w p ws (some b) md (updN t x L) D w' := by
  unfold Ans.val
  simp only
  have hb1 := fun o : Obj => (Below.refl w.heap.size w).alloc (Nat.le_refl _) o
  have hP := h.below (hb1 (Obj.cells #[.int .i64 k, .int .u64 ot, .int .u64 x, .int .i64 sl, .bool use, .int .i64 by_, .int .i64 nth, .int .u64 t, .int .i64 r, rd] 57))
  have hP' := hP.drew
  obtain ⟨es', c', hr, hL'⟩ := run_upd keys64 Try.underlying157 (hP'.live : MapAt _ b _ _) t (.int .u64 x)
  rw [upd_LV] at hL'
  have HF : Hid (Changed w p ws (some b) md (updN t x L) D (setBlock (w.alloc (Obj.cells #[.int .i64 k, .int .u64 ot, .int .u64 x, .int .i64 sl, .bool use, .int .i64 by_, .int .i64 nth, .int .u64 t, .int .i64 r, rd] 57)).drew b (.map es' c'))) := by
    obtain ⟨es, c, hbb, _⟩ := (hP'.live : MapAt _ b _ _)
    exact ⟨some b, md, hP'.set_live hL', Keeps.setBlock ((Keeps.refl _ _).alloc _).drew hbb _ (.inl (.inr (.inl rfl))), fun _ e => .inl e, fun _ e => .inl e⟩
  have HS : Hid ((setBlock (w.alloc (Obj.cells #[.int .i64 k, .int .u64 ot, .int .u64 x, .int .i64 sl, .bool use, .int .i64 by_, .int .i64 nth, .int .u64 t, .int .i64 r, rd] 57)).drew b (.map es' c')).cell? ⟨p, 1, none⟩ = some (.map (some b)) ∧ (setBlock (w.alloc (Obj.cells #[.int .i64 k, .int .u64 ot, .int .u64 x, .int .i64 sl, .bool use, .int .i64 by_, .int .i64 nth, .int .u64 t, .int .i64 r, rd] 57)).drew b (.map es' c')).cell? ⟨w.heap.size, 7, none⟩ = some (.int .u64 t) ∧ (setBlock (w.alloc (Obj.cells #[.int .i64 k, .int .u64 ot, .int .u64 x, .int .i64 sl, .bool use, .int .i64 by_, .int .i64 nth, .int .u64 t, .int .i64 r, rd] 57)).drew b (.map es' c')).cell? ⟨w.heap.size, 2, none⟩ = some (.int .u64 x)) := by
    obtain ⟨es, c, hbb, _⟩ := (hP'.live : MapAt _ b _ _)
    have hne := (h.live_lt rfl)
    refine ⟨(cell_setBlock hbb _ (Ne.symm hne.2)).trans hP'.c1, (cell_setBlock hbb _ (by omega)).trans ?_, (cell_setBlock hbb _ (by omega)).trans ?_⟩ <;> simp
  have hc1 := hP.c1
  have qe := eql_live
  clear h hb1 hP hP' hL'
  rcases hn with rfl | rfl
  all_goals
    go_enter Try.func116, Try.ntmps116
    go_wp2
    go_region_held3 (fun w' => w'.cell? ⟨p, 1, none⟩ = some (.map (some b)) ∧ w'.cell? ⟨w.heap.size, 7, none⟩ = some (.int .u64 t) ∧ w'.cell? ⟨w.heap.size, 2, none⟩ = some (.int .u64 x)) (first | exact HS.out | go_keep) (fail)
    go_wp2
    go_end0
    exact ⟨rfl, HF.out⟩

theorem cell_in {W : World} {b i : Nat} {c : Array Value} {ty : TypeId} {v : Value} (h : W.heap[b]? = some (.cells c ty)) (hv : c[i]? = some v) : W.cell? ⟨b, i, none⟩ = some v := by
  simp [World.cell?, h, hv]
theorem heap_alloc1 (w : World) (o : Obj) : (w.alloc o).heap[w.heap.size]? = some o := by show (w.heap.push o)[w.heap.size]? = _; simp
theorem PoolAt.make_live (h : PoolAt w p ws none md L D) (o : Obj) : PoolAt (((w.setCell ⟨p, 1, none⟩ (.map (some (w.heap.size + 1)))).alloc o).alloc (.map #[] 0)) p ws (some (w.heap.size + 1)) md L D := by
  have hp := h.lt
  have hs : (w.setCell ⟨p, 1, none⟩ (.map (some (w.heap.size + 1)))).heap.size = w.heap.size := by simp [World.setCell]
  have hcell : ∀ (i : Nat), (((w.setCell ⟨p, 1, none⟩ (.map (some (w.heap.size + 1)))).alloc o).alloc (.map #[] 0)).cell? ⟨p, i, none⟩ = (w.setCell ⟨p, 1, none⟩ (.map (some (w.heap.size + 1)))).cell? ⟨p, i, none⟩ := fun i => by
    rw [World.cell?_alloc_lt _ _ _ (by rw [World.size_alloc, hs]; show p < _; omega), World.cell?_alloc_lt _ _ _ (by rw [hs]; exact hp)]
  have hL0 : L = [] := by
    have : LV L = [] := h.live
    cases L with
    | nil => rfl
    | cons _ _ => cases this
  refine ⟨?_, ?_, ?_, ?_, ?_, ?_, ?_⟩
  · rw [hcell, World.cell?_setCell_other _ _ _ _ (by simp)]; exact h.c0
  · rw [hcell, World.cell?_setCell_same _ _ _ h.c1]
  · rw [hcell, World.cell?_setCell_other _ _ _ _ (by simp)]; exact h.c2
  · intro i
    have h1 : (((w.setCell ⟨p, 1, none⟩ (.map (some (w.heap.size + 1)))).alloc o).alloc (.map #[] 0)).heap[p]? = (w.setCell ⟨p, 1, none⟩ (.map (some (w.heap.size + 1)))).heap[p]? := by
      rw [Below.heap_alloc _ _ _ (by rw [World.size_alloc, hs]; omega), Below.heap_alloc _ _ _ (by rw [hs]; omega)]
    rw [World.frozen?_of_block (w := w.setCell ⟨p, 1, none⟩ (.map (some (w.heap.size + 1)))) (a := ⟨p, i, none⟩) h1, World.frozen?_setCell]
    exact h.fr i
  · subst hL0
    refine ⟨#[], 0, ?_, rfl⟩
    have := heap_alloc1 ((w.setCell ⟨p, 1, none⟩ (.map (some (w.heap.size + 1)))).alloc o) (.map #[] 0)
    rw [World.size_alloc, hs] at this
    exact this
  · refine mapV_of h.dead (fun b e => ?_)
    have hb := h.dead_lt e
    rw [Below.heap_alloc _ _ _ (by rw [World.size_alloc, hs]; omega), Below.heap_alloc _ _ _ (by rw [hs]; omega), Below.heap_setCell _ _ _ _ hb.2]
  · intro b e e'
    have hb := h.dead_lt e'
    have : w.heap.size + 1 = b := by injection e
    omega
theorem PoolAt.make_dead (h : PoolAt w p ws ml none L D) (o : Obj) : PoolAt (((w.setCell ⟨p, 2, none⟩ (.map (some (w.heap.size + 1)))).alloc o).alloc (.map #[] 0)) p ws ml (some (w.heap.size + 1)) L D := by
  have hp := h.lt
  have hs : (w.setCell ⟨p, 2, none⟩ (.map (some (w.heap.size + 1)))).heap.size = w.heap.size := by simp [World.setCell]
  have hcell : ∀ (i : Nat), (((w.setCell ⟨p, 2, none⟩ (.map (some (w.heap.size + 1)))).alloc o).alloc (.map #[] 0)).cell? ⟨p, i, none⟩ = (w.setCell ⟨p, 2, none⟩ (.map (some (w.heap.size + 1)))).cell? ⟨p, i, none⟩ := fun i => by
    rw [World.cell?_alloc_lt _ _ _ (by rw [World.size_alloc, hs]; show p < _; omega), World.cell?_alloc_lt _ _ _ (by rw [hs]; exact hp)]
  have hL0 : D = [] := by
    have : DV D = [] := h.dead
    cases D with
    | nil => rfl
    | cons _ _ => cases this
  refine ⟨?_, ?_, ?_, ?_, ?_, ?_, ?_⟩
  · rw [hcell, World.cell?_setCell_other _ _ _ _ (by simp)]; exact h.c0
  · rw [hcell, World.cell?_setCell_other _ _ _ _ (by simp)]; exact h.c1
  · rw [hcell, World.cell?_setCell_same _ _ _ h.c2]
  · intro i
    have h1 : (((w.setCell ⟨p, 2, none⟩ (.map (some (w.heap.size + 1)))).alloc o).alloc (.map #[] 0)).heap[p]? = (w.setCell ⟨p, 2, none⟩ (.map (some (w.heap.size + 1)))).heap[p]? := by
      rw [Below.heap_alloc _ _ _ (by rw [World.size_alloc, hs]; omega), Below.heap_alloc _ _ _ (by rw [hs]; omega)]
    rw [World.frozen?_of_block (w := w.setCell ⟨p, 2, none⟩ (.map (some (w.heap.size + 1)))) (a := ⟨p, i, none⟩) h1, World.frozen?_setCell]
    exact h.fr i
  · refine mapV_of h.live (fun b e => ?_)
    have hb := h.live_lt e
    rw [Below.heap_alloc _ _ _ (by rw [World.size_alloc, hs]; omega), Below.heap_alloc _ _ _ (by rw [hs]; omega), Below.heap_setCell _ _ _ _ hb.2]
  · subst hL0
    refine ⟨#[], 0, ?_, rfl⟩
    have := heap_alloc1 ((w.setCell ⟨p, 2, none⟩ (.map (some (w.heap.size + 1)))).alloc o) (.map #[] 0)
    rw [World.size_alloc, hs] at this
    exact this
  · intro b e e'
    have hb := h.live_lt e
    have : w.heap.size + 1 = b := by injection e'
    omega
theorem box_live (w : World) {p i : Nat} {v : Value} (hp : p < w.heap.size) (o o' : Obj) : (((w.setCell ⟨p, i, none⟩ v).alloc o).alloc o').heap[w.heap.size]? = some o := by
  have hs : (w.setCell ⟨p, i, none⟩ v).heap.size = w.heap.size := by simp [World.setCell]
  rw [Below.heap_alloc _ _ _ (by rw [World.size_alloc, hs]; omega)]
  have := heap_alloc1 (w.setCell ⟨p, i, none⟩ v) o
  rw [hs] at this
  exact this

set_option maxRecDepth 100000 in
theorem change_issue_none (n : Int) (hn : n = 1 ∨ n = 3) (k ot x sl by_ nth t r : Int) (use : Bool) (rd : Value) (h : PoolAt w p ws none md L D) :
    Calls Try.prog 116 #[.pointer (some ⟨p, 0, none⟩), .int .i64 n, (Ans.mk k ot x sl by_ nth t r use rd).val] w fun e w' => e = .returned (.tuple #[]) ∧ Changed w p ws none md (updN t x L) D w' := by
  unfold Ans.val
  simp only
  have hpl := h.lt
  have hP6 := (h.make_live (Obj.cells #[.int .i64 k, .int .u64 ot, .int .u64 x, .int .i64 sl, .bool use, .int .i64 by_, .int .i64 nth, .int .u64 t, .int .i64 r, rd] 57)).drew
  have hbox := box_live w (i := 1) (v := .map (some (w.heap.size + 1))) hpl (Obj.cells #[.int .i64 k, .int .u64 ot, .int .u64 x, .int .i64 sl, .bool use, .int .i64 by_, .int .i64 nth, .int .u64 t, .int .i64 r, rd] 57) (.map #[] 0)
  obtain ⟨es', c', hr, hL'⟩ := run_upd keys64 Try.underlying157 (hP6.live : MapAt _ (w.heap.size + 1) _ _) t (.int .u64 x)
  rw [upd_LV] at hL'
  obtain ⟨es, c, hbb, _⟩ := (hP6.live : MapAt _ (w.heap.size + 1) _ _)
  have HF : Hid (Changed w p ws none md (updN t x L) D (setBlock (((w.setCell ⟨p, 1, none⟩ (.map (some (w.heap.size + 1)))).alloc (Obj.cells #[.int .i64 k, .int .u64 ot, .int .u64 x, .int .i64 sl, .bool use, .int .i64 by_, .int .i64 nth, .int .u64 t, .int .i64 r, rd] 57)).alloc (.map #[] 0)).drew (w.heap.size + 1) (.map es' c'))) :=
    ⟨some (w.heap.size + 1), md, hP6.set_live hL', Keeps.setBlock ((((Keeps.refl _ _).setCell _ (.inl (.inl rfl))).alloc _).alloc _).drew hbb _ (.inr (by omega)), (fun _ e => .inr (by injection e; omega)), fun _ e => .inl e⟩
  have HS : Hid ((setBlock (((w.setCell ⟨p, 1, none⟩ (.map (some (w.heap.size + 1)))).alloc (Obj.cells #[.int .i64 k, .int .u64 ot, .int .u64 x, .int .i64 sl, .bool use, .int .i64 by_, .int .i64 nth, .int .u64 t, .int .i64 r, rd] 57)).alloc (.map #[] 0)).drew (w.heap.size + 1) (.map es' c')).cell? ⟨p, 1, none⟩ = some (.map (some (w.heap.size + 1))) ∧ (setBlock (((w.setCell ⟨p, 1, none⟩ (.map (some (w.heap.size + 1)))).alloc (Obj.cells #[.int .i64 k, .int .u64 ot, .int .u64 x, .int .i64 sl, .bool use, .int .i64 by_, .int .i64 nth, .int .u64 t, .int .i64 r, rd] 57)).alloc (.map #[] 0)).drew (w.heap.size + 1) (.map es' c')).cell? ⟨w.heap.size, 7, none⟩ = some (.int .u64 t) ∧ (setBlock (((w.setCell ⟨p, 1, none⟩ (.map (some (w.heap.size + 1)))).alloc (Obj.cells #[.int .i64 k, .int .u64 ot, .int .u64 x, .int .i64 sl, .bool use, .int .i64 by_, .int .i64 nth, .int .u64 t, .int .i64 r, rd] 57)).alloc (.map #[] 0)).drew (w.heap.size + 1) (.map es' c')).cell? ⟨w.heap.size, 2, none⟩ = some (.int .u64 x)) :=
    ⟨(cell_setBlock hbb _ (by omega)).trans hP6.c1, (cell_setBlock hbb _ (by omega)).trans (cell_in hbox rfl), (cell_setBlock hbb _ (by omega)).trans (cell_in hbox rfl)⟩
  have HS0 : Hid ((((w.setCell ⟨p, 1, none⟩ (.map (some (w.heap.size + 1)))).alloc (Obj.cells #[.int .i64 k, .int .u64 ot, .int .u64 x, .int .i64 sl, .bool use, .int .i64 by_, .int .i64 nth, .int .u64 t, .int .i64 r, rd] 57)).alloc (.map #[] 0)).drew.cell? ⟨p, 1, none⟩ = some (.map (some (w.heap.size + 1))) ∧ (((w.setCell ⟨p, 1, none⟩ (.map (some (w.heap.size + 1)))).alloc (Obj.cells #[.int .i64 k, .int .u64 ot, .int .u64 x, .int .i64 sl, .bool use, .int .i64 by_, .int .i64 nth, .int .u64 t, .int .i64 r, rd] 57)).alloc (.map #[] 0)).drew.cell? ⟨w.heap.size, 7, none⟩ = some (.int .u64 t) ∧ (((w.setCell ⟨p, 1, none⟩ (.map (some (w.heap.size + 1)))).alloc (Obj.cells #[.int .i64 k, .int .u64 ot, .int .u64 x, .int .i64 sl, .bool use, .int .i64 by_, .int .i64 nth, .int .u64 t, .int .i64 r, rd] 57)).alloc (.map #[] 0)).drew.cell? ⟨w.heap.size, 2, none⟩ = some (.int .u64 x)) :=
    ⟨hP6.c1, cell_in hbox rfl, cell_in hbox rfl⟩
  have hP := h.below ((Below.refl w.heap.size w).alloc (Nat.le_refl _) (Obj.cells #[.int .i64 k, .int .u64 ot, .int .u64 x, .int .i64 sl, .bool use, .int .i64 by_, .int .i64 nth, .int .u64 t, .int .i64 r, rd] 57))
  have hc1 := hP.c1
  have hf1 := hP.fr 1
  have qe := eql_live
  have hmm := @run_makeMap Try.prog
  clear h hP6 hbox hL' hbb hP
  rcases hn with rfl | rfl
  all_goals
    go_enter Try.func116, Try.ntmps116
    go_wp2
    go_region_held3 (fun w' => w'.cell? ⟨p, 1, none⟩ = some (.map (some (w.heap.size + 1))) ∧ w'.cell? ⟨w.heap.size, 7, none⟩ = some (.int .u64 t) ∧ w'.cell? ⟨w.heap.size, 2, none⟩ = some (.int .u64 x)) (first | exact HS0.out | exact HS.out | go_keep) (fail)
    go_wp2
    go_end0
    exact ⟨rfl, HF.out⟩

set_option maxRecDepth 100000 in
set_option maxHeartbeats 1600000 in
theorem change_kill_none (k ot x sl by_ nth t r : Int) (use : Bool) (rd : Value) (bl : Nat) (h : PoolAt w p ws (some bl) none L D) :
    Calls Try.prog 116 #[.pointer (some ⟨p, 0, none⟩), .int .i64 2, (Ans.mk k ot x sl by_ nth t r use rd).val] w fun e w' => e = .returned (.tuple #[]) ∧ Changed w p ws (some bl) none (delN t L) (addD t D) w' := by
  unfold Ans.val
  simp only
  have hpl := h.lt
  have hll := h.live_lt rfl
  have hP6 : PoolAt (((w.setCell ⟨p, 2, none⟩ (.map (some (w.heap.size + 1)))).alloc (Obj.cells #[.int .i64 k, .int .u64 ot, .int .u64 x, .int .i64 sl, .bool use, .int .i64 by_, .int .i64 nth, .int .u64 t, .int .i64 r, rd] 57)).alloc (.map #[] 0)).drew p ws (some bl) (some (w.heap.size + 1)) L D := (h.make_dead (Obj.cells #[.int .i64 k, .int .u64 ot, .int .u64 x, .int .i64 sl, .bool use, .int .i64 by_, .int .i64 nth, .int .u64 t, .int .i64 r, rd] 57)).drew
  have hbox : (((w.setCell ⟨p, 2, none⟩ (.map (some (w.heap.size + 1)))).alloc (Obj.cells #[.int .i64 k, .int .u64 ot, .int .u64 x, .int .i64 sl, .bool use, .int .i64 by_, .int .i64 nth, .int .u64 t, .int .i64 r, rd] 57)).alloc (.map #[] 0)).heap[w.heap.size]? = some (Obj.cells #[.int .i64 k, .int .u64 ot, .int .u64 x, .int .i64 sl, .bool use, .int .i64 by_, .int .i64 nth, .int .u64 t, .int .i64 r, rd] 57) := box_live w (i := 2) (v := .map (some (w.heap.size + 1))) hpl (Obj.cells #[.int .i64 k, .int .u64 ot, .int .u64 x, .int .i64 sl, .bool use, .int .i64 by_, .int .i64 nth, .int .u64 t, .int .i64 r, rd] 57) (.map #[] 0)
  obtain ⟨es1, c1, hr1, hL1⟩ := run_del keys64 Try.underlying157 (hP6.live : MapAt _ bl _ _) t 0
  rw [del_LV] at hL1
  have hP7 : PoolAt (setBlock (((w.setCell ⟨p, 2, none⟩ (.map (some (w.heap.size + 1)))).alloc (Obj.cells #[.int .i64 k, .int .u64 ot, .int .u64 x, .int .i64 sl, .bool use, .int .i64 by_, .int .i64 nth, .int .u64 t, .int .i64 r, rd] 57)).alloc (.map #[] 0)).drew bl (.map es1 c1)).drew p ws (some bl) (some (w.heap.size + 1)) (delN t L) D := (hP6.set_live (c' := c1) hL1).drew
  obtain ⟨es2, c2, hr2, hL2⟩ := run_upd keys64 Try.underlying158 (hP7.dead : MapAt _ ((w.heap.size + 1)) _ _) t (.bool true)
  rw [upd_DV] at hL2
  obtain ⟨ea, ca, hba, _⟩ := (hP6.live : MapAt _ bl _ _)
  obtain ⟨eb, cb, hbb, _⟩ := (hP7.dead : MapAt _ ((w.heap.size + 1)) _ _)
  have hne := hP6.ne bl rfl
  have hdl := hP6.dead_lt rfl
  have hdb : (w.heap.size + 1) ≠ w.heap.size := by omega
  have HF : Hid (Changed w p ws (some bl) none (delN t L) (addD t D) (setBlock (setBlock (((w.setCell ⟨p, 2, none⟩ (.map (some (w.heap.size + 1)))).alloc (Obj.cells #[.int .i64 k, .int .u64 ot, .int .u64 x, .int .i64 sl, .bool use, .int .i64 by_, .int .i64 nth, .int .u64 t, .int .i64 r, rd] 57)).alloc (.map #[] 0)).drew bl (.map es1 c1)).drew (w.heap.size + 1) (.map es2 c2))) :=
    ⟨some bl, some ((w.heap.size + 1)), hP7.set_dead hL2, Keeps.setBlock (Keeps.setBlock ((((Keeps.refl _ _).setCell _ (.inl (.inl rfl))).alloc _).alloc _).drew hba _ (.inl (.inr (.inl rfl)))).drew hbb _ (.inr (by omega)), (fun _ e => .inl e), (fun _ e => .inr (by injection e; omega))⟩
  have HS0 : Hid ((((w.setCell ⟨p, 2, none⟩ (.map (some (w.heap.size + 1)))).alloc (Obj.cells #[.int .i64 k, .int .u64 ot, .int .u64 x, .int .i64 sl, .bool use, .int .i64 by_, .int .i64 nth, .int .u64 t, .int .i64 r, rd] 57)).alloc (.map #[] 0)).drew.cell? ⟨p, 1, none⟩ = some (.map (some bl)) ∧ (((w.setCell ⟨p, 2, none⟩ (.map (some (w.heap.size + 1)))).alloc (Obj.cells #[.int .i64 k, .int .u64 ot, .int .u64 x, .int .i64 sl, .bool use, .int .i64 by_, .int .i64 nth, .int .u64 t, .int .i64 r, rd] 57)).alloc (.map #[] 0)).drew.cell? ⟨w.heap.size, 7, none⟩ = some (.int .u64 t)) := ⟨hP6.c1, cell_in hbox rfl⟩
  have HS1 : Hid ((setBlock (((w.setCell ⟨p, 2, none⟩ (.map (some (w.heap.size + 1)))).alloc (Obj.cells #[.int .i64 k, .int .u64 ot, .int .u64 x, .int .i64 sl, .bool use, .int .i64 by_, .int .i64 nth, .int .u64 t, .int .i64 r, rd] 57)).alloc (.map #[] 0)).drew bl (.map es1 c1)).cell? ⟨p, 1, none⟩ = some (.map (some bl)) ∧ (setBlock (((w.setCell ⟨p, 2, none⟩ (.map (some (w.heap.size + 1)))).alloc (Obj.cells #[.int .i64 k, .int .u64 ot, .int .u64 x, .int .i64 sl, .bool use, .int .i64 by_, .int .i64 nth, .int .u64 t, .int .i64 r, rd] 57)).alloc (.map #[] 0)).drew bl (.map es1 c1)).cell? ⟨w.heap.size, 7, none⟩ = some (.int .u64 t)) :=
    ⟨(cell_setBlock hba _ (Ne.symm hll.2)).trans hP6.c1, (cell_setBlock hba _ (by omega)).trans (cell_in hbox rfl)⟩
  have HT0 : Hid ((setBlock (((w.setCell ⟨p, 2, none⟩ (.map (some (w.heap.size + 1)))).alloc (Obj.cells #[.int .i64 k, .int .u64 ot, .int .u64 x, .int .i64 sl, .bool use, .int .i64 by_, .int .i64 nth, .int .u64 t, .int .i64 r, rd] 57)).alloc (.map #[] 0)).drew bl (.map es1 c1)).drew.cell? ⟨p, 2, none⟩ = some (.map (some ((w.heap.size + 1)))) ∧ (setBlock (((w.setCell ⟨p, 2, none⟩ (.map (some (w.heap.size + 1)))).alloc (Obj.cells #[.int .i64 k, .int .u64 ot, .int .u64 x, .int .i64 sl, .bool use, .int .i64 by_, .int .i64 nth, .int .u64 t, .int .i64 r, rd] 57)).alloc (.map #[] 0)).drew bl (.map es1 c1)).drew.cell? ⟨w.heap.size, 7, none⟩ = some (.int .u64 t)) := ⟨hP7.c2, (cell_setBlock hba _ (by omega)).trans (cell_in hbox rfl)⟩
  have HT1 : Hid ((setBlock (setBlock (((w.setCell ⟨p, 2, none⟩ (.map (some (w.heap.size + 1)))).alloc (Obj.cells #[.int .i64 k, .int .u64 ot, .int .u64 x, .int .i64 sl, .bool use, .int .i64 by_, .int .i64 nth, .int .u64 t, .int .i64 r, rd] 57)).alloc (.map #[] 0)).drew bl (.map es1 c1)).drew (w.heap.size + 1) (.map es2 c2)).cell? ⟨p, 2, none⟩ = some (.map (some ((w.heap.size + 1)))) ∧ (setBlock (setBlock (((w.setCell ⟨p, 2, none⟩ (.map (some (w.heap.size + 1)))).alloc (Obj.cells #[.int .i64 k, .int .u64 ot, .int .u64 x, .int .i64 sl, .bool use, .int .i64 by_, .int .i64 nth, .int .u64 t, .int .i64 r, rd] 57)).alloc (.map #[] 0)).drew bl (.map es1 c1)).drew (w.heap.size + 1) (.map es2 c2)).cell? ⟨w.heap.size, 7, none⟩ = some (.int .u64 t)) :=
    ⟨(cell_setBlock hbb _ (Ne.symm hdl.2)).trans hP7.c2, (cell_setBlock hbb _ (Ne.symm hdb)).trans ((cell_setBlock hba _ (by omega)).trans (cell_in hbox rfl))⟩
  have hP := h.below ((Below.refl w.heap.size w).alloc (Nat.le_refl _) (Obj.cells #[.int .i64 k, .int .u64 ot, .int .u64 x, .int .i64 sl, .bool use, .int .i64 by_, .int .i64 nth, .int .u64 t, .int .i64 r, rd] 57))
  have hc1 := hP.c1
  have hc2 := hP.c2
  have hf1 := hP.fr 2
  have qe := eql_dead
  have hmm := @run_makeMap Try.prog
  clear h hP6 hP7 hbox hL1 hL2 hba hbb hP hne hdl hdb
  go_enter Try.func116, Try.ntmps116
  go_wp2
  go_region_held3 (fun w' => w'.cell? ⟨p, 1, none⟩ = some (.map (some bl)) ∧ w'.cell? ⟨w.heap.size, 7, none⟩ = some (.int .u64 t)) (first | exact HS0.out | exact HS1.out | go_keep) (fail)
  go_wp2
  go_region_held3 (fun w' => w'.cell? ⟨p, 2, none⟩ = some (.map (some ((w.heap.size + 1)))) ∧ w'.cell? ⟨w.heap.size, 7, none⟩ = some (.int .u64 t)) (first | exact HT0.out | exact HT1.out | go_keep) (fail)
  go_wp2
  go_end0
  exact ⟨rfl, HF.out⟩

set_option maxRecDepth 100000 in
theorem change_kill_some (k ot x sl by_ nth t r : Int) (use : Bool) (rd : Value) (bl : Nat) (bd : Nat) (h : PoolAt w p ws (some bl) (some bd) L D) :
    Calls Try.prog 116 #[.pointer (some ⟨p, 0, none⟩), .int .i64 2, (Ans.mk k ot x sl by_ nth t r use rd).val] w fun e w' => e = .returned (.tuple #[]) ∧ Changed w p ws (some bl) (some bd) (delN t L) (addD t D) w' := by
  unfold Ans.val
  simp only
  have hpl := h.lt
  have hll := h.live_lt rfl
  have hP6 : PoolAt (w.alloc (Obj.cells #[.int .i64 k, .int .u64 ot, .int .u64 x, .int .i64 sl, .bool use, .int .i64 by_, .int .i64 nth, .int .u64 t, .int .i64 r, rd] 57)).drew p ws (some bl) (some bd) L D := (h.below ((Below.refl w.heap.size w).alloc (Nat.le_refl _) (Obj.cells #[.int .i64 k, .int .u64 ot, .int .u64 x, .int .i64 sl, .bool use, .int .i64 by_, .int .i64 nth, .int .u64 t, .int .i64 r, rd] 57))).drew
  have hbox : (w.alloc (Obj.cells #[.int .i64 k, .int .u64 ot, .int .u64 x, .int .i64 sl, .bool use, .int .i64 by_, .int .i64 nth, .int .u64 t, .int .i64 r, rd] 57)).heap[w.heap.size]? = some (Obj.cells #[.int .i64 k, .int .u64 ot, .int .u64 x, .int .i64 sl, .bool use, .int .i64 by_, .int .i64 nth, .int .u64 t, .int .i64 r, rd] 57) := heap_alloc1 w (Obj.cells #[.int .i64 k, .int .u64 ot, .int .u64 x, .int .i64 sl, .bool use, .int .i64 by_, .int .i64 nth, .int .u64 t, .int .i64 r, rd] 57)
  obtain ⟨es1, c1, hr1, hL1⟩ := run_del keys64 Try.underlying157 (hP6.live : MapAt _ bl _ _) t 0
  rw [del_LV] at hL1
  have hP7 : PoolAt (setBlock (w.alloc (Obj.cells #[.int .i64 k, .int .u64 ot, .int .u64 x, .int .i64 sl, .bool use, .int .i64 by_, .int .i64 nth, .int .u64 t, .int .i64 r, rd] 57)).drew bl (.map es1 c1)).drew p ws (some bl) (some bd) (delN t L) D := (hP6.set_live (c' := c1) hL1).drew
  obtain ⟨es2, c2, hr2, hL2⟩ := run_upd keys64 Try.underlying158 (hP7.dead : MapAt _ (bd) _ _) t (.bool true)
  rw [upd_DV] at hL2
  obtain ⟨ea, ca, hba, _⟩ := (hP6.live : MapAt _ bl _ _)
  obtain ⟨eb, cb, hbb, _⟩ := (hP7.dead : MapAt _ (bd) _ _)
  have hne := hP6.ne bl rfl
  have hdl := hP6.dead_lt rfl
  have hdb : bd ≠ w.heap.size := by have := (h.dead_lt rfl).1; omega
  have HF : Hid (Changed w p ws (some bl) (some bd) (delN t L) (addD t D) (setBlock (setBlock (w.alloc (Obj.cells #[.int .i64 k, .int .u64 ot, .int .u64 x, .int .i64 sl, .bool use, .int .i64 by_, .int .i64 nth, .int .u64 t, .int .i64 r, rd] 57)).drew bl (.map es1 c1)).drew bd (.map es2 c2))) :=
    ⟨some bl, some (bd), hP7.set_dead hL2, Keeps.setBlock (Keeps.setBlock ((Keeps.refl _ _).alloc _).drew hba _ (.inl (.inr (.inl rfl)))).drew hbb _ (.inl (.inr (.inr rfl))), (fun _ e => .inl e), (fun _ e => .inl e)⟩
  have HS0 : Hid ((w.alloc (Obj.cells #[.int .i64 k, .int .u64 ot, .int .u64 x, .int .i64 sl, .bool use, .int .i64 by_, .int .i64 nth, .int .u64 t, .int .i64 r, rd] 57)).drew.cell? ⟨p, 1, none⟩ = some (.map (some bl)) ∧ (w.alloc (Obj.cells #[.int .i64 k, .int .u64 ot, .int .u64 x, .int .i64 sl, .bool use, .int .i64 by_, .int .i64 nth, .int .u64 t, .int .i64 r, rd] 57)).drew.cell? ⟨w.heap.size, 7, none⟩ = some (.int .u64 t)) := ⟨hP6.c1, cell_in hbox rfl⟩
  have HS1 : Hid ((setBlock (w.alloc (Obj.cells #[.int .i64 k, .int .u64 ot, .int .u64 x, .int .i64 sl, .bool use, .int .i64 by_, .int .i64 nth, .int .u64 t, .int .i64 r, rd] 57)).drew bl (.map es1 c1)).cell? ⟨p, 1, none⟩ = some (.map (some bl)) ∧ (setBlock (w.alloc (Obj.cells #[.int .i64 k, .int .u64 ot, .int .u64 x, .int .i64 sl, .bool use, .int .i64 by_, .int .i64 nth, .int .u64 t, .int .i64 r, rd] 57)).drew bl (.map es1 c1)).cell? ⟨w.heap.size, 7, none⟩ = some (.int .u64 t)) :=
    ⟨(cell_setBlock hba _ (Ne.symm hll.2)).trans hP6.c1, (cell_setBlock hba _ (by omega)).trans (cell_in hbox rfl)⟩
  have HT0 : Hid ((setBlock (w.alloc (Obj.cells #[.int .i64 k, .int .u64 ot, .int .u64 x, .int .i64 sl, .bool use, .int .i64 by_, .int .i64 nth, .int .u64 t, .int .i64 r, rd] 57)).drew bl (.map es1 c1)).drew.cell? ⟨p, 2, none⟩ = some (.map (some (bd))) ∧ (setBlock (w.alloc (Obj.cells #[.int .i64 k, .int .u64 ot, .int .u64 x, .int .i64 sl, .bool use, .int .i64 by_, .int .i64 nth, .int .u64 t, .int .i64 r, rd] 57)).drew bl (.map es1 c1)).drew.cell? ⟨w.heap.size, 7, none⟩ = some (.int .u64 t)) := ⟨hP7.c2, (cell_setBlock hba _ (by omega)).trans (cell_in hbox rfl)⟩
  have HT1 : Hid ((setBlock (setBlock (w.alloc (Obj.cells #[.int .i64 k, .int .u64 ot, .int .u64 x, .int .i64 sl, .bool use, .int .i64 by_, .int .i64 nth, .int .u64 t, .int .i64 r, rd] 57)).drew bl (.map es1 c1)).drew bd (.map es2 c2)).cell? ⟨p, 2, none⟩ = some (.map (some (bd))) ∧ (setBlock (setBlock (w.alloc (Obj.cells #[.int .i64 k, .int .u64 ot, .int .u64 x, .int .i64 sl, .bool use, .int .i64 by_, .int .i64 nth, .int .u64 t, .int .i64 r, rd] 57)).drew bl (.map es1 c1)).drew bd (.map es2 c2)).cell? ⟨w.heap.size, 7, none⟩ = some (.int .u64 t)) :=
    ⟨(cell_setBlock hbb _ (Ne.symm hdl.2)).trans hP7.c2, (cell_setBlock hbb _ (Ne.symm hdb)).trans ((cell_setBlock hba _ (by omega)).trans (cell_in hbox rfl))⟩
  have hP := h.below ((Below.refl w.heap.size w).alloc (Nat.le_refl _) (Obj.cells #[.int .i64 k, .int .u64 ot, .int .u64 x, .int .i64 sl, .bool use, .int .i64 by_, .int .i64 nth, .int .u64 t, .int .i64 r, rd] 57))
  have hc1 := hP.c1
  have hc2 := hP.c2
  have hf1 := hP.fr 2
  have qe := eql_dead
  have hmm := @run_makeMap Try.prog
  clear h hP6 hP7 hbox hL1 hL2 hba hbb hP hne hdl hdb
  go_enter Try.func116, Try.ntmps116
  go_wp2
  go_region_held3 (fun w' => w'.cell? ⟨p, 1, none⟩ = some (.map (some bl)) ∧ w'.cell? ⟨w.heap.size, 7, none⟩ = some (.int .u64 t)) (first | exact HS0.out | exact HS1.out | go_keep) (fail)
  go_wp2
  go_region_held3 (fun w' => w'.cell? ⟨p, 2, none⟩ = some (.map (some (bd))) ∧ w'.cell? ⟨w.heap.size, 7, none⟩ = some (.int .u64 t)) (first | exact HT0.out | exact HT1.out | go_keep) (fail)
  go_wp2
  go_end0
  exact ⟨rfl, HF.out⟩

theorem change_none (n : Int) (h1 : ¬ n = 1) (h2 : ¬ n = 2) (h3 : ¬ n = 3) (a : Ans) (h : PoolAt w p ws ml md L D) :
    Calls Try.prog 116 #[.pointer (some ⟨p, 0, none⟩), .int .i64 n, a.val] w fun e w' => e = .returned (.tuple #[]) ∧ Changed w p ws ml md L D w' := by
  obtain ⟨k, ot, x, sl, by_, nth, t, r, use, rd⟩ := a
  unfold Ans.val
  simp only
  have e1 : (n == 1) = false := by simpa using h1
  have e2 : (n == 2) = false := by simpa using h2
  have e3 : (n == 3) = false := by simpa using h3
  have HF : Hid (Changed w p ws ml md L D (w.alloc (Obj.cells #[.int .i64 k, .int .u64 ot, .int .u64 x, .int .i64 sl, .bool use, .int .i64 by_, .int .i64 nth, .int .u64 t, .int .i64 r, rd] 57))) := ⟨ml, md, h.below ((Below.refl w.heap.size w).alloc (Nat.le_refl _) (Obj.cells #[.int .i64 k, .int .u64 ot, .int .u64 x, .int .i64 sl, .bool use, .int .i64 by_, .int .i64 nth, .int .u64 t, .int .i64 r, rd] 57)), (Keeps.refl _ _).alloc _, fun _ e => .inl e, fun _ e => .inl e⟩
  clear h h1 h2 h3
  go_enter Try.func116, Try.ntmps116
  go_wp2
  go_end0
  exact ⟨rfl, HF.out⟩
end
end Go.Proofs.Ytgpdkagmacpghaa.Idl

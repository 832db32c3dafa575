/- The state of a worker as a record; its cells; its lists as lists. -/
import Derived.Test.YtgpdkagmacpghaaGreatApp
import Derived.Test.YtgpdkagmacpghaaGreatRows2
import Derived.Deep.WholeRow
import Derived.WalkLawsBesides
import Derived.WalkSpells
import Derived.Test.YtgpdkagmacpghaaGreatPlans
import Derived.Test.YtgpdkagmacpghaaGreatGrow
import Derived.Test.YtgpdkagmacpghaaGreatBk
import Derived.Test.YtgpdkagmacpghaaGreatGrowTail
import Derived.Laws.Rows
import Derived.Deep.RegionHeld3
namespace Go.Proofs.YtgpdkagmacpghaaGreat.Wo
open Go Go.RowKit Go.Proofs.YtgpdkagmacpghaaGreat.Gro Go.Proofs.YtgpdkagmacpghaaGreat.Own Go.Proofs.YtgpdkagmacpghaaGreat.Wd Go.Proofs.YtgpdkagmacpghaaGreat.Ap
set_option linter.unusedVariables false
set_option linter.unusedSimpArgs false

structure Pl where
  (ln o0 o1 o2 o3 : Int) (o4 : Bool) (o5 o6 : Int) (pn : Bool) (ep t0 t1 t2 : Int)
  (b k i c br h n v u g j t rt : Int) (gv : Bool)
  deriving DecidableEq
structure Wk where
  (p : Pl) (rk l0 l1 l2 hl rd : Sl)
def wc (s : Wk) : Array Value := #[.int .i64 s.p.ln, .int .i64 s.p.o0, .int .u64 s.p.o1, .int .u64 s.p.o2, .int .i64 s.p.o3, .bool s.p.o4, .int .i64 s.p.o5, .int .i64 s.p.o6, .bool s.p.pn, .int .u64 s.p.ep, s.rk.v,
  .int .u64 s.p.t0, s.l0.v, .int .u64 s.p.t1, s.l1.v, .int .u64 s.p.t2, s.l2.v, s.hl.v,
  .int .i64 s.p.b, .int .i64 s.p.k, .int .i64 s.p.i, .int .i64 s.p.c, .int .i64 s.p.br, .int .u64 s.p.h, .int .u64 s.p.n, .int .u64 s.p.v, .int .u64 s.p.u, .int .u64 s.p.g, .int .i64 s.p.j, s.rd.v, .int .u64 s.p.t, .int .i64 s.p.rt, .bool s.p.gv]
def pz : Pl := ⟨0, 0, 0, 0, 0, false, 0, 0, false, 0, 0, 0, 0, 0, 0, 0, 0, 0, 0, 0, 0, 0, 0, 0, 0, 0, false⟩
def wz : Wk := ⟨pz, nilS, nilS, nilS, nilS, nilS, nilS⟩
abbrev wv (s : Wk) : Value := .agg (wc s)
theorem wc_size (s : Wk) : (wc s).size = 33 := rfl
/-- A state as data. -/
structure St where
  (p : Pl) (rk l0 l1 l2 hl rd : List Int)
  deriving DecidableEq
structure Lies (w : World) (s : Wk) (x : St) : Prop where
  p : s.p = x.p
  rk : Reads w .i64 s.rk.v x.rk
  l0 : Reads w .i64 s.l0.v x.l0
  l1 : Reads w .i64 s.l1.v x.l1
  l2 : Reads w .i64 s.l2.v x.l2
  hl : Reads w .i64 s.hl.v x.hl
  rd : Reads w .u64 s.rd.v x.rd
theorem Lies.keep {w w' : World} {s : Wk} {x : St} (h : Lies w s x) (hb : Below w.heap.size w w') : Lies w' s x :=
  ⟨h.p, h.rk.keep hb, h.l0.keep hb, h.l1.keep hb, h.l2.keep hb, h.hl.keep hb, h.rd.keep hb⟩
structure Few (m : Nat) (x : St) : Prop where
  rk : x.rk.length ≤ m
  l0 : x.l0.length ≤ m
  l1 : x.l1.length ≤ m
  l2 : x.l2.length ≤ m
  hl : x.hl.length ≤ m
  rd : x.rd.length ≤ m
theorem set_rk (s : Wk) (y : Sl) : (wc s).setIfInBounds 10 y.v = wc { s with rk := y } := rfl
theorem set_l0 (s : Wk) (y : Sl) : (wc s).setIfInBounds 12 y.v = wc { s with l0 := y } := rfl
theorem set_l1 (s : Wk) (y : Sl) : (wc s).setIfInBounds 14 y.v = wc { s with l1 := y } := rfl
theorem set_l2 (s : Wk) (y : Sl) : (wc s).setIfInBounds 16 y.v = wc { s with l2 := y } := rfl
theorem set_hl (s : Wk) (y : Sl) : (wc s).setIfInBounds 17 y.v = wc { s with hl := y } := rfl
theorem set_rd (s : Wk) (y : Sl) : (wc s).setIfInBounds 29 y.v = wc { s with rd := y } := rfl
theorem infoI : ∃ i, Tryz.prog.info? 3 = some i ∧ i.zero = some (.int .i64 0) ∧ i.size = 1 ∧ i.bytes = 8 := by
  have h : (Tryz.prog.info? 3).map (fun i => (i.zero, i.size, i.bytes)) = some (some (.int .i64 0), 1, 8) := by kernel_rfl
  exact info_parts h
theorem infoU : ∃ i, Tryz.prog.info? 22 = some i ∧ i.zero = some (.int .u64 0) ∧ i.size = 1 ∧ i.bytes = 8 := by
  have h : (Tryz.prog.info? 22).map (fun i => (i.zero, i.size, i.bytes)) = some (some (.int .u64 0), 1, 8) := by kernel_rfl
  exact info_parts h
theorem elemI : Elem Tryz.prog 27 3 1 8 := ⟨Tryz.underlying27, by
  obtain ⟨i, h1, h2, h3, h4⟩ := infoI
  exact ⟨i, _, h1, h2, h3, h4, rfl⟩, by decide, by decide⟩
theorem elemU : Elem Tryz.prog 31 22 1 8 := ⟨Tryz.underlying31, by
  obtain ⟨i, h1, h2, h3, h4⟩ := infoU
  exact ⟨i, _, h1, h2, h3, h4, rfl⟩, by decide, by decide⟩
/-- A list in memory of its own, from block B on. -/
def Owned (B : Nat) (w : World) (k : IntKind) (t : TypeId) (y : Sl) (l : List Int) : Prop := w.ownsRow B t 1 y.v l.length (l.map (.int k))
theorem ownsRow_setRow_below {w : World} {base : Nat} {e : TypeId} {size : Nat} {v : Value} {n : Nat} {xs : List Value} (h : w.ownsRow base e size v n xs) {g : Nat} (hg : g < base) (cs : Array Value) : (w.setRow g cs).ownsRow base e size v n xs := by
  refine ⟨h.1, ?_⟩
  rcases h.2 with h0 | ⟨g', cap, cur, he, hge, hh, rest⟩
  · exact .inl h0
  · exact .inr ⟨g', cap, cur, he, hge, (setRow_other w g g' cs (by omega)).trans hh, rest⟩
section
variable {B : Nat} {w : World} {k : IntKind} {t : TypeId} {y : Sl} {l : List Int}
theorem Owned.reads (h : Owned B w k t y l) : Reads w k y.v l := Reads.of_own h rfl
theorem Owned.keep {w' : World} (h : Owned B w k t y l) (hb : Below w.heap.size w w') : Owned B w' k t y l := owns_below h hb (fun g hg => (World.ownsRow.lt h g hg).2)
theorem Owned.base {B' : Nat} (h : Owned B w k t y l) (hb : B' ≤ B) : Owned B' w k t y l := by
  refine ⟨h.1, ?_⟩
  rcases h.2 with h0 | ⟨g, cap, cur, he, hge, rest⟩
  · exact .inl h0
  · exact .inr ⟨g, cap, cur, he, Nat.le_trans hb hge, rest⟩
theorem Owned.setCell (h : Owned B w k t y l) {g : Nat} (hg : g < B) (j : Nat) (v : Value) : Owned B (w.setCell ⟨g, j, none⟩ v) k t y l := ownsRow_setCell_below h (a := ⟨g, j, none⟩) hg v
theorem Owned.setRow (h : Owned B w k t y l) {g : Nat} (hg : g < B) (cs : Array Value) : Owned B (w.setRow g cs) k t y l := ownsRow_setRow_below h hg cs
theorem Owned.nil : Owned B w k t nilS [] := World.ownsRow_nil _ _ _ _
/-- .. without room to spare. -/
def Fresh (B : Nat) (w : World) (k : IntKind) (t : TypeId) (y : Sl) (l : List Int) : Prop := y.cap = y.len ∧ Owned B w k t y l
theorem Fresh.reads (h : Fresh B w k t y l) : Reads w k y.v l := h.2.reads
theorem Fresh.keep {w' : World} (h : Fresh B w k t y l) (hb : Below w.heap.size w w') : Fresh B w' k t y l := ⟨h.1, h.2.keep hb⟩
theorem Fresh.base {B' : Nat} (h : Fresh B w k t y l) (hb : B' ≤ B) : Fresh B' w k t y l := ⟨h.1, h.2.base hb⟩
theorem Fresh.setCell (h : Fresh B w k t y l) {g : Nat} (hg : g < B) (j : Nat) (v : Value) : Fresh B (w.setCell ⟨g, j, none⟩ v) k t y l := ⟨h.1, h.2.setCell hg j v⟩
theorem Fresh.setRow (h : Fresh B w k t y l) {g : Nat} (hg : g < B) (cs : Array Value) : Fresh B (w.setRow g cs) k t y l := ⟨h.1, h.2.setRow hg cs⟩
theorem Fresh.nil : Fresh B w k t nilS [] := ⟨rfl, Owned.nil⟩
end
/-- A list that reads, in memory from block B on. -/
def RdF (B : Nat) (w : World) (k : IntKind) (y : Sl) (l : List Int) : Prop := Reads w k y.v l ∧ (l = [] ∨ ∀ a, y.ad = some a → B ≤ a.block)
section
variable {B : Nat} {w : World} {k : IntKind} {t : TypeId} {y : Sl} {l : List Int}
theorem Owned.rdF (h : Owned B w k t y l) : RdF B w k y l := by
  refine ⟨h.reads, .inr fun a ha => ?_⟩
  rcases h.2 with ⟨he, _⟩ | ⟨g, cap, cur, he, hge, _⟩
  · simp only [Sl.v, Value.slice.injEq] at he; rw [he.1] at ha; cases ha
  · simp only [Sl.v, Value.slice.injEq] at he; rw [he.1] at ha; cases ha; exact hge
theorem Fresh.rdF (h : Fresh B w k t y l) : RdF B w k y l := h.2.rdF
theorem RdF.base {B' : Nat} (h : RdF B w k y l) (hb : B' ≤ B) : RdF B' w k y l := ⟨h.1, h.2.imp id fun f a ha => Nat.le_trans hb (f a ha)⟩
theorem RdF.keep {w' : World} (h : RdF B w k y l) (hb : Below w.heap.size w w') : RdF B w' k y l := ⟨h.1.keep hb, h.2⟩
theorem RdF.far {w' : World} (h : RdF B w k y l) (hs : w.heap.size ≤ w'.heap.size) (hc : ∀ b o, B ≤ b → w'.cell? ⟨b, o, none⟩ = w.cell? ⟨b, o, none⟩) : RdF B w' k y l := by
  obtain ⟨⟨ad, cap, he, h1, h2, h3⟩, hf⟩ := h
  refine ⟨⟨ad, cap, he, h1, h2, ?_⟩, hf⟩
  rcases h3 with h3 | ⟨b, off, rfl, hlt, h3⟩
  · exact .inl h3
  · rcases hf with hf | hf
    · exact .inl hf
    · simp only [Sl.v, Value.slice.injEq] at he
      exact .inr ⟨b, off, rfl, Nat.lt_of_lt_of_le hlt hs, fun i hi => (hc _ _ (hf _ he.1)).trans (h3 i hi)⟩
theorem RdF.setRow (h : RdF B w k y l) {g : Nat} (hg : g < B) (cs : Array Value) : RdF B (w.setRow g cs) k y l :=
  h.far (by simp) fun b o hb => World.cell?_of_block (setRow_other w g b cs (by omega))
theorem RdF.setCell (h : RdF B w k y l) {g : Nat} (hg : g < B) (j : Nat) (v : Value) : RdF B (w.setCell ⟨g, j, none⟩ v) k y l :=
  h.far (by simp) fun b o hb => World.cell?_of_block (heap_setCell_other w _ b v (show b ≠ g by omega))
end
structure LiesF (B : Nat) (w : World) (s : Wk) (x : St) : Prop where
  p : s.p = x.p
  rk : RdF B w .i64 s.rk x.rk
  l0 : RdF B w .i64 s.l0 x.l0
  l1 : RdF B w .i64 s.l1 x.l1
  l2 : RdF B w .i64 s.l2 x.l2
  hl : RdF B w .i64 s.hl x.hl
  rd : RdF B w .u64 s.rd x.rd
section
variable {B : Nat} {w : World} {s : Wk} {x : St}
theorem LiesF.lies (h : LiesF B w s x) : Lies w s x := ⟨h.p, h.rk.1, h.l0.1, h.l1.1, h.l2.1, h.hl.1, h.rd.1⟩
theorem LiesF.base {B' : Nat} (h : LiesF B w s x) (hb : B' ≤ B) : LiesF B' w s x := ⟨h.p, h.rk.base hb, h.l0.base hb, h.l1.base hb, h.l2.base hb, h.hl.base hb, h.rd.base hb⟩
theorem LiesF.keep {w' : World} (h : LiesF B w s x) (hb : Below w.heap.size w w') : LiesF B w' s x := ⟨h.p, h.rk.keep hb, h.l0.keep hb, h.l1.keep hb, h.l2.keep hb, h.hl.keep hb, h.rd.keep hb⟩
theorem LiesF.setRow (h : LiesF B w s x) {g : Nat} (hg : g < B) (cs : Array Value) : LiesF B (w.setRow g cs) s x := ⟨h.p, h.rk.setRow hg cs, h.l0.setRow hg cs, h.l1.setRow hg cs, h.l2.setRow hg cs, h.hl.setRow hg cs, h.rd.setRow hg cs⟩
theorem LiesF.setCell (h : LiesF B w s x) {g : Nat} (hg : g < B) (j : Nat) (v : Value) : LiesF B (w.setCell ⟨g, j, none⟩ v) s x := ⟨h.p, h.rk.setCell hg j v, h.l0.setCell hg j v, h.l1.setCell hg j v, h.l2.setCell hg j v, h.hl.setCell hg j v, h.rd.setCell hg j v⟩
end
theorem copied (k : IntKind) (l : List Int) (n : Nat) (hn : n = l.length) : ((iv k (List.replicate n 0)).toList.take 0 ++ (l.map (Value.int k) ++ (iv k (List.replicate n 0)).toList.drop (0 + (l.map (Value.int k)).length))).toArray = iv k l := by
  subst hn
  have : (iv k (List.replicate l.length 0)).toList.drop (0 + (l.map (Value.int k)).length) = [] := List.drop_eq_nil_of_le (by simp [iv])
  rw [this]; simp [iv]
theorem srcs {w : World} {k : IntKind} {b off : Nat} {l : List Int} (hc : ∀ i (h : i < l.length), w.cell? ⟨b, off + i, none⟩ = some (.int k l[i])) : ∀ j u, (l.map (Value.int k))[j]? = some u → w.cell? ((⟨b, off, none⟩ : Addr).add j) = some u := fun j u hu => by
  rw [Addr.add_lit]
  rw [List.getElem?_map] at hu
  obtain ⟨x, hx, rfl⟩ := Option.map_eq_some_iff.1 hu
  obtain ⟨hj, rfl⟩ := List.getElem?_eq_some_iff.1 hx
  exact hc j hj
theorem ones1 {k : IntKind} {l : List Int} : ∀ u ∈ l.map (Value.int k), u.oneCell' = true := fun u hu => by
  obtain ⟨_, _, rfl⟩ := List.mem_map.1 hu
  rfl
theorem fresh_int_nil (a : Option Addr) (c : Nat) (w : World) : Calls Tryz.prog 77 #[.slice a 0 c] w fun e w' => e = .returned (.slice none 0 0) ∧ Below w.heap.size w w' := by
  go_enter Tryz.func77, Tryz.ntmps77
  go_wp2
  go_ret
  exact ⟨rfl, Below.refl _ _⟩
set_option maxRecDepth 10000 in
theorem fresh_int_pos (b off n c : Nat) (l : List Int) (hn : n = l.length) (h0 : 0 < n) (hm : n ≤ 1000) (w : World) (hb : b < w.heap.size) (hc : ∀ i (h : i < l.length), w.cell? ⟨b, off + i, none⟩ = some (.int .i64 l[i])) :
    Calls Tryz.prog 77 #[.slice (some ⟨b, off, none⟩) n c] w fun e w' => e = .returned (.slice (some ⟨w.heap.size, 0, none⟩) n n) ∧ Bk w' w.heap.size (iv .i64 l) 3 ∧ Below w.heap.size w w' := by
  have HN := Lib.hid hn
  have HC := Lib.hid hc
  have hl : (l.map (Value.int .i64)).length = Nat.min n n := by simp [hn]
  have hf : 0 + (l.map (Value.int .i64)).length ≤ (iv .i64 (List.replicate n 0)).size := by simp [hn, iv]
  have HL := Lib.hid hl
  have HF := Lib.hid hf
  have hcp := copied .i64 l n hn
  have HCP := Lib.hid hcp
  have hsz : (Tryz.prog.info? 3).map (·.size) = some 1 := by kernel_rfl
  have HSZ := Lib.hid hsz
  clear hn hc hl hf hcp hsz
  go_enter Tryz.func77, Tryz.ntmps77
  go_wp2_with (first | (refine make_row Tryz.underlying27 infoI (by decide) rfl _ _ rfl n rfl rfl (by omega) ?_) | (refine wpList_copy_own (o := ⟨some 12, _, _, _, _, _⟩) rfl (.tmp 10) (.tmp 11) 27 27 rfl 3 Tryz.underlying27 HSZ.out w.heap.size 0 n n ⟨b, off, none⟩ n c rfl rfl (iv .i64 (List.replicate n 0)) 3 (heap_alloc_new _ _) (l.map (Value.int .i64)) HL.out (srcs fun i h => (Below.cell (p := ⟨b, off + i, none⟩) (((Below.refl w.heap.size w).alloc (Nat.le_refl _) _)) hb).trans (HC.out i h)) HF.out ones1 ?_; rw [HCP.out]))
  go_ret
  exact ⟨rfl, (Bk.new w (iv .i64 (List.replicate n 0)) 3).setRow _, below_setRow ((Below.refl _ _).alloc (Nat.le_refl _) _) (Nat.le_refl _) _⟩
theorem fresh_int {w : World} {x : Sl} {l : List Int} (h : Reads w .i64 x.v l) (hm : l.length ≤ 1000) : Calls Tryz.prog 77 #[x.v] w fun e w' => ∃ y : Sl, e = .returned y.v ∧ Fresh w.heap.size w' .i64 3 y l ∧ Below w.heap.size w w' := by
  obtain ⟨ad, cap, he, h1, h2, h3⟩ := h
  rw [he]
  rcases h3 with rfl | ⟨b, off, rfl, hb, hc⟩
  · exact (fresh_int_nil ad cap w).mono fun e w' ⟨h1, h2⟩ => ⟨nilS, h1, ⟨rfl, World.ownsRow_nil _ _ _ _⟩, h2⟩
  · by_cases h0 : l.length = 0
    · obtain rfl : l = [] := List.eq_nil_of_length_eq_zero h0
      exact (fresh_int_nil _ cap w).mono fun e w' ⟨h1, h2⟩ => ⟨nilS, h1, ⟨rfl, World.ownsRow_nil _ _ _ _⟩, h2⟩
    · refine (fresh_int_pos b off l.length cap l rfl (by omega) hm w hb hc).mono fun e w' ⟨h1, h2, h3⟩ => ⟨⟨some ⟨w.heap.size, 0, none⟩, l.length, l.length⟩, h1, ⟨rfl, ?_⟩, h3⟩
      refine ⟨by simp, .inr ⟨w.heap.size, l.length, iv .i64 l, rfl, Nat.le_refl _, h2, Nat.le_refl _, by unfold maxLen; omega, by simp [iv], by rw [iv_toList, Nat.mul_one]; exact List.take_of_length_le (by simp)⟩⟩
theorem fresh_word_nil (a : Option Addr) (c : Nat) (w : World) : Calls Tryz.prog 78 #[.slice a 0 c] w fun e w' => e = .returned (.slice none 0 0) ∧ Below w.heap.size w w' := by
  go_enter Tryz.func78, Tryz.ntmps78
  go_wp2
  go_ret
  exact ⟨rfl, Below.refl _ _⟩
set_option maxRecDepth 10000 in
theorem fresh_word_pos (b off n c : Nat) (l : List Int) (hn : n = l.length) (h0 : 0 < n) (hm : n ≤ 1000) (w : World) (hb : b < w.heap.size) (hc : ∀ i (h : i < l.length), w.cell? ⟨b, off + i, none⟩ = some (.int .u64 l[i])) :
    Calls Tryz.prog 78 #[.slice (some ⟨b, off, none⟩) n c] w fun e w' => e = .returned (.slice (some ⟨w.heap.size, 0, none⟩) n n) ∧ Bk w' w.heap.size (iv .u64 l) 22 ∧ Below w.heap.size w w' := by
  have HN := Lib.hid hn
  have HC := Lib.hid hc
  have hl : (l.map (Value.int .u64)).length = Nat.min n n := by simp [hn]
  have hf : 0 + (l.map (Value.int .u64)).length ≤ (iv .u64 (List.replicate n 0)).size := by simp [hn, iv]
  have HL := Lib.hid hl
  have HF := Lib.hid hf
  have hcp := copied .u64 l n hn
  have HCP := Lib.hid hcp
  have hsz : (Tryz.prog.info? 22).map (·.size) = some 1 := by kernel_rfl
  have HSZ := Lib.hid hsz
  clear hn hc hl hf hcp hsz
  go_enter Tryz.func78, Tryz.ntmps78
  go_wp2_with (first | (refine make_row Tryz.underlying31 infoU (by decide) rfl _ _ rfl n rfl rfl (by omega) ?_) | (refine wpList_copy_own (o := ⟨some 12, _, _, _, _, _⟩) rfl (.tmp 10) (.tmp 11) 31 31 rfl 22 Tryz.underlying31 HSZ.out w.heap.size 0 n n ⟨b, off, none⟩ n c rfl rfl (iv .u64 (List.replicate n 0)) 22 (heap_alloc_new _ _) (l.map (Value.int .u64)) HL.out (srcs fun i h => (Below.cell (p := ⟨b, off + i, none⟩) (((Below.refl w.heap.size w).alloc (Nat.le_refl _) _)) hb).trans (HC.out i h)) HF.out ones1 ?_; rw [HCP.out]))
  go_ret
  exact ⟨rfl, (Bk.new w (iv .u64 (List.replicate n 0)) 22).setRow _, below_setRow ((Below.refl _ _).alloc (Nat.le_refl _) _) (Nat.le_refl _) _⟩
theorem fresh_word {w : World} {x : Sl} {l : List Int} (h : Reads w .u64 x.v l) (hm : l.length ≤ 1000) : Calls Tryz.prog 78 #[x.v] w fun e w' => ∃ y : Sl, e = .returned y.v ∧ Fresh w.heap.size w' .u64 22 y l ∧ Below w.heap.size w w' := by
  obtain ⟨ad, cap, he, h1, h2, h3⟩ := h
  rw [he]
  rcases h3 with rfl | ⟨b, off, rfl, hb, hc⟩
  · exact (fresh_word_nil ad cap w).mono fun e w' ⟨h1, h2⟩ => ⟨nilS, h1, ⟨rfl, World.ownsRow_nil _ _ _ _⟩, h2⟩
  · by_cases h0 : l.length = 0
    · obtain rfl : l = [] := List.eq_nil_of_length_eq_zero h0
      exact (fresh_word_nil _ cap w).mono fun e w' ⟨h1, h2⟩ => ⟨nilS, h1, ⟨rfl, World.ownsRow_nil _ _ _ _⟩, h2⟩
    · refine (fresh_word_pos b off l.length cap l rfl (by omega) hm w hb hc).mono fun e w' ⟨h1, h2, h3⟩ => ⟨⟨some ⟨w.heap.size, 0, none⟩, l.length, l.length⟩, h1, ⟨rfl, ?_⟩, h3⟩
      refine ⟨by simp, .inr ⟨w.heap.size, l.length, iv .u64 l, rfl, Nat.le_refl _, h2, Nat.le_refl _, by unfold maxLen; omega, by simp [iv], by rw [iv_toList, Nat.mul_one]; exact List.take_of_length_le (by simp)⟩⟩
/-- A state whose lists lie in memory of their own, from block B on, without room to spare. -/
structure Anew (B : Nat) (w : World) (s : Wk) (x : St) : Prop where
  p : s.p = x.p
  rk : Fresh B w .i64 3 s.rk x.rk
  l0 : Fresh B w .i64 3 s.l0 x.l0
  l1 : Fresh B w .i64 3 s.l1 x.l1
  l2 : Fresh B w .i64 3 s.l2 x.l2
  hl : Fresh B w .i64 3 s.hl x.hl
  rd : Fresh B w .u64 22 s.rd x.rd
theorem Anew.lies {B : Nat} {w : World} {s : Wk} {x : St} (h : Anew B w s x) : Lies w s x := ⟨h.p, h.rk.reads, h.l0.reads, h.l1.reads, h.l2.reads, h.hl.reads, h.rd.reads⟩
theorem Anew.liesF {B : Nat} {w : World} {s : Wk} {x : St} (h : Anew B w s x) : LiesF B w s x := ⟨h.p, h.rk.rdF, h.l0.rdF, h.l1.rdF, h.l2.rdF, h.hl.rdF, h.rd.rdF⟩
theorem Anew.keep {B : Nat} {w w' : World} {s : Wk} {x : St} (h : Anew B w s x) (hb : Below w.heap.size w w') : Anew B w' s x :=
  ⟨h.p, h.rk.keep hb, h.l0.keep hb, h.l1.keep hb, h.l2.keep hb, h.hl.keep hb, h.rd.keep hb⟩
section
variable {B : Nat} {w w' : World} {s : Wk} {x : St}
theorem Anew.base {B' : Nat} (h : Anew B w s x) (hb : B' ≤ B) : Anew B' w s x := ⟨h.p, h.rk.base hb, h.l0.base hb, h.l1.base hb, h.l2.base hb, h.hl.base hb, h.rd.base hb⟩
theorem Anew.setCell (h : Anew B w s x) {g : Nat} (hg : g < B) (j : Nat) (v : Value) : Anew B (w.setCell ⟨g, j, none⟩ v) s x := ⟨h.p, h.rk.setCell hg j v, h.l0.setCell hg j v, h.l1.setCell hg j v, h.l2.setCell hg j v, h.hl.setCell hg j v, h.rd.setCell hg j v⟩
theorem Anew.setRow (h : Anew B w s x) {g : Nat} (hg : g < B) (cs : Array Value) : Anew B (w.setRow g cs) s x := ⟨h.p, h.rk.setRow hg cs, h.l0.setRow hg cs, h.l1.setRow hg cs, h.l2.setRow hg cs, h.hl.setRow hg cs, h.rd.setRow hg cs⟩
end
/-- The parameter's box and the result's. -/
structure Two (w0 : World) (gx gz : Nat) (a b : Wk) (w : World) : Prop where
  X : Bk w gx (wc a) 34
  Z : Bk w gz (wc b) 34
  below : Below w0.heap.size w0 w
  gx0 : w0.heap.size ≤ gx
  gz0 : w0.heap.size ≤ gz
  ne : gx ≠ gz
section
variable {w0 w w' : World} {gx gz : Nat} {a b : Wk}
theorem Two.start (w : World) (a : Wk) : Two w w.heap.size (w.heap.size + 1) a wz ((w.alloc (.cells (wc a) 34)).alloc (.cells (wc wz) 34)) :=
  ⟨(Bk.new w (wc a) 34).alloc _, by have := Bk.new (w.alloc (.cells (wc a) 34)) (wc wz) 34; simpa using this, ((Below.refl _ _).alloc (Nat.le_refl _) _).alloc (by simp) _, Nat.le_refl _, by omega, by omega⟩
theorem Two.startAt {w1 : World} (hb : Below w0.heap.size w0 w1) (a : Wk) : Two w0 w1.heap.size (w1.heap.size + 1) a wz ((w1.alloc (.cells (wc a) 34)).alloc (.cells (wc wz) 34)) :=
  have h := Two.start w1 a
  ⟨h.X, h.Z, hb.trans (h.below.mono hb.size), hb.size, by have := hb.size; omega, h.ne⟩
theorem Two.keep (h : Two w0 gx gz a b w) (hb : Below w.heap.size w w') : Two w0 gx gz a b w' :=
  ⟨h.X.keep hb, h.Z.keep hb, h.below.trans (hb.mono h.below.size), h.gx0, h.gz0, h.ne⟩
theorem Two.setX (h : Two w0 gx gz a b w) (j : Nat) (v : Value) (a' : Wk) (e : (wc a).setIfInBounds j v = wc a') : Two w0 gx gz a' b (w.setCell ⟨gx, j, none⟩ v) :=
  ⟨e ▸ h.X.setCell j v, h.Z.setCell_far (a := ⟨gx, j, none⟩) h.ne.symm v, h.below.setCell (p := ⟨gx, j, none⟩) h.gx0 v, h.gx0, h.gz0, h.ne⟩
theorem Two.rowX (h : Two w0 gx gz a b w) (a' : Wk) : Two w0 gx gz a' b (w.setRow gx (wc a')) :=
  ⟨h.X.setRow _, h.Z.setRow_far h.ne.symm _, below_setRow h.below h.gx0 _, h.gx0, h.gz0, h.ne⟩
theorem Two.rowZ (h : Two w0 gx gz a b w) (b' : Wk) : Two w0 gx gz a b' (w.setRow gz (wc b')) :=
  ⟨h.X.setRow_far h.ne _, h.Z.setRow _, below_setRow h.below h.gz0 _, h.gx0, h.gz0, h.ne⟩
theorem Two.lt (h : Two w0 gx gz a b w) : gx < w.heap.size ∧ gz < w.heap.size := ⟨h.X.lt, h.Z.lt⟩
end
end Go.Proofs.YtgpdkagmacpghaaGreat.Wo

/- rack.Copy. -/
namespace Go.Proofs.YtgpdkagmacpghaaGreat.Wo
open Go Go.RowKit Go.Proofs.YtgpdkagmacpghaaGreat.Gro Go.Proofs.YtgpdkagmacpghaaGreat.Own Go.Proofs.YtgpdkagmacpghaaGreat.Wd Go.Proofs.YtgpdkagmacpghaaGreat.Ap
set_option linter.unusedVariables false
set_option linter.unusedSimpArgs false

set_option maxHeartbeats 1000000 in
theorem copyWork (s : Wk) (x : St) (hx : Few 1000 x) (w : World) (h : Lies w s x) :
    Calls Tryz.prog 42 #[wv s] w fun e w' => ∃ s', e = .returned (wv s') ∧ Anew w.heap.size w' s' x ∧ Below w.heap.size w w' := by
  have e10 : ∀ s : Wk, (wc s)[10]? = some s.rk.v := fun _ => rfl
  have e12 : ∀ s : Wk, (wc s)[12]? = some s.l0.v := fun _ => rfl
  have e14 : ∀ s : Wk, (wc s)[14]? = some s.l1.v := fun _ => rfl
  have e16 : ∀ s : Wk, (wc s)[16]? = some s.l2.v := fun _ => rfl
  have e17 : ∀ s : Wk, (wc s)[17]? = some s.hl.v := fun _ => rfl
  have e29 : ∀ s : Wk, (wc s)[29]? = some s.rd.v := fun _ => rfl
  have T0 := Two.start w s
  go_enter Tryz.func42, Tryz.ntmps42
  go_wp2_with fail
  refine (fresh_int (h.keep T0.below).rk hx.rk).mono ?_
  rintro e v1 ⟨y1, rfl, f1, hb1⟩
  have U1 := T0.keep hb1
  have b1 := T0.lt
  have F1 := (f1.base (B' := w.heap.size + 2) (by omega)).setCell (g := w.heap.size) (by omega) 10 y1.v
  have T1 := U1.setX 10 y1.v { s with rk := y1 } (set_rk _ _)
  have x1 := U1.X.cells
  have z1 := U1.X.frozen
  clear f1 hb1 T0
  go_wp2_with fail
  generalize v1.setCell ⟨w.heap.size, 10, none⟩ y1.v = w1 at *
  clear x1 z1 U1
  refine (fresh_int (h.keep T1.below).hl hx.hl).mono ?_
  rintro e v2 ⟨y2, rfl, f2, hb2⟩
  have U2 := T1.keep hb2
  have b2 := T1.lt
  have F2 := (f2.base (B' := w.heap.size + 2) (by omega)).setCell (g := w.heap.size) (by omega) 17 y2.v
  have F1 := (F1.keep hb2).setCell (g := w.heap.size) (by omega) 17 y2.v
  have T2 := U2.setX 17 y2.v { s with rk := y1, hl := y2 } (set_hl _ _)
  have x2 := U2.X.cells
  have z2 := U2.X.frozen
  clear f2 hb2 T1
  go_wp2_with fail
  generalize v2.setCell ⟨w.heap.size, 17, none⟩ y2.v = w2 at *
  clear x2 z2 U2
  refine (fresh_word (h.keep T2.below).rd hx.rd).mono ?_
  rintro e v3 ⟨y3, rfl, f3, hb3⟩
  have U3 := T2.keep hb3
  have b3 := T2.lt
  have F3 := (f3.base (B' := w.heap.size + 2) (by omega)).setCell (g := w.heap.size) (by omega) 29 y3.v
  have F1 := (F1.keep hb3).setCell (g := w.heap.size) (by omega) 29 y3.v
  have F2 := (F2.keep hb3).setCell (g := w.heap.size) (by omega) 29 y3.v
  have T3 := U3.setX 29 y3.v { s with rk := y1, hl := y2, rd := y3 } (set_rd _ _)
  have x3 := U3.X.cells
  have z3 := U3.X.frozen
  clear f3 hb3 T2
  go_wp2_with fail
  refine wp_loop_rounds 4 ?_
  rw [rounds_succ]
  go_wp2_with fail
  generalize v3.setCell ⟨w.heap.size, 29, none⟩ y3.v = w3 at *
  clear x3 z3 U3
  refine (fresh_int (h.keep T3.below).l0 hx.l0).mono ?_
  rintro e v4 ⟨y4, rfl, f4, hb4⟩
  have U4 := T3.keep hb4
  have b4 := T3.lt
  have F4 := (f4.base (B' := w.heap.size + 2) (by omega)).setCell (g := w.heap.size) (by omega) 12 y4.v
  have F1 := (F1.keep hb4).setCell (g := w.heap.size) (by omega) 12 y4.v
  have F2 := (F2.keep hb4).setCell (g := w.heap.size) (by omega) 12 y4.v
  have F3 := (F3.keep hb4).setCell (g := w.heap.size) (by omega) 12 y4.v
  have T4 := U4.setX 12 y4.v { s with rk := y1, hl := y2, rd := y3, l0 := y4 } (set_l0 _ _)
  have x4 := U4.X.cells
  have z4 := U4.X.frozen
  clear f4 hb4 T3
  go_wp2_with fail
  rw [rounds_succ]
  go_wp2_with fail
  generalize v4.setCell ⟨w.heap.size, 12, none⟩ y4.v = w4 at *
  clear x4 z4 U4
  refine (fresh_int (h.keep T4.below).l1 hx.l1).mono ?_
  rintro e v5 ⟨y5, rfl, f5, hb5⟩
  have U5 := T4.keep hb5
  have b5 := T4.lt
  have F5 := (f5.base (B' := w.heap.size + 2) (by omega)).setCell (g := w.heap.size) (by omega) 14 y5.v
  have F1 := (F1.keep hb5).setCell (g := w.heap.size) (by omega) 14 y5.v
  have F2 := (F2.keep hb5).setCell (g := w.heap.size) (by omega) 14 y5.v
  have F3 := (F3.keep hb5).setCell (g := w.heap.size) (by omega) 14 y5.v
  have F4 := (F4.keep hb5).setCell (g := w.heap.size) (by omega) 14 y5.v
  have T5 := U5.setX 14 y5.v { s with rk := y1, hl := y2, rd := y3, l0 := y4, l1 := y5 } (set_l1 _ _)
  have x5 := U5.X.cells
  have z5 := U5.X.frozen
  clear f5 hb5 T4
  go_wp2_with fail
  rw [rounds_succ]
  go_wp2_with fail
  generalize v5.setCell ⟨w.heap.size, 14, none⟩ y5.v = w5 at *
  clear x5 z5 U5
  refine (fresh_int (h.keep T5.below).l2 hx.l2).mono ?_
  rintro e v6 ⟨y6, rfl, f6, hb6⟩
  have U6 := T5.keep hb6
  have b6 := T5.lt
  have F6 := (f6.base (B' := w.heap.size + 2) (by omega)).setCell (g := w.heap.size) (by omega) 16 y6.v
  have F1 := (F1.keep hb6).setCell (g := w.heap.size) (by omega) 16 y6.v
  have F2 := (F2.keep hb6).setCell (g := w.heap.size) (by omega) 16 y6.v
  have F3 := (F3.keep hb6).setCell (g := w.heap.size) (by omega) 16 y6.v
  have F4 := (F4.keep hb6).setCell (g := w.heap.size) (by omega) 16 y6.v
  have F5 := (F5.keep hb6).setCell (g := w.heap.size) (by omega) 16 y6.v
  have T6 := U6.setX 16 y6.v { s with rk := y1, hl := y2, rd := y3, l0 := y4, l1 := y5, l2 := y6 } (set_l2 _ _)
  have x6 := U6.X.cells
  have z6 := U6.X.frozen
  clear f6 hb6 T5
  go_wp2_with fail
  rw [rounds_succ]
  go_wp2_with (first | (refine wpList_load_row rfl _ _ rfl w.heap.size rfl _ (wc { s with rk := y1, hl := y2, rd := y3, l0 := y4, l1 := y5, l2 := y6 }) (0, 0) _ T6.X Tryz.underlying34 rfl (by kernel_rfl) ?_) | (refine wpList_store_row rfl _ _ _ rfl (w.heap.size + 1) (wc { s with rk := y1, hl := y2, rd := y3, l0 := y4, l1 := y5, l2 := y6 }) rfl rfl _ _ T6.Z (by kernel_rfl) (by kernel_rfl) (by kernel_rfl) ?_))
  have T7 := T6.rowZ { s with rk := y1, hl := y2, rd := y3, l0 := y4, l1 := y5, l2 := y6 }
  refine bodyPost_ret (v := wv { s with rk := y1, hl := y2, rd := y3, l0 := y4, l1 := y5, l2 := y6 }) ?_ rfl ⟨_, rfl, ⟨h.p, ?_, ?_, ?_, ?_, ?_, ?_⟩, T7.below⟩
  · exact results_cell_row (p := 2) (ty := 34) Tryz.results42 _ _ (w.heap.size + 1) 34 _ (0, 0) _ rfl T7.Z Tryz.underlying34 rfl (by kernel_rfl)
  · exact (F1.setRow (by omega) _).base (by omega)
  · exact (F4.setRow (by omega) _).base (by omega)
  · exact (F5.setRow (by omega) _).base (by omega)
  · exact (F6.setRow (by omega) _).base (by omega)
  · exact (F2.setRow (by omega) _).base (by omega)
  · exact (F3.setRow (by omega) _).base (by omega)
end Go.Proofs.YtgpdkagmacpghaaGreat.Wo

/- rack.Put, Take, Hold, Next (made by genrack.py). -/
namespace Go.Proofs.YtgpdkagmacpghaaGreat.Wo
open Go Go.RowKit Go.Proofs.YtgpdkagmacpghaaGreat.Gro Go.Proofs.YtgpdkagmacpghaaGreat.Own Go.Proofs.YtgpdkagmacpghaaGreat.Wd Go.Proofs.YtgpdkagmacpghaaGreat.Ap Go.Proofs.YtgpdkagmacpghaaGreat.Pl
set_option linter.unusedVariables false
set_option linter.unusedSimpArgs false

abbrev ccW (c : Cfg) : Array Value := #[.int .i64 c.ww, .int .i64 c.sl, .int .i64 c.bl, .int .i64 c.wd, .int .i64 c.en, .int .i64 c.rk, .int .i64 c.bg, .int .u64 c.la]
theorem Few.mono {m m' : Nat} {x : St} (h : Few m x) (hm : m ≤ m') : Few m' x := ⟨Nat.le_trans h.rk hm, Nat.le_trans h.l0 hm, Nat.le_trans h.l1 hm, Nat.le_trans h.l2 hm, Nat.le_trans h.hl hm, Nat.le_trans h.rd hm⟩
def putS (m : Int) (x : St) (b : Int) : St := if (x.rk.length : Int) < m then { x with rk := x.rk ++ [b] } else x
def takeS (x : St) : St := { x with rk := x.rk.dropLast }
def takeB (x : St) : Int := x.rk.getLastD (-1)
def holdS (x : St) (M : List Int) : St := { x with hl := x.hl ++ M }
def nextS (x : St) : St := { x with hl := x.hl.tail }
def nextB (x : St) : Int := x.hl.headD (-1)
theorem reads_one {w : World} {k : IntKind} {t : TypeId} {v : Int} {g : Nat} (hg : g = w.heap.size) : Reads (w.alloc (.cells #[.int k v] t)) k (.slice (some ⟨g, 0, none⟩) 1 1) [v] := by
  subst hg
  exact Reads.of_bk (l := [v]) (Bk.new w #[.int k v] t) (by unfold maxLen; simp)
theorem Fresh.cells {B : Nat} {w : World} {k : IntKind} {t : TypeId} {y : Sl} {l : List Int} (h : Fresh B w k t y l) (h0 : 0 < l.length) : ∃ g, y = ⟨some ⟨g, 0, none⟩, l.length, l.length⟩ ∧ B ≤ g ∧ g < w.heap.size ∧ ∀ i (hi : i < l.length), w.cell? ⟨g, i, none⟩ = some (.int k l[i]) := by
  obtain ⟨ht, ho⟩ := h
  obtain ⟨g, cap, he, hB, hg, _, _, hc⟩ := owns_cells ho h0
  obtain ⟨ad, ln, cp⟩ := y
  simp only [Sl.v, Value.slice.injEq] at he
  obtain ⟨rfl, rfl, rfl⟩ := he
  simp only at ht
  subst ht
  exact ⟨g, rfl, hB, hg, fun i hi => by rw [hc i (by simpa using hi)]; simp [hi]⟩
theorem reads_cut {w : World} {k : IntKind} {g n cap : Nat} {off : Nat} {l : List Int} (hg : g < w.heap.size) (hl : l.length = n) (h1 : n ≤ cap) (h2 : cap ≤ maxLen) (h : ∀ i (hi : i < l.length), w.cell? ⟨g, off + i, none⟩ = some (.int k l[i])) : Reads w k (.slice (some ⟨g, off, none⟩) n cap) l :=
  ⟨_, cap, by rw [hl], by omega, h2, .inr ⟨g, off, rfl, hg, h⟩⟩
set_option maxHeartbeats 1000000 in
theorem rackPut_yes (c : Cfg) (s : Wk) (x : St) (hx : Few 900 x) (b : Int) (w : World) (h : Lies w s x) (hm : (x.rk.length : Int) < c.rk) :
    Calls Tryz.prog 215 #[cv c, wv s, .int .i64 b] w fun e w' => ∃ s', e = .returned (.tuple #[wv s', .bool true]) ∧ LiesF w.heap.size w' s' { x with rk := x.rk ++ [b] } ∧ Below w.heap.size w w' := by
  have e10 : ∀ s : Wk, (wc s)[10]? = some s.rk.v := fun _ => rfl
  have hw0 : Below w.heap.size w (w.alloc (.cells (ccW c) 24)) := (Below.refl _ _).alloc (Nat.le_refl _) _
  have T0 := Two.startAt hw0 s
  have C0 := (((Bk.new w (ccW c) 24).alloc (.cells (wc s) 34)).alloc (.cells (wc wz) 34))
  rw [show (w.alloc (.cells (ccW c) 24)).heap.size = w.heap.size + 1 by simp] at T0
  go_enter Tryz.func215, Tryz.ntmps215
  go_wp2_with (refine wpList_load_row rfl 34 _ rfl (w.heap.size + 1) rfl _ (wc s) (0, 0) _ (by exact T0.X) Tryz.underlying34 rfl (by kernel_rfl) ?_)
  refine (copyWork s x (hx.mono (by omega)) _ (h.keep T0.below)).mono ?_
  rintro e w1 ⟨s', rfl, A1, hb1⟩
  have T1 := T0.keep hb1
  have b0 := T0.lt
  have b1 := T1.lt
  have T2 := T1.rowX s'
  have A2 := A1.setRow (g := w.heap.size + 1) (by omega) (wc s')
  have C1 := C0.keep hb1
  have C2 := C1.setRow_far (g' := w.heap.size + 1) (by omega) (wc s')
  have hs1 : (((w.alloc (Obj.cells (ccW c) 24)).alloc (Obj.cells (wc s) 34)).alloc (Obj.cells (wc wz) 34)).heap.size ≤ w1.heap.size := hb1.size
  have hlen := reads_len A1.rk.reads
  have x2 := T2.X.cells
  have c2 := C2.cells
  have hlt : (s'.rk.len : Int) < c.rk := by omega
  have HLEN := Lib.hid hlen
  have HTG := Lib.hid A1.rk.1
  clear hlen C0 T0 hb1
  have hxr := hx.rk
  go_wp2_with (first | (refine wpList_store_row rfl 34 _ _ rfl (w.heap.size + 1) (wc s') rfl rfl _ _ (by exact T1.X) (by kernel_rfl) (by kernel_rfl) (by kernel_rfl) ?_) | (at_builtin; refine append_tight elemI rfl _ _ rfl _ s'.rk x.rk rfl (A2.rk.2.keep ((Below.refl _ _).alloc (Nat.le_refl _) _)) HTG.out _ [b] rfl (reads_one (by simp)) (by simp; omega) (by simp at hs1 ⊢; omega) ?_; intro y w3 r3 hb3; have T3 := (T2.keep ((Below.refl _ _).alloc (Nat.le_refl _) _)).keep hb3; have x3 := T3.X.cells; have z3 := T3.X.frozen; have T4 := T3.setX 10 y.v { s' with rk := y } (set_rk _ _)) | (refine wpList_load_row rfl 34 _ rfl (w.heap.size + 1) rfl _ (wc { s' with rk := y }) (0, 0) _ (by exact T4.X) Tryz.underlying34 rfl (by kernel_rfl) ?_) | (refine wpList_store_row rfl 34 _ _ rfl (w.heap.size + 1 + 1) (wc { s' with rk := y }) rfl rfl _ _ (by exact T4.Z) (by kernel_rfl) (by kernel_rfl) (by kernel_rfl) ?_))
  have T5 := T4.rowZ { s' with rk := y }
  refine bodyPost_ret (v := .tuple #[wv { s' with rk := y }, .bool true]) ?_ rfl ⟨_, rfl, ?_, T5.below⟩
  · exact Rw.results_cell_slot (p := 6) (q := 7) (ty := 34) Tryz.results215 _ _ (w.heap.size + 1 + 1) 34 _ (0, 0) _ rfl T5.Z Tryz.underlying34 rfl (by kernel_rfl)
  · have A3 := ((A2.keep ((Below.refl _ _).alloc (Nat.le_refl _) _)).keep hb3).setCell (g := w.heap.size + 1) (by omega) 10 y.v
    have A4 := A3.setRow (g := w.heap.size + 1 + 1) (by omega) (wc { s' with rk := y })
    have Y4 : Owned _ _ _ _ y (x.rk ++ [b]) := Owned.setRow (g := w.heap.size + 1 + 1) (Owned.setCell (g := w.heap.size + 1) r3 (by omega) 10 y.v) (by omega) (wc { s' with rk := y })
    exact LiesF.base ⟨A1.p, Owned.rdF Y4, A4.l0.rdF, A4.l1.rdF, A4.l2.rdF, A4.hl.rdF, A4.rd.rdF⟩ (by omega)
set_option maxHeartbeats 1000000 in
theorem rackPut_no (c : Cfg) (s : Wk) (x : St) (hx : Few 900 x) (b : Int) (w : World) (h : Lies w s x) (hm : ¬ (x.rk.length : Int) < c.rk) :
    Calls Tryz.prog 215 #[cv c, wv s, .int .i64 b] w fun e w' => ∃ s', e = .returned (.tuple #[wv s', .bool false]) ∧ LiesF w.heap.size w' s' x ∧ Below w.heap.size w w' := by
  have e10 : ∀ s : Wk, (wc s)[10]? = some s.rk.v := fun _ => rfl
  have hw0 : Below w.heap.size w (w.alloc (.cells (ccW c) 24)) := (Below.refl _ _).alloc (Nat.le_refl _) _
  have T0 := Two.startAt hw0 s
  have C0 := (((Bk.new w (ccW c) 24).alloc (.cells (wc s) 34)).alloc (.cells (wc wz) 34))
  rw [show (w.alloc (.cells (ccW c) 24)).heap.size = w.heap.size + 1 by simp] at T0
  go_enter Tryz.func215, Tryz.ntmps215
  go_wp2_with (refine wpList_load_row rfl 34 _ rfl (w.heap.size + 1) rfl _ (wc s) (0, 0) _ (by exact T0.X) Tryz.underlying34 rfl (by kernel_rfl) ?_)
  refine (copyWork s x (hx.mono (by omega)) _ (h.keep T0.below)).mono ?_
  rintro e w1 ⟨s', rfl, A1, hb1⟩
  have T1 := T0.keep hb1
  have b0 := T0.lt
  have b1 := T1.lt
  have T2 := T1.rowX s'
  have A2 := A1.setRow (g := w.heap.size + 1) (by omega) (wc s')
  have C1 := C0.keep hb1
  have C2 := C1.setRow_far (g' := w.heap.size + 1) (by omega) (wc s')
  have hs1 : (((w.alloc (Obj.cells (ccW c) 24)).alloc (Obj.cells (wc s) 34)).alloc (Obj.cells (wc wz) 34)).heap.size ≤ w1.heap.size := hb1.size
  have hlen := reads_len A1.rk.reads
  have x2 := T2.X.cells
  have c2 := C2.cells
  have hlt : c.rk ≤ (s'.rk.len : Int) := by omega
  clear hlen C0 T0 hb1
  go_wp2_with (first | (refine wpList_store_row rfl 34 _ _ rfl (w.heap.size + 1) (wc s') rfl rfl _ _ (by exact T1.X) (by kernel_rfl) (by kernel_rfl) (by kernel_rfl) ?_) | (refine wpList_load_row rfl 34 _ rfl (w.heap.size + 1) rfl _ (wc s') (0, 0) _ (by exact T2.X) Tryz.underlying34 rfl (by kernel_rfl) ?_) | (refine wpList_store_row rfl 34 _ _ rfl (w.heap.size + 1 + 1) (wc s') rfl rfl _ _ (by exact T2.Z) (by kernel_rfl) (by kernel_rfl) (by kernel_rfl) ?_))
  have T5 := T2.rowZ s'
  refine bodyPost_ret (v := .tuple #[wv s', .bool false]) ?_ rfl ⟨_, rfl, ?_, T5.below⟩
  · exact Rw.results_cell_slot (p := 6) (q := 7) (ty := 34) Tryz.results215 _ _ (w.heap.size + 1 + 1) 34 _ (0, 0) _ rfl T5.Z Tryz.underlying34 rfl (by kernel_rfl)
  · exact (A2.setRow (g := w.heap.size + 1 + 1) (by omega) _).liesF.base (by omega)
theorem rackPut (c : Cfg) (s : Wk) (x : St) (hx : Few 900 x) (b : Int) (w : World) (h : Lies w s x) :
    Calls Tryz.prog 215 #[cv c, wv s, .int .i64 b] w fun e w' => ∃ s', e = .returned (.tuple #[wv s', .bool (decide ((x.rk.length : Int) < c.rk))]) ∧ LiesF w.heap.size w' s' (putS c.rk x b) ∧ Below w.heap.size w w' := by
  by_cases hm : (x.rk.length : Int) < c.rk
  · rw [putS, if_pos hm, decide_eq_true hm]; exact rackPut_yes c s x hx b w h hm
  · rw [putS, if_neg hm, decide_eq_false hm]; exact rackPut_no c s x hx b w h hm
set_option maxHeartbeats 1000000 in
theorem rackTake_no (s : Wk) (x : St) (hx : Few 900 x) (w : World) (h : Lies w s x) (hm : x.rk = []) :
    Calls Tryz.prog 169 #[wv s] w fun e w' => ∃ s', e = .returned (.tuple #[wv s', .int .i64 (-1)]) ∧ LiesF w.heap.size w' s' x ∧ Below w.heap.size w w' := by
  have e10 : ∀ s : Wk, (wc s)[10]? = some s.rk.v := fun _ => rfl
  have T0 := Two.start w s
  go_enter Tryz.func169, Tryz.ntmps169
  go_wp2_with (refine wpList_load_row rfl 34 _ rfl (w.heap.size) rfl _ (wc s) (0, 0) _ (by exact T0.X) Tryz.underlying34 rfl (by kernel_rfl) ?_)
  refine (copyWork s x (hx.mono (by omega)) _ (h.keep T0.below)).mono ?_
  rintro e w1 ⟨s', rfl, A1, hb1⟩
  have T1 := T0.keep hb1
  have b0 := T0.lt
  have b1 := T1.lt
  have T2 := T1.rowX s'
  have A2 := A1.setRow (g := w.heap.size) (by omega) (wc s')
  have hlen := reads_len A1.rk.reads
  have x2 := T2.X.cells
  rw [hm] at hlen
  obtain ⟨p', rk', l0', l1', l2', hl', rd'⟩ := s'
  obtain ⟨ad, ln, cp⟩ := rk'
  simp only [List.length_nil] at hlen
  subst hlen
  have SH : RowKit.Hid (∃ q : Wk, q = (⟨p', ⟨ad, 0, cp⟩, l0', l1', l2', hl', rd'⟩ : Wk)) := Lib.hid ⟨_, rfl⟩
  clear T0 hb1
  go_wp2_with (first | (refine wpList_store_row rfl 34 _ _ rfl (w.heap.size) (wc ⟨p', ⟨ad, 0, cp⟩, l0', l1', l2', hl', rd'⟩) rfl rfl _ _ (by exact T1.X) (by kernel_rfl) (by kernel_rfl) (by kernel_rfl) ?_) | (refine wpList_load_row rfl 34 _ rfl (w.heap.size) rfl _ (wc ⟨p', ⟨ad, 0, cp⟩, l0', l1', l2', hl', rd'⟩) (0, 0) _ (by exact T2.X) Tryz.underlying34 rfl (by kernel_rfl) ?_) | (refine wpList_store_row rfl 34 _ _ rfl (w.heap.size + 1) (wc ⟨p', ⟨ad, 0, cp⟩, l0', l1', l2', hl', rd'⟩) rfl rfl _ _ (by exact T2.Z) (by kernel_rfl) (by kernel_rfl) (by kernel_rfl) ?_))
  have T5 := T2.rowZ ⟨p', ⟨ad, 0, cp⟩, l0', l1', l2', hl', rd'⟩
  refine bodyPost_ret (v := .tuple #[wv ⟨p', ⟨ad, 0, cp⟩, l0', l1', l2', hl', rd'⟩, .int .i64 (-1)]) ?_ rfl ⟨_, rfl, ?_, T5.below⟩
  · exact Rw.results_cell_slot (p := 2) (q := 3) (ty := 34) Tryz.results169 _ _ (w.heap.size + 1) 34 _ (0, 0) _ rfl T5.Z Tryz.underlying34 rfl (by kernel_rfl)
  · exact (A2.setRow (g := w.heap.size + 1) (by omega) _).liesF.base (by omega)
set_option maxRecDepth 100000 in
set_option maxHeartbeats 1000000 in
theorem rackTake_yes (s : Wk) (x : St) (hx : Few 900 x) (w : World) (h : Lies w s x) (n : Nat) (hn : x.rk.length = n + 1) :
    Calls Tryz.prog 169 #[wv s] w fun e w' => ∃ s', e = .returned (.tuple #[wv s', .int .i64 (takeB x)]) ∧ LiesF w.heap.size w' s' (takeS x) ∧ Below w.heap.size w w' := by
  have e10 : ∀ s : Wk, (wc s)[10]? = some (.slice s.rk.ad s.rk.len s.rk.cap) := fun _ => rfl
  have T0 := Two.start w s
  go_enter Tryz.func169, Tryz.ntmps169
  go_wp2_with (refine wpList_load_row rfl 34 _ rfl (w.heap.size) rfl _ (wc s) (0, 0) _ (by exact T0.X) Tryz.underlying34 rfl (by kernel_rfl) ?_)
  refine (copyWork s x (hx.mono (by omega)) _ (h.keep T0.below)).mono ?_
  rintro e w1 ⟨s', rfl, A1, hb1⟩
  have T1 := T0.keep hb1
  have b0 := T0.lt
  have b1 := T1.lt
  have T2 := T1.rowX s'
  have A2 := A1.setRow (g := w.heap.size) (by omega) (wc s')
  obtain ⟨p', rk', l0', l1', l2', hl', rd'⟩ := s'
  obtain ⟨g, hy, hBg, hg1, hcs⟩ := A1.rk.cells (by omega)
  simp only at hy
  subst hy
  have hlast := hcs n (by omega)
  have hxr := hx.rk
  have hTB : takeB x = x.rk[n] := by
    have hb : n < x.rk.length := by omega
    unfold takeB
    rw [List.getLastD_eq_getLast?, List.getLast?_eq_getElem?]
    simp [hn, hb]
  have HTB := Lib.hid hTB
  have HCS := Lib.hid hcs
  have hgx : g ≠ w.heap.size := by omega
  rw [hn] at T2 A2
  have x2 := T2.X.cells
  have z2 := T2.X.frozen
  have hl2 : (w1.setRow (w.heap.size) (wc ⟨p', ⟨some ⟨g, 0, none⟩, n + 1, n + 1⟩, l0', l1', l2', hl', rd'⟩)).cell? ⟨g, n, none⟩ = some (.int .i64 x.rk[n]) := by
    rw [← hlast]; exact World.cell?_of_block (setRow_other w1 (w.heap.size) g _ hgx)
  rw [hn]
  have HN := Lib.hid hn
  have hn900 : n < 900 := by omega
  clear T0 hb1 hTB hcs hlast
  have T3 := T2.setX 10 (Sl.v ⟨some ⟨g, 0, none⟩, n, n + 1⟩) ⟨p', ⟨some ⟨g, 0, none⟩, n, n + 1⟩, l0', l1', l2', hl', rd'⟩ (set_rk _ _)
  go_wp2_with (first | (refine wpList_store_row rfl 34 _ _ rfl (w.heap.size) (wc ⟨p', ⟨some ⟨g, 0, none⟩, n + 1, n + 1⟩, l0', l1', l2', hl', rd'⟩) rfl rfl _ _ (by exact T1.X) (by kernel_rfl) (by kernel_rfl) (by kernel_rfl) ?_) | (refine wpList_load_row rfl 34 _ rfl (w.heap.size) rfl _ (wc ⟨p', ⟨some ⟨g, 0, none⟩, n, n + 1⟩, l0', l1', l2', hl', rd'⟩) (0, 0) _ (by exact T3.X) Tryz.underlying34 rfl (by kernel_rfl) ?_) | (refine wpList_store_row rfl 34 _ _ rfl (w.heap.size + 1) (wc ⟨p', ⟨some ⟨g, 0, none⟩, n, n + 1⟩, l0', l1', l2', hl', rd'⟩) rfl rfl _ _ (by exact T3.Z) (by kernel_rfl) (by kernel_rfl) (by kernel_rfl) ?_))
  have T5 := T3.rowZ ⟨p', ⟨some ⟨g, 0, none⟩, n, n + 1⟩, l0', l1', l2', hl', rd'⟩
  refine bodyPost_ret (v := .tuple #[wv ⟨p', ⟨some ⟨g, 0, none⟩, n, n + 1⟩, l0', l1', l2', hl', rd'⟩, .int .i64 x.rk[n]]) ?_ rfl ⟨_, by rw [HTB.out], ?_, T5.below⟩
  · exact Rw.results_cell_slot (p := 2) (q := 3) (ty := 34) Tryz.results169 _ _ (w.heap.size + 1) 34 _ (0, 0) _ rfl T5.Z Tryz.underlying34 rfl (by kernel_rfl)
  · have A4 := (A2.setCell (g := w.heap.size) (by omega) 10 (Sl.v ⟨some ⟨g, 0, none⟩, n, n + 1⟩)).setRow (g := w.heap.size + 1) (by omega) (wc ⟨p', ⟨some ⟨g, 0, none⟩, n, n + 1⟩, l0', l1', l2', hl', rd'⟩)
    refine LiesF.base ⟨A1.p, ⟨reads_cut (g := g) (n := n) (cap := n + 1) (off := 0) (by simpa using hg1) (by simp [takeS, HN.out]) (by omega) (by unfold maxLen; omega) (fun i hi => ?_), .inr fun a ha => by cases ha; exact hBg⟩, A4.l0.rdF, A4.l1.rdF, A4.l2.rdF, A4.hl.rdF, A4.rd.rdF⟩ (by omega)
    have hi' : i < n := by simpa [takeS, HN.out] using hi
    have e1 : (takeS x).rk[i] = x.rk[i]'(by have := HN.out; omega) := by simp [takeS]
    rw [Nat.zero_add, e1, ← HCS.out i (by have := HN.out; omega)]
    refine (World.cell?_of_block (setRow_other _ (w.heap.size + 1) g _ (by omega))).trans ((World.cell?_of_block (heap_setCell_other _ _ g _ (by simpa using hgx))).trans (World.cell?_of_block (setRow_other w1 (w.heap.size) g _ hgx)))
theorem rackTake (s : Wk) (x : St) (hx : Few 900 x) (w : World) (h : Lies w s x) :
    Calls Tryz.prog 169 #[wv s] w fun e w' => ∃ s', e = .returned (.tuple #[wv s', .int .i64 (takeB x)]) ∧ LiesF w.heap.size w' s' (takeS x) ∧ Below w.heap.size w w' := by
  by_cases hm : x.rk = []
  · have e1 : takeB x = -1 := by simp [takeB, hm]
    have e2 : takeS x = x := by obtain ⟨p, rk, l0, l1, l2, hl, rd⟩ := x; simp only at hm; subst hm; rfl
    rw [e1, e2]; exact rackTake_no s x hx w h hm
  · obtain ⟨n, hn⟩ : ∃ n, x.rk.length = n + 1 := ⟨x.rk.length - 1, by have := List.length_pos_iff.2 hm; omega⟩
    exact rackTake_yes s x hx w h n hn
set_option maxHeartbeats 1000000 in
theorem rackHold (s : Wk) (x : St) (hx : Few 900 x) (v : Sl) (M : List Int) (hM : M.length ≤ 900) (w : World) (h : Lies w s x) (hv : Reads w .i64 v.v M) :
    Calls Tryz.prog 180 #[wv s, v.v] w fun e w' => ∃ s', e = .returned (wv s') ∧ (LiesF w.heap.size w' s' (holdS x M) ∧ s'.rk.cap = s'.rk.len ∧ s'.l0.cap = s'.l0.len ∧ s'.l1.cap = s'.l1.len ∧ s'.l2.cap = s'.l2.len ∧ Owned w.heap.size w' .i64 3 s'.hl (x.hl ++ M) ∧ Anew w.heap.size w' { s' with hl := nilS } { x with hl := [] }) ∧ Below w.heap.size w w' := by
  have e17 : ∀ s : Wk, (wc s)[17]? = some (.slice s.hl.ad s.hl.len s.hl.cap) := fun _ => rfl
  have T0 := Two.start w s
  go_enter Tryz.func180, Tryz.ntmps180
  go_wp2_with (refine wpList_load_row rfl 34 _ rfl (w.heap.size) rfl _ (wc s) (0, 0) _ (by exact T0.X) Tryz.underlying34 rfl (by kernel_rfl) ?_)
  refine (copyWork s x (hx.mono (by omega)) _ (h.keep T0.below)).mono ?_
  rintro e w1 ⟨s', rfl, A1, hb1⟩
  have T1 := T0.keep hb1
  have b0 := T0.lt
  have b1 := T1.lt
  have T2 := T1.rowX s'
  have A2 := A1.setRow (g := w.heap.size) (by omega) (wc s')
  have hs1 : ((w.alloc (Obj.cells (wc s) 34)).alloc (Obj.cells (wc wz) 34)).heap.size ≤ w1.heap.size := hb1.size
  have HTG := Lib.hid A1.hl.1
  have x2 := T2.X.cells
  have hxr := hx.hl
  have hv2 := hv.keep T2.below
  clear T0 hb1
  go_wp2_with (first | (refine wpList_store_row rfl 34 _ _ rfl (w.heap.size) (wc s') rfl rfl _ _ (by exact T1.X) (by kernel_rfl) (by kernel_rfl) (by kernel_rfl) ?_) | (at_builtin; refine append_tight elemI rfl _ _ rfl _ s'.hl x.hl rfl A2.hl.2 HTG.out _ M rfl hv2 (by omega) (by simp at hs1 ⊢; omega) ?_; intro y w3 r3 hb3; have T3 := T2.keep hb3; have x3 := T3.X.cells; have z3 := T3.X.frozen; have T4 := T3.setX 17 y.v { s' with hl := y } (set_hl _ _)) | (refine wpList_load_row rfl 34 _ rfl (w.heap.size) rfl _ (wc { s' with hl := y }) (0, 0) _ (by exact T4.X) Tryz.underlying34 rfl (by kernel_rfl) ?_) | (refine wpList_store_row rfl 34 _ _ rfl (w.heap.size + 1) (wc { s' with hl := y }) rfl rfl _ _ (by exact T4.Z) (by kernel_rfl) (by kernel_rfl) (by kernel_rfl) ?_))
  have T5 := T4.rowZ { s' with hl := y }
  refine bodyPost_ret (v := wv { s' with hl := y }) ?_ rfl ⟨_, rfl, ?_, T5.below⟩
  · exact results_cell_row (p := 4) (ty := 34) Tryz.results180 _ _ (w.heap.size + 1) 34 _ (0, 0) _ rfl T5.Z Tryz.underlying34 rfl (by kernel_rfl)
  · have A3 := (A2.keep hb3).setCell (g := w.heap.size) (by omega) 17 y.v
    have A4 := A3.setRow (g := w.heap.size + 1) (by omega) (wc { s' with hl := y })
    have Y4 : Owned _ _ _ _ y (x.hl ++ M) := Owned.setRow (g := w.heap.size + 1) (Owned.setCell (g := w.heap.size) r3 (by omega) 17 y.v) (by omega) (wc { s' with hl := y })
    refine ⟨LiesF.base ⟨A1.p, A4.rk.rdF, A4.l0.rdF, A4.l1.rdF, A4.l2.rdF, Owned.rdF Y4, A4.rd.rdF⟩ (by omega), A4.rk.1, A4.l0.1, A4.l1.1, A4.l2.1, Y4.base (by omega), Anew.base (B := ((w.alloc (Obj.cells (wc s) 34)).alloc (Obj.cells (wc wz) 34)).heap.size) ⟨A1.p, A4.rk, A4.l0, A4.l1, A4.l2, Fresh.nil, A4.rd⟩ (by omega)⟩
set_option maxHeartbeats 1000000 in
theorem rackNext_no (s : Wk) (x : St) (hx : Few 900 x) (w : World) (h : Lies w s x) (hm : x.hl = []) :
    Calls Tryz.prog 210 #[wv s] w fun e w' => ∃ s', e = .returned (.tuple #[wv s', .int .i64 (-1)]) ∧ LiesF w.heap.size w' s' x ∧ Below w.heap.size w w' := by
  have e17 : ∀ s : Wk, (wc s)[17]? = some (.slice s.hl.ad s.hl.len s.hl.cap) := fun _ => rfl
  have T0 := Two.start w s
  go_enter Tryz.func210, Tryz.ntmps210
  go_wp2_with (refine wpList_load_row rfl 34 _ rfl (w.heap.size) rfl _ (wc s) (0, 0) _ (by exact T0.X) Tryz.underlying34 rfl (by kernel_rfl) ?_)
  refine (copyWork s x (hx.mono (by omega)) _ (h.keep T0.below)).mono ?_
  rintro e w1 ⟨s', rfl, A1, hb1⟩
  have T1 := T0.keep hb1
  have b0 := T0.lt
  have b1 := T1.lt
  have T2 := T1.rowX s'
  have A2 := A1.setRow (g := w.heap.size) (by omega) (wc s')
  have hlen := reads_len A1.hl.reads
  have x2 := T2.X.cells
  rw [hm] at hlen
  obtain ⟨p', rk', l0', l1', l2', hl', rd'⟩ := s'
  obtain ⟨ad, ln, cp⟩ := hl'
  simp only [List.length_nil] at hlen
  subst hlen
  clear T0 hb1
  go_wp2_with (first | (refine wpList_store_row rfl 34 _ _ rfl (w.heap.size) (wc ⟨p', rk', l0', l1', l2', ⟨ad, 0, cp⟩, rd'⟩) rfl rfl _ _ (by exact T1.X) (by kernel_rfl) (by kernel_rfl) (by kernel_rfl) ?_) | (refine wpList_load_row rfl 34 _ rfl (w.heap.size) rfl _ (wc ⟨p', rk', l0', l1', l2', ⟨ad, 0, cp⟩, rd'⟩) (0, 0) _ (by exact T2.X) Tryz.underlying34 rfl (by kernel_rfl) ?_) | (refine wpList_store_row rfl 34 _ _ rfl (w.heap.size + 1) (wc ⟨p', rk', l0', l1', l2', ⟨ad, 0, cp⟩, rd'⟩) rfl rfl _ _ (by exact T2.Z) (by kernel_rfl) (by kernel_rfl) (by kernel_rfl) ?_))
  have T5 := T2.rowZ ⟨p', rk', l0', l1', l2', ⟨ad, 0, cp⟩, rd'⟩
  refine bodyPost_ret (v := .tuple #[wv ⟨p', rk', l0', l1', l2', ⟨ad, 0, cp⟩, rd'⟩, .int .i64 (-1)]) ?_ rfl ⟨_, rfl, ?_, T5.below⟩
  · exact Rw.results_cell_slot (p := 2) (q := 3) (ty := 34) Tryz.results210 _ _ (w.heap.size + 1) 34 _ (0, 0) _ rfl T5.Z Tryz.underlying34 rfl (by kernel_rfl)
  · exact (A2.setRow (g := w.heap.size + 1) (by omega) _).liesF.base (by omega)
set_option maxRecDepth 100000 in
set_option maxHeartbeats 1000000 in
theorem rackNext_many (s : Wk) (x : St) (hx : Few 900 x) (w : World) (h : Lies w s x) (n : Nat) (hn : x.hl.length = n + 1) (hm : 0 < n) :
    Calls Tryz.prog 210 #[wv s] w fun e w' => ∃ s', e = .returned (.tuple #[wv s', .int .i64 (nextB x)]) ∧ LiesF w.heap.size w' s' (nextS x) ∧ Below w.heap.size w w' := by
  have e17 : ∀ s : Wk, (wc s)[17]? = some (.slice s.hl.ad s.hl.len s.hl.cap) := fun _ => rfl
  have T0 := Two.start w s
  go_enter Tryz.func210, Tryz.ntmps210
  go_wp2_with (refine wpList_load_row rfl 34 _ rfl (w.heap.size) rfl _ (wc s) (0, 0) _ (by exact T0.X) Tryz.underlying34 rfl (by kernel_rfl) ?_)
  refine (copyWork s x (hx.mono (by omega)) _ (h.keep T0.below)).mono ?_
  rintro e w1 ⟨s', rfl, A1, hb1⟩
  have T1 := T0.keep hb1
  have b0 := T0.lt
  have b1 := T1.lt
  have T2 := T1.rowX s'
  have A2 := A1.setRow (g := w.heap.size) (by omega) (wc s')
  obtain ⟨p', rk', l0', l1', l2', hl', rd'⟩ := s'
  obtain ⟨g, hy, hBg, hg1, hcs⟩ := A1.hl.cells (by omega)
  simp only at hy
  subst hy
  have hfirst := hcs 0 (by omega)
  have hxr := hx.hl
  have hTB : nextB x = x.hl[0] := by
    have hb : 0 < x.hl.length := by omega
    unfold nextB
    rw [List.headD_eq_head?_getD, List.head?_eq_getElem?]
    simp [hb]
  have HTB := Lib.hid hTB
  have HCS := Lib.hid hcs
  have hgx : g ≠ w.heap.size := by omega
  rw [hn] at T2 A2
  have x2 := T2.X.cells
  have z2 := T2.X.frozen
  have hl2 : (w1.setRow (w.heap.size) (wc ⟨p', rk', l0', l1', l2', ⟨some ⟨g, 0, none⟩, n + 1, n + 1⟩, rd'⟩)).cell? ⟨g, 0, none⟩ = some (.int .i64 x.hl[0]) := by
    rw [← hfirst]; exact World.cell?_of_block (setRow_other w1 (w.heap.size) g _ hgx)
  rw [hn]
  have HN := Lib.hid hn
  clear T0 hb1 hTB hcs hfirst
  have T3 := T2.setX 17 (Sl.v ⟨some ⟨g, 1, none⟩, n, n⟩) ⟨p', rk', l0', l1', l2', ⟨some ⟨g, 1, none⟩, n, n⟩, rd'⟩ (set_hl _ _)
  skip
  go_wp2_with (first | (refine wpList_store_row rfl 34 _ _ rfl (w.heap.size) (wc ⟨p', rk', l0', l1', l2', ⟨some ⟨g, 0, none⟩, n + 1, n + 1⟩, rd'⟩) rfl rfl _ _ (by exact T1.X) (by kernel_rfl) (by kernel_rfl) (by kernel_rfl) ?_) | (refine wpList_load_row rfl 34 _ rfl (w.heap.size) rfl _ (wc ⟨p', rk', l0', l1', l2', ⟨some ⟨g, 1, none⟩, n, n⟩, rd'⟩) (0, 0) _ (by exact T3.X) Tryz.underlying34 rfl (by kernel_rfl) ?_) | (refine wpList_store_row rfl 34 _ _ rfl (w.heap.size + 1) (wc ⟨p', rk', l0', l1', l2', ⟨some ⟨g, 1, none⟩, n, n⟩, rd'⟩) rfl rfl _ _ (by exact T3.Z) (by kernel_rfl) (by kernel_rfl) (by kernel_rfl) ?_))
  have T5 := T3.rowZ ⟨p', rk', l0', l1', l2', ⟨some ⟨g, 1, none⟩, n, n⟩, rd'⟩
  refine bodyPost_ret (v := .tuple #[wv ⟨p', rk', l0', l1', l2', ⟨some ⟨g, 1, none⟩, n, n⟩, rd'⟩, .int .i64 x.hl[0]]) ?_ rfl ⟨_, by rw [HTB.out], ?_, T5.below⟩
  · exact Rw.results_cell_slot (p := 2) (q := 3) (ty := 34) Tryz.results210 _ _ (w.heap.size + 1) 34 _ (0, 0) _ rfl T5.Z Tryz.underlying34 rfl (by kernel_rfl)
  · have A4 := (A2.setCell (g := w.heap.size) (by omega) 17 (Sl.v ⟨some ⟨g, 1, none⟩, n, n⟩)).setRow (g := w.heap.size + 1) (by omega) (wc ⟨p', rk', l0', l1', l2', ⟨some ⟨g, 1, none⟩, n, n⟩, rd'⟩)
    refine LiesF.base ⟨A1.p, A4.rk.rdF, A4.l0.rdF, A4.l1.rdF, A4.l2.rdF, ⟨reads_cut (g := g) (n := n) (cap := n) (off := 1) (by simpa using hg1) (by simp [nextS, HN.out]) (by omega) (by unfold maxLen; omega) (fun i hi => ?_), .inr fun a ha => by cases ha; exact hBg⟩, A4.rd.rdF⟩ (by omega)
    have hi' : i < n := by simpa [nextS, HN.out] using hi
    have e1 : (nextS x).hl[i] = x.hl[1 + i]'(by have := HN.out; omega) := by simp [nextS, Nat.add_comm]
    rw [e1, ← HCS.out (1 + i) (by have := HN.out; omega)]
    refine (World.cell?_of_block (setRow_other _ (w.heap.size + 1) g _ (by omega))).trans ((World.cell?_of_block (heap_setCell_other _ _ g _ (by simpa using hgx))).trans (World.cell?_of_block (setRow_other w1 (w.heap.size) g _ hgx)))
set_option maxRecDepth 100000 in
set_option maxHeartbeats 1000000 in
theorem rackNext_one (s : Wk) (x : St) (hx : Few 900 x) (w : World) (h : Lies w s x) (hn : x.hl.length = 0 + 1) :
    Calls Tryz.prog 210 #[wv s] w fun e w' => ∃ s', e = .returned (.tuple #[wv s', .int .i64 (nextB x)]) ∧ LiesF w.heap.size w' s' (nextS x) ∧ Below w.heap.size w w' := by
  have e17 : ∀ s : Wk, (wc s)[17]? = some (.slice s.hl.ad s.hl.len s.hl.cap) := fun _ => rfl
  have T0 := Two.start w s
  go_enter Tryz.func210, Tryz.ntmps210
  go_wp2_with (refine wpList_load_row rfl 34 _ rfl (w.heap.size) rfl _ (wc s) (0, 0) _ (by exact T0.X) Tryz.underlying34 rfl (by kernel_rfl) ?_)
  refine (copyWork s x (hx.mono (by omega)) _ (h.keep T0.below)).mono ?_
  rintro e w1 ⟨s', rfl, A1, hb1⟩
  have T1 := T0.keep hb1
  have b0 := T0.lt
  have b1 := T1.lt
  have T2 := T1.rowX s'
  have A2 := A1.setRow (g := w.heap.size) (by omega) (wc s')
  obtain ⟨p', rk', l0', l1', l2', hl', rd'⟩ := s'
  obtain ⟨g, hy, hBg, hg1, hcs⟩ := A1.hl.cells (by omega)
  simp only at hy
  subst hy
  have hfirst := hcs 0 (by omega)
  have hxr := hx.hl
  have hTB : nextB x = x.hl[0] := by
    have hb : 0 < x.hl.length := by omega
    unfold nextB
    rw [List.headD_eq_head?_getD, List.head?_eq_getElem?]
    simp [hb]
  have HTB := Lib.hid hTB
  have HCS := Lib.hid hcs
  have hgx : g ≠ w.heap.size := by omega
  rw [hn] at T2 A2
  have x2 := T2.X.cells
  have z2 := T2.X.frozen
  have hl2 : (w1.setRow (w.heap.size) (wc ⟨p', rk', l0', l1', l2', ⟨some ⟨g, 0, none⟩, 0 + 1, 0 + 1⟩, rd'⟩)).cell? ⟨g, 0, none⟩ = some (.int .i64 x.hl[0]) := by
    rw [← hfirst]; exact World.cell?_of_block (setRow_other w1 (w.heap.size) g _ hgx)
  rw [hn]
  have HN := Lib.hid hn
  clear T0 hb1 hTB hcs hfirst
  have T3 := T2.setX 17 (Sl.v ⟨some ⟨g, 0, none⟩, 0, 0⟩) ⟨p', rk', l0', l1', l2', ⟨some ⟨g, 0, none⟩, 0, 0⟩, rd'⟩ (set_hl _ _)
  skip
  go_wp2_with (first | (refine wpList_store_row rfl 34 _ _ rfl (w.heap.size) (wc ⟨p', rk', l0', l1', l2', ⟨some ⟨g, 0, none⟩, 0 + 1, 0 + 1⟩, rd'⟩) rfl rfl _ _ (by exact T1.X) (by kernel_rfl) (by kernel_rfl) (by kernel_rfl) ?_) | (refine wpList_load_row rfl 34 _ rfl (w.heap.size) rfl _ (wc ⟨p', rk', l0', l1', l2', ⟨some ⟨g, 0, none⟩, 0, 0⟩, rd'⟩) (0, 0) _ (by exact T3.X) Tryz.underlying34 rfl (by kernel_rfl) ?_) | (refine wpList_store_row rfl 34 _ _ rfl (w.heap.size + 1) (wc ⟨p', rk', l0', l1', l2', ⟨some ⟨g, 0, none⟩, 0, 0⟩, rd'⟩) rfl rfl _ _ (by exact T3.Z) (by kernel_rfl) (by kernel_rfl) (by kernel_rfl) ?_))
  have T5 := T3.rowZ ⟨p', rk', l0', l1', l2', ⟨some ⟨g, 0, none⟩, 0, 0⟩, rd'⟩
  refine bodyPost_ret (v := .tuple #[wv ⟨p', rk', l0', l1', l2', ⟨some ⟨g, 0, none⟩, 0, 0⟩, rd'⟩, .int .i64 x.hl[0]]) ?_ rfl ⟨_, by rw [HTB.out], ?_, T5.below⟩
  · exact Rw.results_cell_slot (p := 2) (q := 3) (ty := 34) Tryz.results210 _ _ (w.heap.size + 1) 34 _ (0, 0) _ rfl T5.Z Tryz.underlying34 rfl (by kernel_rfl)
  · have A4 := (A2.setCell (g := w.heap.size) (by omega) 17 (Sl.v ⟨some ⟨g, 0, none⟩, 0, 0⟩)).setRow (g := w.heap.size + 1) (by omega) (wc ⟨p', rk', l0', l1', l2', ⟨some ⟨g, 0, none⟩, 0, 0⟩, rd'⟩)
    refine LiesF.base ⟨A1.p, A4.rk.rdF, A4.l0.rdF, A4.l1.rdF, A4.l2.rdF, ⟨reads_cut (g := g) (n := 0) (cap := 0) (off := 0) (by simpa using hg1) (by simp [nextS, HN.out]) (by omega) (by unfold maxLen; omega) (fun i hi => ?_), .inr fun a ha => by cases ha; exact hBg⟩, A4.rd.rdF⟩ (by omega)
    simp [nextS, HN.out] at hi
theorem rackNext (s : Wk) (x : St) (hx : Few 900 x) (w : World) (h : Lies w s x) :
    Calls Tryz.prog 210 #[wv s] w fun e w' => ∃ s', e = .returned (.tuple #[wv s', .int .i64 (nextB x)]) ∧ LiesF w.heap.size w' s' (nextS x) ∧ Below w.heap.size w w' := by
  by_cases hm : x.hl = []
  · have e1 : nextB x = -1 := by simp [nextB, hm]
    have e2 : nextS x = x := by obtain ⟨p, rk, l0, l1, l2, hl, rd⟩ := x; simp only at hm; subst hm; rfl
    rw [e1, e2]; exact rackNext_no s x hx w h hm
  · obtain ⟨n, hn⟩ : ∃ n, x.hl.length = n + 1 := ⟨x.hl.length - 1, by have := List.length_pos_iff.2 hm; omega⟩
    by_cases h0 : 0 < n
    · exact rackNext_many s x hx w h n hn h0
    · exact rackNext_one s x hx w h (by omega)
end Go.Proofs.YtgpdkagmacpghaaGreat.Wo

/- A whole row loaded inside a region that draws its order: one step of the quiet walk. -/
namespace Go.Proofs.YtgpdkagmacpghaaGreat.Gro
open Go Go.RowKit
section
variable {P : Program} {ops : Array Oper} {C : World → Prop} {Q : Act → Prop} {a : Act} {o : Oper} {rest : List Oper}
theorem wpQuiet_load_row (hgd : o.guard = none) (ty : TypeId) (x : Operand) (ho : o.op = .load ty x) (g : Nat) (hx : a.eval x = .pointer (some ⟨g, 0, none⟩)) (cs : Array Value) (t : TypeId) (d : TypeDesc)
    (hC : ∀ w, C w → Bk w g cs t) (hu : P.underlying ty = some d) (hd : (match d with | .struct _ | .array _ _ => true | _ => false) = true) (hi : (P.info? ty).map (·.size) = some cs.size)
    (h : wpQuiet P ops C Q rest (a.put o.dst (.agg cs))) : wpQuiet P ops C Q (o :: rest) a := by
  have hw : Region.wanted o (yielded ops a.tmps) = true := by simp [Region.wanted, hgd]
  unfold wpQuiet
  rw [if_pos hw]
  refine ⟨.agg cs, fun w hc => ?_, h⟩
  unfold Oper.quietAt execOp
  simp only [ho, hx, Instr.loadAt, Instr.sureAddr, Sem.run_bind, Sem.run_pure, Result.andThen_ok, run_loadVar_row w g t ty cs (0, 0) d (hC w hc) hu hd hi]
  exact ⟨rfl, rfl⟩
theorem wpQuiet_load_row_w (hw : Region.wanted o (yielded ops a.tmps) = true) (ty : TypeId) (x : Operand) (ho : o.op = .load ty x) (g : Nat) (hx : a.eval x = .pointer (some ⟨g, 0, none⟩)) (cs : Array Value) (t : TypeId) (d : TypeDesc)
    (hC : ∀ w, C w → Bk w g cs t) (hu : P.underlying ty = some d) (hd : (match d with | .struct _ | .array _ _ => true | _ => false) = true) (hi : (P.info? ty).map (·.size) = some cs.size)
    (h : wpQuiet P ops C Q rest (a.put o.dst (.agg cs))) : wpQuiet P ops C Q (o :: rest) a := by
  unfold wpQuiet
  rw [if_pos hw]
  refine ⟨.agg cs, fun w hc => ?_, h⟩
  unfold Oper.quietAt execOp
  simp only [ho, hx, Instr.loadAt, Instr.sureAddr, Sem.run_bind, Sem.run_pure, Result.andThen_ok, run_loadVar_row w g t ty cs (0, 0) d (hC w hc) hu hd hi]
  exact ⟨rfl, rfl⟩
end
end Go.Proofs.YtgpdkagmacpghaaGreat.Gro

/- The example of layer 4 (made by genrackaw.py). -/
namespace Go.Proofs.YtgpdkagmacpghaaGreat.Wo
open Go Go.RowKit Go.Proofs.YtgpdkagmacpghaaGreat.Gro Go.Proofs.YtgpdkagmacpghaaGreat.Own Go.Proofs.YtgpdkagmacpghaaGreat.Wd Go.Proofs.YtgpdkagmacpghaaGreat.Ap Go.Proofs.YtgpdkagmacpghaaGreat.Pl
set_option linter.unusedVariables false
set_option linter.unusedSimpArgs false

def zS : St := ⟨pz, [], [], [], [], [], []⟩
theorem lies_z (w : World) : Lies w wz zS := ⟨rfl, Reads.nil _ _, Reads.nil _ _, Reads.nil _ _, Reads.nil _ _, Reads.nil _ _, Reads.nil _ _⟩
theorem build_wz (w : World) : (Instr.build 34 #[]).run Tryz.prog w = .ok (wv wz) w := run_build w _ _ _ (by kernel_rfl)
theorem few_z : Few 0 zS := ⟨Nat.le_refl _, Nat.le_refl _, Nat.le_refl _, Nat.le_refl _, Nat.le_refl _, Nat.le_refl _⟩
/-- A variable that is made and then set. -/
theorem boxed_bk (w : World) (s : Wk) : Bk ((w.alloc (.cells (wc wz) 34)).setRow w.heap.size (wc s)) w.heap.size (wc s) 34 := (Bk.new w (wc wz) 34).setRow _
theorem boxed_below (w : World) (s : Wk) : Below w.heap.size w ((w.alloc (.cells (wc wz) 34)).setRow w.heap.size (wc s)) := below_setRow ((Below.refl _ _).alloc (Nat.le_refl _) _) (Nat.le_refl _) _
theorem run_alloc_wz (w : World) : (Instr.alloc 34 true (.tuple #[])).run Tryz.prog w = .ok (.pointer (some ⟨w.heap.size, 0, none⟩)) (w.alloc (.cells (wc wz) 34)) := by kernel_rfl
theorem wpList_alloc_wz {ops : Array Oper} {rest : List Oper} {o : Oper} {a : Act} {w : World} {Q : Exit → Act → World → Prop} (hg : o.guard = none) (ho : o.op = .alloc 34)
    (h : wpList Tryz.prog ops Q rest (a.put o.dst (.pointer (some ⟨w.heap.size, 0, none⟩))) (w.alloc (.cells (wc wz) 34))) : wpList Tryz.prog ops Q (o :: rest) a w := by
  refine wpList_plain hg fun K hK => ?_
  unfold Oper.wp
  simp [execOp, ho, run_alloc_wz, Result.andThen]
  exact hK _ _ h
abbrev c4 : Cfg := ⟨0, 0, 0, 0, 0, 1, 0, 0⟩
theorem build_c4 (w : World) : (Instr.build 24 #[(5, .int .i64 1)]).run Tryz.prog w = .ok (cv c4) w := run_build w _ _ _ (by kernel_rfl)
end Go.Proofs.YtgpdkagmacpghaaGreat.Wo

/- Whole rows in regions that draw their order, one step at a time: a row loaded, a zero row made, a row stored. -/
namespace Go.Proofs.YtgpdkagmacpghaaGreat.Wo
open Go Go.RowKit Go.Proofs.YtgpdkagmacpghaaGreat.Gro Go.Proofs.YtgpdkagmacpghaaGreat.Own Go.Proofs.YtgpdkagmacpghaaGreat.Wd Go.Proofs.YtgpdkagmacpghaaGreat.Ap Go.Proofs.YtgpdkagmacpghaaGreat.Pl
set_option linter.unusedVariables false
section
variable {P : Program} {ops : Array Oper} {S : World → Prop} {a : Act} {o : Oper} {w : World} {K : Act → World → Prop} {Q : Exit → Act → World → Prop} {E : Prop}
theorem yieldsIf_row (hgd : o.guard = none) (ty : TypeId) (x : Operand) (ho : o.op = .load ty x) (g : Nat) (hx : a.eval x = .pointer (some ⟨g, 0, none⟩)) (cs : Array Value) (t : TypeId) (d : TypeDesc)
    (hC : ∀ w, S w → Bk w g cs t) (hu : P.underlying ty = some d) (hd : (match d with | .struct _ | .array _ _ => true | _ => false) = true) (hi : (P.info? ty).map (·.size) = some cs.size) : YieldsIf P ops S o (.agg cs) a := by
  refine Or.inl ⟨by simp [Region.wanted, hgd], fun w hw => ?_⟩
  unfold execOp
  simp only [ho, hx, Instr.loadAt, Instr.sureAddr, Sem.run_bind, Sem.run_pure, Result.andThen_ok, run_loadVar_row w g t ty cs (0, 0) d (hC w hw) hu hd hi]
theorem step_row (hgd : o.guard = none) (ty : TypeId) (x y : Operand) (ho : o.op = .store ty x y) (g : Nat) (cells : Array Value) (hx : a.eval x = .pointer (some ⟨g, 0, none⟩)) (hy : a.eval y = .agg cells)
    (t : TypeId) (old : Array Value) (hg : w.heap[g]? = some (.cells old t (0, 0))) (hi : (P.info? ty).map (·.size) = some cells.size) (hold : old.size = cells.size) (h1 : cells.all (·.oneCell') = true)
    (h : K (a.put o.dst undef) (w.setRow g cells)) : if Region.wanted o (yielded ops a.tmps) = true then Oper.wp P o a w K Q else E := by
  rw [if_pos (by simp [Region.wanted, hgd])]
  exact wp_store_row ty x y ho g cells hx hy t old hg hi hold h1 h
end
section
variable {P : Program} {ops : Array Oper} {a : Act} {o : Oper} {w : World} {rest : List Oper} {Q : Exit → Act → World → Prop}
/-- A guarded load of a whole row, the guard being decided. -/
theorem wpList_load_row_w (hw : Region.wanted o (yielded ops a.tmps) = true) (ty : TypeId) (x : Operand) (ho : o.op = .load ty x)
    (g : Nat) (hx : a.eval x = .pointer (some ⟨g, 0, none⟩)) (t : TypeId) (cs : Array Value) (fr : Nat × Nat) (d : TypeDesc) (hg : w.heap[g]? = some (.cells cs t fr))
    (hu : P.underlying ty = some d) (hd : (match d with | .struct _ | .array _ _ => true | _ => false) = true) (hi : (P.info? ty).map (·.size) = some cs.size)
    (h : wpList P ops Q rest (a.put o.dst (.agg cs)) w) : wpList P ops Q (o :: rest) a w :=
  wpList_step fun K hK => by rw [if_pos hw]; exact wp_load_row ty x ho g hx t cs fr d hg hu hd hi (hK _ _ h)
end
section
variable {ops : Array Oper} {a : Act} {o : Oper} {w : World} {K : Act → World → Prop} {Q : Exit → Act → World → Prop} {E : Prop}
theorem step_alloc_wz (hgd : o.guard = none) (ho : o.op = .alloc 34)
    (h : K (a.put o.dst (.pointer (some ⟨w.heap.size, 0, none⟩))) (w.alloc (.cells (wc wz) 34))) : if Region.wanted o (yielded ops a.tmps) = true then Oper.wp Tryz.prog o a w K Q else E := by
  rw [if_pos (by simp [Region.wanted, hgd])]
  unfold Oper.wp
  simp [execOp, ho, run_alloc_wz, Result.andThen]
  exact h
end
end Go.Proofs.YtgpdkagmacpghaaGreat.Wo

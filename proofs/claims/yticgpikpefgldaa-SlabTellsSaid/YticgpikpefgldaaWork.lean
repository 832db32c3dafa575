/- The state of a worker as a record; its cells; its lists as lists. -/
import Derived.Test.YticgpikpefgldaaApp
import Derived.Test.YticgpikpefgldaaRows2
import Derived.Deep.WholeRow
import Derived.WalkLawsBesides
import Derived.WalkSpells
namespace Go.Proofs.Yticgpikpefgldaa.Wo
open Go Go.RowKit Go.Proofs.Yticgpikpefgldaa.Gro Go.Proofs.Yticgpikpefgldaa.Own Go.Proofs.Yticgpikpefgldaa.Wd Go.Proofs.Yticgpikpefgldaa.Ap
set_option linter.unusedVariables false
set_option linter.unusedSimpArgs false

structure Pl where
  (ln o0 o1 o2 o3 : Int) (o4 : Bool) (o5 o6 : Int) (pn : Bool) (ep t0 t1 t2 : Int)
  (b k i c br h n v u g j t rt : Int) (gv : Bool)
  deriving DecidableEq
structure Wk where
  (p : Pl) (rk l0 l1 l2 hl rd : Sl)
def wc (s : Wk) : Array Value := #[.int .i64 s.p.ln, .int .i64 s.p.o0, .int .u64 s.p.o1, .int .u64 s.p.o2, .int .i64 s.p.o3, .bool s.p.o4, .int .i64 s.p.o5, .int .i64 s.p.o6, .bool s.p.pn, .int .u64 s.p.ep, s.rk.v,
  .int .u64 s.p.t0, s.l0.v, .int .u64 s.p.t1, s.l1.v, .int .u64 s.p.t2, s.l2.v, s.hl.v,
  .int .i64 s.p.b, .int .i64 s.p.k, .int .i64 s.p.i, .int .i64 s.p.c, .int .i64 s.p.br, .int .u64 s.p.h, .int .u64 s.p.n, .int .u64 s.p.v, .int .u64 s.p.u, .int .u64 s.p.g, .int .i64 s.p.j, s.rd.v, .int .u64 s.p.t, .int .i64 s.p.rt, .bool s.p.gv]
def pz : Pl := ⟨0, 0, 0, 0, 0, false, 0, 0, false, 0, 0, 0, 0, 0, 0, 0, 0, 0, 0, 0, 0, 0, 0, 0, 0, 0, false⟩
def wz : Wk := ⟨pz, nilS, nilS, nilS, nilS, nilS, nilS⟩
abbrev wv (s : Wk) : Value := .agg (wc s)
theorem wc_size (s : Wk) : (wc s).size = 33 := rfl
/-- A state as data. -/
structure St where
  (p : Pl) (rk l0 l1 l2 hl rd : List Int)
  deriving DecidableEq
structure Lies (w : World) (s : Wk) (x : St) : Prop where
  p : s.p = x.p
  rk : Reads w .i64 s.rk.v x.rk
  l0 : Reads w .i64 s.l0.v x.l0
  l1 : Reads w .i64 s.l1.v x.l1
  l2 : Reads w .i64 s.l2.v x.l2
  hl : Reads w .i64 s.hl.v x.hl
  rd : Reads w .u64 s.rd.v x.rd
theorem Lies.keep {w w' : World} {s : Wk} {x : St} (h : Lies w s x) (hb : Below w.heap.size w w') : Lies w' s x :=
  ⟨h.p, h.rk.keep hb, h.l0.keep hb, h.l1.keep hb, h.l2.keep hb, h.hl.keep hb, h.rd.keep hb⟩
structure Few (m : Nat) (x : St) : Prop where
  rk : x.rk.length ≤ m
  l0 : x.l0.length ≤ m
  l1 : x.l1.length ≤ m
  l2 : x.l2.length ≤ m
  hl : x.hl.length ≤ m
  rd : x.rd.length ≤ m
theorem set_rk (s : Wk) (y : Sl) : (wc s).setIfInBounds 10 y.v = wc { s with rk := y } := rfl
theorem set_l0 (s : Wk) (y : Sl) : (wc s).setIfInBounds 12 y.v = wc { s with l0 := y } := rfl
theorem set_l1 (s : Wk) (y : Sl) : (wc s).setIfInBounds 14 y.v = wc { s with l1 := y } := rfl
theorem set_l2 (s : Wk) (y : Sl) : (wc s).setIfInBounds 16 y.v = wc { s with l2 := y } := rfl
theorem set_hl (s : Wk) (y : Sl) : (wc s).setIfInBounds 17 y.v = wc { s with hl := y } := rfl
theorem set_rd (s : Wk) (y : Sl) : (wc s).setIfInBounds 29 y.v = wc { s with rd := y } := rfl
theorem infoI : ∃ i, Try.prog.info? 3 = some i ∧ i.zero = some (.int .i64 0) ∧ i.size = 1 ∧ i.bytes = 8 := by
  have h : (Try.prog.info? 3).map (fun i => (i.zero, i.size, i.bytes)) = some (some (.int .i64 0), 1, 8) := by kernel_rfl
  exact info_parts h
theorem infoU : ∃ i, Try.prog.info? 22 = some i ∧ i.zero = some (.int .u64 0) ∧ i.size = 1 ∧ i.bytes = 8 := by
  have h : (Try.prog.info? 22).map (fun i => (i.zero, i.size, i.bytes)) = some (some (.int .u64 0), 1, 8) := by kernel_rfl
  exact info_parts h
theorem elemI : Elem Try.prog 28 3 1 8 := ⟨Try.underlying28, by
  obtain ⟨i, h1, h2, h3, h4⟩ := infoI
  exact ⟨i, _, h1, h2, h3, h4, rfl⟩, by decide, by decide⟩
theorem elemU : Elem Try.prog 25 22 1 8 := ⟨Try.underlying25, by
  obtain ⟨i, h1, h2, h3, h4⟩ := infoU
  exact ⟨i, _, h1, h2, h3, h4, rfl⟩, by decide, by decide⟩
/-- A list in memory of its own, from block B on. -/
def Owned (B : Nat) (w : World) (k : IntKind) (t : TypeId) (y : Sl) (l : List Int) : Prop := w.ownsRow B t 1 y.v l.length (l.map (.int k))
theorem ownsRow_setRow_below {w : World} {base : Nat} {e : TypeId} {size : Nat} {v : Value} {n : Nat} {xs : List Value} (h : w.ownsRow base e size v n xs) {g : Nat} (hg : g < base) (cs : Array Value) : (w.setRow g cs).ownsRow base e size v n xs := by
  refine ⟨h.1, ?_⟩
  rcases h.2 with h0 | ⟨g', cap, cur, he, hge, hh, rest⟩
  · exact .inl h0
  · exact .inr ⟨g', cap, cur, he, hge, (setRow_other w g g' cs (by omega)).trans hh, rest⟩
section
variable {B : Nat} {w : World} {k : IntKind} {t : TypeId} {y : Sl} {l : List Int}
theorem Owned.reads (h : Owned B w k t y l) : Reads w k y.v l := Reads.of_own h rfl
theorem Owned.keep {w' : World} (h : Owned B w k t y l) (hb : Below w.heap.size w w') : Owned B w' k t y l := owns_below h hb (fun g hg => (World.ownsRow.lt h g hg).2)
theorem Owned.base {B' : Nat} (h : Owned B w k t y l) (hb : B' ≤ B) : Owned B' w k t y l := by
  refine ⟨h.1, ?_⟩
  rcases h.2 with h0 | ⟨g, cap, cur, he, hge, rest⟩
  · exact .inl h0
  · exact .inr ⟨g, cap, cur, he, Nat.le_trans hb hge, rest⟩
theorem Owned.setCell (h : Owned B w k t y l) {g : Nat} (hg : g < B) (j : Nat) (v : Value) : Owned B (w.setCell ⟨g, j, none⟩ v) k t y l := ownsRow_setCell_below h (a := ⟨g, j, none⟩) hg v
theorem Owned.setRow (h : Owned B w k t y l) {g : Nat} (hg : g < B) (cs : Array Value) : Owned B (w.setRow g cs) k t y l := ownsRow_setRow_below h hg cs
theorem Owned.nil : Owned B w k t nilS [] := World.ownsRow_nil _ _ _ _
/-- .. without room to spare. -/
def Fresh (B : Nat) (w : World) (k : IntKind) (t : TypeId) (y : Sl) (l : List Int) : Prop := y.cap = y.len ∧ Owned B w k t y l
theorem Fresh.reads (h : Fresh B w k t y l) : Reads w k y.v l := h.2.reads
theorem Fresh.keep {w' : World} (h : Fresh B w k t y l) (hb : Below w.heap.size w w') : Fresh B w' k t y l := ⟨h.1, h.2.keep hb⟩
theorem Fresh.base {B' : Nat} (h : Fresh B w k t y l) (hb : B' ≤ B) : Fresh B' w k t y l := ⟨h.1, h.2.base hb⟩
theorem Fresh.setCell (h : Fresh B w k t y l) {g : Nat} (hg : g < B) (j : Nat) (v : Value) : Fresh B (w.setCell ⟨g, j, none⟩ v) k t y l := ⟨h.1, h.2.setCell hg j v⟩
theorem Fresh.setRow (h : Fresh B w k t y l) {g : Nat} (hg : g < B) (cs : Array Value) : Fresh B (w.setRow g cs) k t y l := ⟨h.1, h.2.setRow hg cs⟩
theorem Fresh.nil : Fresh B w k t nilS [] := ⟨rfl, Owned.nil⟩
end
/-- A list that reads, in memory from block B on. -/
def RdF (B : Nat) (w : World) (k : IntKind) (y : Sl) (l : List Int) : Prop := Reads w k y.v l ∧ (l = [] ∨ ∀ a, y.ad = some a → B ≤ a.block)
section
variable {B : Nat} {w : World} {k : IntKind} {t : TypeId} {y : Sl} {l : List Int}
theorem Owned.rdF (h : Owned B w k t y l) : RdF B w k y l := by
  refine ⟨h.reads, .inr fun a ha => ?_⟩
  rcases h.2 with ⟨he, _⟩ | ⟨g, cap, cur, he, hge, _⟩
  · simp only [Sl.v, Value.slice.injEq] at he; rw [he.1] at ha; cases ha
  · simp only [Sl.v, Value.slice.injEq] at he; rw [he.1] at ha; cases ha; exact hge
theorem Fresh.rdF (h : Fresh B w k t y l) : RdF B w k y l := h.2.rdF
theorem RdF.base {B' : Nat} (h : RdF B w k y l) (hb : B' ≤ B) : RdF B' w k y l := ⟨h.1, h.2.imp id fun f a ha => Nat.le_trans hb (f a ha)⟩
theorem RdF.keep {w' : World} (h : RdF B w k y l) (hb : Below w.heap.size w w') : RdF B w' k y l := ⟨h.1.keep hb, h.2⟩
theorem RdF.far {w' : World} (h : RdF B w k y l) (hs : w.heap.size ≤ w'.heap.size) (hc : ∀ b o, B ≤ b → w'.cell? ⟨b, o, none⟩ = w.cell? ⟨b, o, none⟩) : RdF B w' k y l := by
  obtain ⟨⟨ad, cap, he, h1, h2, h3⟩, hf⟩ := h
  refine ⟨⟨ad, cap, he, h1, h2, ?_⟩, hf⟩
  rcases h3 with h3 | ⟨b, off, rfl, hlt, h3⟩
  · exact .inl h3
  · rcases hf with hf | hf
    · exact .inl hf
    · simp only [Sl.v, Value.slice.injEq] at he
      exact .inr ⟨b, off, rfl, Nat.lt_of_lt_of_le hlt hs, fun i hi => (hc _ _ (hf _ he.1)).trans (h3 i hi)⟩
theorem RdF.setRow (h : RdF B w k y l) {g : Nat} (hg : g < B) (cs : Array Value) : RdF B (w.setRow g cs) k y l :=
  h.far (by simp) fun b o hb => World.cell?_of_block (setRow_other w g b cs (by omega))
theorem RdF.setCell (h : RdF B w k y l) {g : Nat} (hg : g < B) (j : Nat) (v : Value) : RdF B (w.setCell ⟨g, j, none⟩ v) k y l :=
  h.far (by simp) fun b o hb => World.cell?_of_block (heap_setCell_other w _ b v (show b ≠ g by omega))
end
structure LiesF (B : Nat) (w : World) (s : Wk) (x : St) : Prop where
  p : s.p = x.p
  rk : RdF B w .i64 s.rk x.rk
  l0 : RdF B w .i64 s.l0 x.l0
  l1 : RdF B w .i64 s.l1 x.l1
  l2 : RdF B w .i64 s.l2 x.l2
  hl : RdF B w .i64 s.hl x.hl
  rd : RdF B w .u64 s.rd x.rd
section
variable {B : Nat} {w : World} {s : Wk} {x : St}
theorem LiesF.lies (h : LiesF B w s x) : Lies w s x := ⟨h.p, h.rk.1, h.l0.1, h.l1.1, h.l2.1, h.hl.1, h.rd.1⟩
theorem LiesF.base {B' : Nat} (h : LiesF B w s x) (hb : B' ≤ B) : LiesF B' w s x := ⟨h.p, h.rk.base hb, h.l0.base hb, h.l1.base hb, h.l2.base hb, h.hl.base hb, h.rd.base hb⟩
theorem LiesF.keep {w' : World} (h : LiesF B w s x) (hb : Below w.heap.size w w') : LiesF B w' s x := ⟨h.p, h.rk.keep hb, h.l0.keep hb, h.l1.keep hb, h.l2.keep hb, h.hl.keep hb, h.rd.keep hb⟩
theorem LiesF.setRow (h : LiesF B w s x) {g : Nat} (hg : g < B) (cs : Array Value) : LiesF B (w.setRow g cs) s x := ⟨h.p, h.rk.setRow hg cs, h.l0.setRow hg cs, h.l1.setRow hg cs, h.l2.setRow hg cs, h.hl.setRow hg cs, h.rd.setRow hg cs⟩
theorem LiesF.setCell (h : LiesF B w s x) {g : Nat} (hg : g < B) (j : Nat) (v : Value) : LiesF B (w.setCell ⟨g, j, none⟩ v) s x := ⟨h.p, h.rk.setCell hg j v, h.l0.setCell hg j v, h.l1.setCell hg j v, h.l2.setCell hg j v, h.hl.setCell hg j v, h.rd.setCell hg j v⟩
end
theorem copied (k : IntKind) (l : List Int) (n : Nat) (hn : n = l.length) : ((iv k (List.replicate n 0)).toList.take 0 ++ (l.map (Value.int k) ++ (iv k (List.replicate n 0)).toList.drop (0 + (l.map (Value.int k)).length))).toArray = iv k l := by
  subst hn
  have : (iv k (List.replicate l.length 0)).toList.drop (0 + (l.map (Value.int k)).length) = [] := List.drop_eq_nil_of_le (by simp [iv])
  rw [this]; simp [iv]
theorem srcs {w : World} {k : IntKind} {b off : Nat} {l : List Int} (hc : ∀ i (h : i < l.length), w.cell? ⟨b, off + i, none⟩ = some (.int k l[i])) : ∀ j u, (l.map (Value.int k))[j]? = some u → w.cell? ((⟨b, off, none⟩ : Addr).add j) = some u := fun j u hu => by
  rw [Addr.add_lit]
  rw [List.getElem?_map] at hu
  obtain ⟨x, hx, rfl⟩ := Option.map_eq_some_iff.1 hu
  obtain ⟨hj, rfl⟩ := List.getElem?_eq_some_iff.1 hx
  exact hc j hj
theorem ones1 {k : IntKind} {l : List Int} : ∀ u ∈ l.map (Value.int k), u.oneCell' = true := fun u hu => by
  obtain ⟨_, _, rfl⟩ := List.mem_map.1 hu
  rfl
theorem fresh_int_nil (a : Option Addr) (c : Nat) (w : World) : Calls Try.prog 100 #[.slice a 0 c] w fun e w' => e = .returned (.slice none 0 0) ∧ Below w.heap.size w w' := by
  go_enter Try.func100, Try.ntmps100
  go_wp2
  go_ret
  exact ⟨rfl, Below.refl _ _⟩
set_option maxRecDepth 10000 in
theorem fresh_int_pos (b off n c : Nat) (l : List Int) (hn : n = l.length) (h0 : 0 < n) (hm : n ≤ 1000) (w : World) (hb : b < w.heap.size) (hc : ∀ i (h : i < l.length), w.cell? ⟨b, off + i, none⟩ = some (.int .i64 l[i])) :
    Calls Try.prog 100 #[.slice (some ⟨b, off, none⟩) n c] w fun e w' => e = .returned (.slice (some ⟨w.heap.size, 0, none⟩) n n) ∧ Bk w' w.heap.size (iv .i64 l) 3 ∧ Below w.heap.size w w' := by
  have HN := Lib.hid hn
  have HC := Lib.hid hc
  have hl : (l.map (Value.int .i64)).length = Nat.min n n := by simp [hn]
  have hf : 0 + (l.map (Value.int .i64)).length ≤ (iv .i64 (List.replicate n 0)).size := by simp [hn, iv]
  have HL := Lib.hid hl
  have HF := Lib.hid hf
  have hcp := copied .i64 l n hn
  have HCP := Lib.hid hcp
  have hsz : (Try.prog.info? 3).map (·.size) = some 1 := by kernel_rfl
  have HSZ := Lib.hid hsz
  clear hn hc hl hf hcp hsz
  go_enter Try.func100, Try.ntmps100
  go_wp2_with (first | (refine make_row Try.underlying28 infoI (by decide) rfl _ _ rfl n rfl rfl (by omega) ?_) | (refine wpList_copy_own (o := ⟨some 12, _, _, _, _, _⟩) rfl (.tmp 10) (.tmp 11) 28 28 rfl 3 Try.underlying28 HSZ.out w.heap.size 0 n n ⟨b, off, none⟩ n c rfl rfl (iv .i64 (List.replicate n 0)) 3 (heap_alloc_new _ _) (l.map (Value.int .i64)) HL.out (srcs fun i h => (Below.cell (p := ⟨b, off + i, none⟩) (((Below.refl w.heap.size w).alloc (Nat.le_refl _) _)) hb).trans (HC.out i h)) HF.out ones1 ?_; rw [HCP.out]))
  go_ret
  exact ⟨rfl, (Bk.new w (iv .i64 (List.replicate n 0)) 3).setRow _, below_setRow ((Below.refl _ _).alloc (Nat.le_refl _) _) (Nat.le_refl _) _⟩
theorem fresh_int {w : World} {x : Sl} {l : List Int} (h : Reads w .i64 x.v l) (hm : l.length ≤ 1000) : Calls Try.prog 100 #[x.v] w fun e w' => ∃ y : Sl, e = .returned y.v ∧ Fresh w.heap.size w' .i64 3 y l ∧ Below w.heap.size w w' := by
  obtain ⟨ad, cap, he, h1, h2, h3⟩ := h
  rw [he]
  rcases h3 with rfl | ⟨b, off, rfl, hb, hc⟩
  · exact (fresh_int_nil ad cap w).mono fun e w' ⟨h1, h2⟩ => ⟨nilS, h1, ⟨rfl, World.ownsRow_nil _ _ _ _⟩, h2⟩
  · by_cases h0 : l.length = 0
    · obtain rfl : l = [] := List.eq_nil_of_length_eq_zero h0
      exact (fresh_int_nil _ cap w).mono fun e w' ⟨h1, h2⟩ => ⟨nilS, h1, ⟨rfl, World.ownsRow_nil _ _ _ _⟩, h2⟩
    · refine (fresh_int_pos b off l.length cap l rfl (by omega) hm w hb hc).mono fun e w' ⟨h1, h2, h3⟩ => ⟨⟨some ⟨w.heap.size, 0, none⟩, l.length, l.length⟩, h1, ⟨rfl, ?_⟩, h3⟩
      refine ⟨by simp, .inr ⟨w.heap.size, l.length, iv .i64 l, rfl, Nat.le_refl _, h2, Nat.le_refl _, by unfold maxLen; omega, by simp [iv], by rw [iv_toList, Nat.mul_one]; exact List.take_of_length_le (by simp)⟩⟩
theorem fresh_word_nil (a : Option Addr) (c : Nat) (w : World) : Calls Try.prog 101 #[.slice a 0 c] w fun e w' => e = .returned (.slice none 0 0) ∧ Below w.heap.size w w' := by
  go_enter Try.func101, Try.ntmps101
  go_wp2
  go_ret
  exact ⟨rfl, Below.refl _ _⟩
set_option maxRecDepth 10000 in
theorem fresh_word_pos (b off n c : Nat) (l : List Int) (hn : n = l.length) (h0 : 0 < n) (hm : n ≤ 1000) (w : World) (hb : b < w.heap.size) (hc : ∀ i (h : i < l.length), w.cell? ⟨b, off + i, none⟩ = some (.int .u64 l[i])) :
    Calls Try.prog 101 #[.slice (some ⟨b, off, none⟩) n c] w fun e w' => e = .returned (.slice (some ⟨w.heap.size, 0, none⟩) n n) ∧ Bk w' w.heap.size (iv .u64 l) 22 ∧ Below w.heap.size w w' := by
  have HN := Lib.hid hn
  have HC := Lib.hid hc
  have hl : (l.map (Value.int .u64)).length = Nat.min n n := by simp [hn]
  have hf : 0 + (l.map (Value.int .u64)).length ≤ (iv .u64 (List.replicate n 0)).size := by simp [hn, iv]
  have HL := Lib.hid hl
  have HF := Lib.hid hf
  have hcp := copied .u64 l n hn
  have HCP := Lib.hid hcp
  have hsz : (Try.prog.info? 22).map (·.size) = some 1 := by kernel_rfl
  have HSZ := Lib.hid hsz
  clear hn hc hl hf hcp hsz
  go_enter Try.func101, Try.ntmps101
  go_wp2_with (first | (refine make_row Try.underlying25 infoU (by decide) rfl _ _ rfl n rfl rfl (by omega) ?_) | (refine wpList_copy_own (o := ⟨some 12, _, _, _, _, _⟩) rfl (.tmp 10) (.tmp 11) 25 25 rfl 22 Try.underlying25 HSZ.out w.heap.size 0 n n ⟨b, off, none⟩ n c rfl rfl (iv .u64 (List.replicate n 0)) 22 (heap_alloc_new _ _) (l.map (Value.int .u64)) HL.out (srcs fun i h => (Below.cell (p := ⟨b, off + i, none⟩) (((Below.refl w.heap.size w).alloc (Nat.le_refl _) _)) hb).trans (HC.out i h)) HF.out ones1 ?_; rw [HCP.out]))
  go_ret
  exact ⟨rfl, (Bk.new w (iv .u64 (List.replicate n 0)) 22).setRow _, below_setRow ((Below.refl _ _).alloc (Nat.le_refl _) _) (Nat.le_refl _) _⟩
theorem fresh_word {w : World} {x : Sl} {l : List Int} (h : Reads w .u64 x.v l) (hm : l.length ≤ 1000) : Calls Try.prog 101 #[x.v] w fun e w' => ∃ y : Sl, e = .returned y.v ∧ Fresh w.heap.size w' .u64 22 y l ∧ Below w.heap.size w w' := by
  obtain ⟨ad, cap, he, h1, h2, h3⟩ := h
  rw [he]
  rcases h3 with rfl | ⟨b, off, rfl, hb, hc⟩
  · exact (fresh_word_nil ad cap w).mono fun e w' ⟨h1, h2⟩ => ⟨nilS, h1, ⟨rfl, World.ownsRow_nil _ _ _ _⟩, h2⟩
  · by_cases h0 : l.length = 0
    · obtain rfl : l = [] := List.eq_nil_of_length_eq_zero h0
      exact (fresh_word_nil _ cap w).mono fun e w' ⟨h1, h2⟩ => ⟨nilS, h1, ⟨rfl, World.ownsRow_nil _ _ _ _⟩, h2⟩
    · refine (fresh_word_pos b off l.length cap l rfl (by omega) hm w hb hc).mono fun e w' ⟨h1, h2, h3⟩ => ⟨⟨some ⟨w.heap.size, 0, none⟩, l.length, l.length⟩, h1, ⟨rfl, ?_⟩, h3⟩
      refine ⟨by simp, .inr ⟨w.heap.size, l.length, iv .u64 l, rfl, Nat.le_refl _, h2, Nat.le_refl _, by unfold maxLen; omega, by simp [iv], by rw [iv_toList, Nat.mul_one]; exact List.take_of_length_le (by simp)⟩⟩
/-- A state whose lists lie in memory of their own, from block B on, without room to spare. -/
structure Anew (B : Nat) (w : World) (s : Wk) (x : St) : Prop where
  p : s.p = x.p
  rk : Fresh B w .i64 3 s.rk x.rk
  l0 : Fresh B w .i64 3 s.l0 x.l0
  l1 : Fresh B w .i64 3 s.l1 x.l1
  l2 : Fresh B w .i64 3 s.l2 x.l2
  hl : Fresh B w .i64 3 s.hl x.hl
  rd : Fresh B w .u64 22 s.rd x.rd
theorem Anew.lies {B : Nat} {w : World} {s : Wk} {x : St} (h : Anew B w s x) : Lies w s x := ⟨h.p, h.rk.reads, h.l0.reads, h.l1.reads, h.l2.reads, h.hl.reads, h.rd.reads⟩
theorem Anew.liesF {B : Nat} {w : World} {s : Wk} {x : St} (h : Anew B w s x) : LiesF B w s x := ⟨h.p, h.rk.rdF, h.l0.rdF, h.l1.rdF, h.l2.rdF, h.hl.rdF, h.rd.rdF⟩
theorem Anew.keep {B : Nat} {w w' : World} {s : Wk} {x : St} (h : Anew B w s x) (hb : Below w.heap.size w w') : Anew B w' s x :=
  ⟨h.p, h.rk.keep hb, h.l0.keep hb, h.l1.keep hb, h.l2.keep hb, h.hl.keep hb, h.rd.keep hb⟩
section
variable {B : Nat} {w w' : World} {s : Wk} {x : St}
theorem Anew.base {B' : Nat} (h : Anew B w s x) (hb : B' ≤ B) : Anew B' w s x := ⟨h.p, h.rk.base hb, h.l0.base hb, h.l1.base hb, h.l2.base hb, h.hl.base hb, h.rd.base hb⟩
theorem Anew.setCell (h : Anew B w s x) {g : Nat} (hg : g < B) (j : Nat) (v : Value) : Anew B (w.setCell ⟨g, j, none⟩ v) s x := ⟨h.p, h.rk.setCell hg j v, h.l0.setCell hg j v, h.l1.setCell hg j v, h.l2.setCell hg j v, h.hl.setCell hg j v, h.rd.setCell hg j v⟩
theorem Anew.setRow (h : Anew B w s x) {g : Nat} (hg : g < B) (cs : Array Value) : Anew B (w.setRow g cs) s x := ⟨h.p, h.rk.setRow hg cs, h.l0.setRow hg cs, h.l1.setRow hg cs, h.l2.setRow hg cs, h.hl.setRow hg cs, h.rd.setRow hg cs⟩
end
/-- The parameter's box and the result's. -/
structure Two (w0 : World) (gx gz : Nat) (a b : Wk) (w : World) : Prop where
  X : Bk w gx (wc a) 34
  Z : Bk w gz (wc b) 34
  below : Below w0.heap.size w0 w
  gx0 : w0.heap.size ≤ gx
  gz0 : w0.heap.size ≤ gz
  ne : gx ≠ gz
section
variable {w0 w w' : World} {gx gz : Nat} {a b : Wk}
theorem Two.start (w : World) (a : Wk) : Two w w.heap.size (w.heap.size + 1) a wz ((w.alloc (.cells (wc a) 34)).alloc (.cells (wc wz) 34)) :=
  ⟨(Bk.new w (wc a) 34).alloc _, by have := Bk.new (w.alloc (.cells (wc a) 34)) (wc wz) 34; simpa using this, ((Below.refl _ _).alloc (Nat.le_refl _) _).alloc (by simp) _, Nat.le_refl _, by omega, by omega⟩
theorem Two.startAt {w1 : World} (hb : Below w0.heap.size w0 w1) (a : Wk) : Two w0 w1.heap.size (w1.heap.size + 1) a wz ((w1.alloc (.cells (wc a) 34)).alloc (.cells (wc wz) 34)) :=
  have h := Two.start w1 a
  ⟨h.X, h.Z, hb.trans (h.below.mono hb.size), hb.size, by have := hb.size; omega, h.ne⟩
theorem Two.keep (h : Two w0 gx gz a b w) (hb : Below w.heap.size w w') : Two w0 gx gz a b w' :=
  ⟨h.X.keep hb, h.Z.keep hb, h.below.trans (hb.mono h.below.size), h.gx0, h.gz0, h.ne⟩
theorem Two.setX (h : Two w0 gx gz a b w) (j : Nat) (v : Value) (a' : Wk) (e : (wc a).setIfInBounds j v = wc a') : Two w0 gx gz a' b (w.setCell ⟨gx, j, none⟩ v) :=
  ⟨e ▸ h.X.setCell j v, h.Z.setCell_far (a := ⟨gx, j, none⟩) h.ne.symm v, h.below.setCell (p := ⟨gx, j, none⟩) h.gx0 v, h.gx0, h.gz0, h.ne⟩
theorem Two.rowX (h : Two w0 gx gz a b w) (a' : Wk) : Two w0 gx gz a' b (w.setRow gx (wc a')) :=
  ⟨h.X.setRow _, h.Z.setRow_far h.ne.symm _, below_setRow h.below h.gx0 _, h.gx0, h.gz0, h.ne⟩
theorem Two.rowZ (h : Two w0 gx gz a b w) (b' : Wk) : Two w0 gx gz a b' (w.setRow gz (wc b')) :=
  ⟨h.X.setRow_far h.ne _, h.Z.setRow _, below_setRow h.below h.gz0 _, h.gx0, h.gz0, h.ne⟩
theorem Two.lt (h : Two w0 gx gz a b w) : gx < w.heap.size ∧ gz < w.heap.size := ⟨h.X.lt, h.Z.lt⟩
end
end Go.Proofs.Yticgpikpefgldaa.Wo

/- Part Works. -/
import Derived.Test.YtaiodbcnbcdokaaGreatKApp
import Derived.Test.YtaiodbcnbcdokaaGreatKPlans
set_option linter.unusedVariables false
set_option linter.unusedSimpArgs false
set_option linter.unusedSectionVars false
set_option maxRecDepth 100000
set_option maxHeartbeats 16000000
namespace Go.Proofs.YtaiodbcnbcdokaaGreat.Wo
open Go Go.RowKit Gro Own Wd Ap
structure Pl where
 (ln o0 o1 o2 o3 : Int) (o4 : Bool) (o5 o6 : Int) (pn : Bool) (ep t0 t1 t2 : Int)
 (b k i c br h n v u g j t rt : Int) (gv : Bool)
 deriving DecidableEq
structure Wk where
 (p : Pl) (rk l0 l1 l2 hl rd : Sl)
def wc (s : Wk) : Array Value := #[.int .i64 s.p.ln, .int .i64 s.p.o0, .int .u64 s.p.o1, .int .u64 s.p.o2, .int .i64 s.p.o3, .bool s.p.o4, .int .i64 s.p.o5, .int .i64 s.p.o6, .bool s.p.pn, .int .u64 s.p.ep, s.rk.v,
 .int .u64 s.p.t0, s.l0.v, .int .u64 s.p.t1, s.l1.v, .int .u64 s.p.t2, s.l2.v, s.hl.v,
 .int .i64 s.p.b, .int .i64 s.p.k, .int .i64 s.p.i, .int .i64 s.p.c, .int .i64 s.p.br, .int .u64 s.p.h, .int .u64 s.p.n, .int .u64 s.p.v, .int .u64 s.p.u, .int .u64 s.p.g, .int .i64 s.p.j, s.rd.v, .int .u64 s.p.t, .int .i64 s.p.rt, .bool s.p.gv]
def pz : Pl := ⟨0, 0, 0, 0, 0, false, 0, 0, false, 0, 0, 0, 0, 0, 0, 0, 0, 0, 0, 0, 0, 0, 0, 0, 0, 0, false⟩
def wz : Wk := ⟨pz, aG, aG, aG, aG, aG, aG⟩
abbrev wv (s : Wk) : Value := .agg (wc s)
structure St where
 (p : Pl) (rk l0 l1 l2 hl rd : List Int)
 deriving DecidableEq
structure aP (w : World) (s : Wk) (x : St) : Prop where
 p : s.p = x.p
 rk : Reads w .i64 s.rk.v x.rk
 l0 : Reads w .i64 s.l0.v x.l0
 l1 : Reads w .i64 s.l1.v x.l1
 l2 : Reads w .i64 s.l2.v x.l2
 hl : Reads w .i64 s.hl.v x.hl
 rd : Reads w .u64 s.rd.v x.rd
theorem aP.keep {w w' : World} {s : Wk} {x : St} (h : aP w s x) (hb : Below w.heap.size w w') : aP w' s x :=
 ⟨h.p, h.rk.keep hb, h.l0.keep hb, h.l1.keep hb, h.l2.keep hb, h.hl.keep hb, h.rd.keep hb⟩
structure Few (m : Nat) (x : St) : Prop where
 rk : x.rk.length ≤ m
 l0 : x.l0.length ≤ m
 l1 : x.l1.length ≤ m
 l2 : x.l2.length ≤ m
 hl : x.hl.length ≤ m
 rd : x.rd.length ≤ m
theorem set_rk (s : Wk) (y : Sl) : (wc s).setIfInBounds 10 y.v = wc { s with rk := y } := rfl
theorem set_l0 (s : Wk) (y : Sl) : (wc s).setIfInBounds 12 y.v = wc { s with l0 := y } := rfl
theorem set_l1 (s : Wk) (y : Sl) : (wc s).setIfInBounds 14 y.v = wc { s with l1 := y } := rfl
theorem set_l2 (s : Wk) (y : Sl) : (wc s).setIfInBounds 16 y.v = wc { s with l2 := y } := rfl
theorem set_hl (s : Wk) (y : Sl) : (wc s).setIfInBounds 17 y.v = wc { s with hl := y } := rfl
theorem set_rd (s : Wk) (y : Sl) : (wc s).setIfInBounds 29 y.v = wc { s with rd := y } := rfl
theorem infoI : ∃ i, Tryz.prog.info? 3 = some i ∧ i.zero = some (.int .i64 0) ∧ i.size = 1 ∧ i.bytes = 8 := by
 have h : (Tryz.prog.info? 3).map (fun i => (i.zero, i.size, i.bytes)) = some (some (.int .i64 0), 1, 8) := ah
 exact info_parts h
theorem infoU : ∃ i, Tryz.prog.info? 22 = some i ∧ i.zero = some (.int .u64 0) ∧ i.size = 1 ∧ i.bytes = 8 := qav
theorem elemI : Elem Tryz.prog 37 3 1 8 := ⟨Tryz.underlying37, by
 obtain ⟨i, h1, h2, h3, h4⟩ := infoI
 exact ⟨i, _, h1, h2, h3, h4, rfl⟩, by decide, by decide⟩
theorem elemU : Elem Tryz.prog 40 22 1 8 := ⟨Tryz.underlying40, by
 obtain ⟨i, h1, h2, h3, h4⟩ := infoU
 exact ⟨i, _, h1, h2, h3, h4, rfl⟩, by decide, by decide⟩
def bD (B : Nat) (w : World) (k : IntKind) (t : TypeId) (y : Sl) (l : List Int) : Prop := w.ownsRow B t 1 y.v l.length (l.map (.int k))
theorem ownsRow_setRow_below {w : World} {base : Nat} {e : TypeId} {size : Nat} {v : Value} {n : Nat} {xs : List Value} (h : w.ownsRow base e size v n xs) {g : Nat} (hg : g < base) (cs : Array Value) : (w.setRow g cs).ownsRow base e size v n xs := by
 refine ⟨h.1, ?_⟩
 rcases h.2 with h0 | ⟨g', cap, cur, he, hge, hh, rest⟩
 ·exact .inl h0
 ·exact .inr ⟨g', cap, cur, he, hge, (setRow_other w g g' cs aj).trans hh, rest⟩
section
variable {B : Nat} {w : World} {k : IntKind} {t : TypeId} {y : Sl} {l : List Int}
theorem bD.reads (h : bD B w k t y l) : Reads w k y.v l := Reads.of_own h rfl
theorem bD.keep {w' : World} (h : bD B w k t y l) (hb : Below w.heap.size w w') : bD B w' k t y l := owns_below h hb (fun g hg => (World.ownsRow.lt h g hg).2)
theorem bD.base {B' : Nat} (h : bD B w k t y l) (hb : B' ≤ B) : bD B' w k t y l := by
 refine ⟨h.1, ?_⟩
 rcases h.2 with h0 | ⟨g, cap, cur, he, hge, rest⟩
 ·exact .inl h0
 ·exact .inr ⟨g, cap, cur, he, Nat.le_trans hb hge, rest⟩
theorem bD.setCell (h : bD B w k t y l) {g : Nat} (hg : g < B) (j : Nat) (v : Value) : bD B (w.setCell ⟨g, j, none⟩ v) k t y l := ownsRow_setCell_below h (a := ⟨g, j, none⟩) hg v
theorem bD.setRow (h : bD B w k t y l) {g : Nat} (hg : g < B) (cs : Array Value) : bD B (w.setRow g cs) k t y l := ownsRow_setRow_below h hg cs
theorem bD.nil : bD B w k t aG [] := World.ownsRow_nil _ _ _ _
def bK (B : Nat) (w : World) (k : IntKind) (t : TypeId) (y : Sl) (l : List Int) : Prop := y.cap = y.len ∧ bD B w k t y l
theorem bK.reads (h : bK B w k t y l) : Reads w k y.v l := h.2.reads
theorem bK.keep {w' : World} (h : bK B w k t y l) (hb : Below w.heap.size w w') : bK B w' k t y l := ⟨h.1, h.2.keep hb⟩
theorem bK.base {B' : Nat} (h : bK B w k t y l) (hb : B' ≤ B) : bK B' w k t y l := ⟨h.1, h.2.base hb⟩
theorem bK.setCell (h : bK B w k t y l) {g : Nat} (hg : g < B) (j : Nat) (v : Value) : bK B (w.setCell ⟨g, j, none⟩ v) k t y l := ⟨h.1, h.2.setCell hg j v⟩
theorem bK.setRow (h : bK B w k t y l) {g : Nat} (hg : g < B) (cs : Array Value) : bK B (w.setRow g cs) k t y l := ⟨h.1, h.2.setRow hg cs⟩
theorem bK.nil : bK B w k t aG [] := ⟨rfl, bD.nil⟩
end
def RdF (B : Nat) (w : World) (k : IntKind) (y : Sl) (l : List Int) : Prop := Reads w k y.v l ∧ (l = [] ∨ ∀ a, y.ad = some a → B ≤ a.block)
section
variable {B : Nat} {w : World} {k : IntKind} {t : TypeId} {y : Sl} {l : List Int}
theorem bD.rdF (h : bD B w k t y l) : RdF B w k y l := by
 refine ⟨h.reads, .inr fun a ha => ?_⟩
 rcases h.2 with ⟨he, _⟩ | ⟨g, cap, cur, he, hge, _⟩
 ·simp only [Sl.v, Value.slice.injEq] at he; rw [he.1] at ha; cases ha
 ·simp only [Sl.v, Value.slice.injEq] at he; rw [he.1] at ha; cases ha; exact hge
theorem bK.rdF (h : bK B w k t y l) : RdF B w k y l := h.2.rdF
theorem RdF.base {B' : Nat} (h : RdF B w k y l) (hb : B' ≤ B) : RdF B' w k y l := ⟨h.1, h.2.imp id fun f a ha => Nat.le_trans hb (f a ha)⟩
theorem RdF.keep {w' : World} (h : RdF B w k y l) (hb : Below w.heap.size w w') : RdF B w' k y l := ⟨h.1.keep hb, h.2⟩
theorem RdF.far {w' : World} (h : RdF B w k y l) (hs : w.heap.size ≤ w'.heap.size) (hc : ∀ b o, B ≤ b → w'.cell? ⟨b, o, none⟩ = w.cell? ⟨b, o, none⟩) : RdF B w' k y l := by
 obtain ⟨⟨ad, cap, he, h1, h2, h3⟩, hf⟩ := h
 refine ⟨⟨ad, cap, he, h1, h2, ?_⟩, hf⟩
 rcases h3 with h3 | ⟨b, off, rfl, hlt, h3⟩
 ·exact .inl h3
 ·rcases hf with hf | hf
  ·exact .inl hf
  ·simp only [Sl.v, Value.slice.injEq] at he
   exact .inr ⟨b, off, rfl, Nat.lt_of_lt_of_le hlt hs, fun i hi => (hc _ _ (hf _ he.1)).trans (h3 i hi)⟩
theorem RdF.setRow (h : RdF B w k y l) {g : Nat} (hg : g < B) (cs : Array Value) : RdF B (w.setRow g cs) k y l :=
 h.far aF fun b o hb => World.cell?_of_block (setRow_other w g b cs aj)
theorem RdF.setCell (h : RdF B w k y l) {g : Nat} (hg : g < B) (j : Nat) (v : Value) : RdF B (w.setCell ⟨g, j, none⟩ v) k y l :=
 h.far aF fun b o hb => World.cell?_of_block (heap_setCell_other w _ b v (show b ≠ g by omega))
end
structure aQ (B : Nat) (w : World) (s : Wk) (x : St) : Prop where
 p : s.p = x.p
 rk : RdF B w .i64 s.rk x.rk
 l0 : RdF B w .i64 s.l0 x.l0
 l1 : RdF B w .i64 s.l1 x.l1
 l2 : RdF B w .i64 s.l2 x.l2
 hl : RdF B w .i64 s.hl x.hl
 rd : RdF B w .u64 s.rd x.rd
section
variable {B : Nat} {w : World} {s : Wk} {x : St}
theorem aQ.lies (h : aQ B w s x) : aP w s x := ⟨h.p, h.rk.1, h.l0.1, h.l1.1, h.l2.1, h.hl.1, h.rd.1⟩
theorem aQ.base {B' : Nat} (h : aQ B w s x) (hb : B' ≤ B) : aQ B' w s x := ⟨h.p, h.rk.base hb, h.l0.base hb, h.l1.base hb, h.l2.base hb, h.hl.base hb, h.rd.base hb⟩
theorem aQ.keep {w' : World} (h : aQ B w s x) (hb : Below w.heap.size w w') : aQ B w' s x := ⟨h.p, h.rk.keep hb, h.l0.keep hb, h.l1.keep hb, h.l2.keep hb, h.hl.keep hb, h.rd.keep hb⟩
theorem aQ.setRow (h : aQ B w s x) {g : Nat} (hg : g < B) (cs : Array Value) : aQ B (w.setRow g cs) s x := ⟨h.p, h.rk.setRow hg cs, h.l0.setRow hg cs, h.l1.setRow hg cs, h.l2.setRow hg cs, h.hl.setRow hg cs, h.rd.setRow hg cs⟩
theorem aQ.setCell (h : aQ B w s x) {g : Nat} (hg : g < B) (j : Nat) (v : Value) : aQ B (w.setCell ⟨g, j, none⟩ v) s x := ⟨h.p, h.rk.setCell hg j v, h.l0.setCell hg j v, h.l1.setCell hg j v, h.l2.setCell hg j v, h.hl.setCell hg j v, h.rd.setCell hg j v⟩
end
theorem copied (k : IntKind) (l : List Int) (n : Nat) (hn : n = l.length) : ((iv k (List.replicate n 0)).toList.take 0 ++ (l.map (Value.int k) ++ (iv k (List.replicate n 0)).toList.drop (0 + (l.map (Value.int k)).length))).toArray = iv k l := by
 subst hn
 have : (iv k (List.replicate l.length 0)).toList.drop (0 + (l.map (Value.int k)).length) = [] := List.drop_eq_nil_of_le (by simp [iv])
 rw [this]; simp [iv]
theorem srcs {w : World} {k : IntKind} {b off : Nat} {l : List Int} (hc : ∀ i (h : i < l.length), w.cell? ⟨b, off + i, none⟩ = some (.int k l[i])) : ∀ j u, (l.map (Value.int k))[j]? = some u → w.cell? ((⟨b, off, none⟩ : Addr).add j) = some u := fun j u hu => qa1
theorem ones1 {k : IntKind} {l : List Int} : ∀ u ∈ l.map (Value.int k), u.oneCell' = true := fun u hu => by
 obtain ⟨_, _, rfl⟩ := List.mem_map.1 hu
 rfl
theorem fresh_int_nil (a : Option Addr) (c : Nat) (w : World) : Calls Tryz.prog 103 #[.slice a 0 c] w fun e w' => e = .returned (.slice none 0 0) ∧ Below w.heap.size w w' := by
 go_enter Tryz.func103, Tryz.ntmps103
 exact qa1t
theorem fresh_int_pos (b off n c : Nat) (l : List Int) (hn : n = l.length) (h0 : 0 < n) (hm : n ≤ 1000) (w : World) (hb : b < w.heap.size) (hc : ∀ i (h : i < l.length), w.cell? ⟨b, off + i, none⟩ = some (.int .i64 l[i])) :
  Calls Tryz.prog 103 #[.slice (some ⟨b, off, none⟩) n c] w fun e w' => e = .returned (.slice (some ⟨w.heap.size, 0, none⟩) n n) ∧ Bk w' w.heap.size (iv .i64 l) 3 ∧ Below w.heap.size w w' := by
 have HN := Lib.hid hn
 have HC := Lib.hid hc
 have hl : (l.map (Value.int .i64)).length = Nat.min n n := by simp [hn]
 have hf : 0 + (l.map (Value.int .i64)).length ≤ (iv .i64 (List.replicate n 0)).size := by simp [hn, iv]
 have HL := Lib.hid hl
 have HF := Lib.hid hf
 have hcp := copied .i64 l n hn
 have HCP := Lib.hid hcp
 have hsz : (Tryz.prog.info? 3).map (·.size) = some 1 := ah
 have HSZ := Lib.hid hsz
 clear hn hc hl hf hcp hsz
 go_enter Tryz.func103, Tryz.ntmps103
 go_wp2_with (first | (refine make_row Tryz.underlying37 infoI aL rfl _ _ rfl n rfl rfl aj ?_) | (refine wpList_copy_own (o := ⟨some 12, _, _, _, _, _⟩) rfl (.tmp 10) (.tmp 11) 37 37 rfl 3 Tryz.underlying37 HSZ.out w.heap.size 0 n n ⟨b, off, none⟩ n c rfl rfl (iv .i64 (List.replicate n 0)) 3 (heap_alloc_new _ _) (l.map (Value.int .i64)) HL.out (srcs fun i h => (Below.cell (p := ⟨b, off + i, none⟩) (((Below.refl w.heap.size w).alloc (Nat.le_refl _) _)) hb).trans (HC.out i h)) HF.out ones1 ?_; rw [HCP.out]))
 go_ret
 exact ⟨rfl, (Bk.new w (iv .i64 (List.replicate n 0)) 3).setRow _, below_setRow ((Below.refl _ _).alloc (Nat.le_refl _) _) (Nat.le_refl _) _⟩
theorem jG {w : World} {x : Sl} {l : List Int} (h : Reads w .i64 x.v l) (hm : l.length ≤ 1000) : Calls Tryz.prog 103 #[x.v] w fun e w' => ∃ y : Sl, e = .returned y.v ∧ bK w.heap.size w' .i64 3 y l ∧ Below w.heap.size w w' := by
 obtain ⟨ad, cap, he, h1, h2, h3⟩ := h
 rw [he]
 rcases h3 with rfl | ⟨b, off, rfl, hb, hc⟩
 ·exact (fresh_int_nil ad cap w).mono fun e w' ⟨h1, h2⟩ => ⟨aG, h1, ⟨rfl, World.ownsRow_nil _ _ _ _⟩, h2⟩
 ·by_cases h0 : l.length = 0
  ·obtain rfl : l = [] := List.eq_nil_of_length_eq_zero h0
   exact (fresh_int_nil _ cap w).mono fun e w' ⟨h1, h2⟩ => ⟨aG, h1, ⟨rfl, World.ownsRow_nil _ _ _ _⟩, h2⟩
  ·refine (fresh_int_pos b off l.length cap l rfl aj hm w hb hc).mono fun e w' ⟨h1, h2, h3⟩ => ⟨⟨some ⟨w.heap.size, 0, none⟩, l.length, l.length⟩, h1, ⟨rfl, ?_⟩, h3⟩
   refine ⟨by simp, .inr ⟨w.heap.size, l.length, iv .i64 l, rfl, Nat.le_refl _, h2, Nat.le_refl _, by unfold maxLen; omega, by simp [iv], by rw [iv_toList, Nat.mul_one]; exact List.take_of_length_le aF⟩⟩
theorem fresh_word_nil (a : Option Addr) (c : Nat) (w : World) : Calls Tryz.prog 104 #[.slice a 0 c] w fun e w' => e = .returned (.slice none 0 0) ∧ Below w.heap.size w w' := by
 go_enter Tryz.func104, Tryz.ntmps104
 exact qa1t
theorem fresh_word_pos (b off n c : Nat) (l : List Int) (hn : n = l.length) (h0 : 0 < n) (hm : n ≤ 1000) (w : World) (hb : b < w.heap.size) (hc : ∀ i (h : i < l.length), w.cell? ⟨b, off + i, none⟩ = some (.int .u64 l[i])) :
  Calls Tryz.prog 104 #[.slice (some ⟨b, off, none⟩) n c] w fun e w' => e = .returned (.slice (some ⟨w.heap.size, 0, none⟩) n n) ∧ Bk w' w.heap.size (iv .u64 l) 22 ∧ Below w.heap.size w w' := by
 have HN := Lib.hid hn
 have HC := Lib.hid hc
 have hl : (l.map (Value.int .u64)).length = Nat.min n n := by simp [hn]
 have hf : 0 + (l.map (Value.int .u64)).length ≤ (iv .u64 (List.replicate n 0)).size := by simp [hn, iv]
 have HL := Lib.hid hl
 have HF := Lib.hid hf
 have hcp := copied .u64 l n hn
 have HCP := Lib.hid hcp
 have hsz : (Tryz.prog.info? 22).map (·.size) = some 1 := ah
 have HSZ := Lib.hid hsz
 clear hn hc hl hf hcp hsz
 go_enter Tryz.func104, Tryz.ntmps104
 go_wp2_with (first | (refine make_row Tryz.underlying40 infoU aL rfl _ _ rfl n rfl rfl aj ?_) | (refine wpList_copy_own (o := ⟨some 12, _, _, _, _, _⟩) rfl (.tmp 10) (.tmp 11) 40 40 rfl 22 Tryz.underlying40 HSZ.out w.heap.size 0 n n ⟨b, off, none⟩ n c rfl rfl (iv .u64 (List.replicate n 0)) 22 (heap_alloc_new _ _) (l.map (Value.int .u64)) HL.out (srcs fun i h => (Below.cell (p := ⟨b, off + i, none⟩) (((Below.refl w.heap.size w).alloc (Nat.le_refl _) _)) hb).trans (HC.out i h)) HF.out ones1 ?_; rw [HCP.out]))
 go_ret
 exact ⟨rfl, (Bk.new w (iv .u64 (List.replicate n 0)) 22).setRow _, below_setRow ((Below.refl _ _).alloc (Nat.le_refl _) _) (Nat.le_refl _) _⟩
theorem fresh_word {w : World} {x : Sl} {l : List Int} (h : Reads w .u64 x.v l) (hm : l.length ≤ 1000) : Calls Tryz.prog 104 #[x.v] w fun e w' => ∃ y : Sl, e = .returned y.v ∧ bK w.heap.size w' .u64 22 y l ∧ Below w.heap.size w w' := by
 obtain ⟨ad, cap, he, h1, h2, h3⟩ := h
 rw [he]
 rcases h3 with rfl | ⟨b, off, rfl, hb, hc⟩
 ·exact (fresh_word_nil ad cap w).mono fun e w' ⟨h1, h2⟩ => ⟨aG, h1, ⟨rfl, World.ownsRow_nil _ _ _ _⟩, h2⟩
 ·by_cases h0 : l.length = 0
  ·obtain rfl : l = [] := List.eq_nil_of_length_eq_zero h0
   exact (fresh_word_nil _ cap w).mono fun e w' ⟨h1, h2⟩ => ⟨aG, h1, ⟨rfl, World.ownsRow_nil _ _ _ _⟩, h2⟩
  ·refine (fresh_word_pos b off l.length cap l rfl aj hm w hb hc).mono fun e w' ⟨h1, h2, h3⟩ => ⟨⟨some ⟨w.heap.size, 0, none⟩, l.length, l.length⟩, h1, ⟨rfl, ?_⟩, h3⟩
   refine ⟨by simp, .inr ⟨w.heap.size, l.length, iv .u64 l, rfl, Nat.le_refl _, h2, Nat.le_refl _, by unfold maxLen; omega, by simp [iv], by rw [iv_toList, Nat.mul_one]; exact List.take_of_length_le aF⟩⟩
structure dI (B : Nat) (w : World) (s : Wk) (x : St) : Prop where
 p : s.p = x.p
 rk : bK B w .i64 3 s.rk x.rk
 l0 : bK B w .i64 3 s.l0 x.l0
 l1 : bK B w .i64 3 s.l1 x.l1
 l2 : bK B w .i64 3 s.l2 x.l2
 hl : bK B w .i64 3 s.hl x.hl
 rd : bK B w .u64 22 s.rd x.rd
theorem dI.lies {B : Nat} {w : World} {s : Wk} {x : St} (h : dI B w s x) : aP w s x := ⟨h.p, h.rk.reads, h.l0.reads, h.l1.reads, h.l2.reads, h.hl.reads, h.rd.reads⟩
theorem dI.dL {B : Nat} {w : World} {s : Wk} {x : St} (h : dI B w s x) : aQ B w s x := ⟨h.p, h.rk.rdF, h.l0.rdF, h.l1.rdF, h.l2.rdF, h.hl.rdF, h.rd.rdF⟩
theorem dI.keep {B : Nat} {w w' : World} {s : Wk} {x : St} (h : dI B w s x) (hb : Below w.heap.size w w') : dI B w' s x :=
 ⟨h.p, h.rk.keep hb, h.l0.keep hb, h.l1.keep hb, h.l2.keep hb, h.hl.keep hb, h.rd.keep hb⟩
section
variable {B : Nat} {w w' : World} {s : Wk} {x : St}
theorem dI.base {B' : Nat} (h : dI B w s x) (hb : B' ≤ B) : dI B' w s x := ⟨h.p, h.rk.base hb, h.l0.base hb, h.l1.base hb, h.l2.base hb, h.hl.base hb, h.rd.base hb⟩
theorem dI.setCell (h : dI B w s x) {g : Nat} (hg : g < B) (j : Nat) (v : Value) : dI B (w.setCell ⟨g, j, none⟩ v) s x := ⟨h.p, h.rk.setCell hg j v, h.l0.setCell hg j v, h.l1.setCell hg j v, h.l2.setCell hg j v, h.hl.setCell hg j v, h.rd.setCell hg j v⟩
theorem dI.setRow (h : dI B w s x) {g : Nat} (hg : g < B) (cs : Array Value) : dI B (w.setRow g cs) s x := ⟨h.p, h.rk.setRow hg cs, h.l0.setRow hg cs, h.l1.setRow hg cs, h.l2.setRow hg cs, h.hl.setRow hg cs, h.rd.setRow hg cs⟩
end
structure Two (w0 : World) (gx gz : Nat) (a b : Wk) (w : World) : Prop where
 X : Bk w gx (wc a) 46
 Z : Bk w gz (wc b) 46
 below : Below w0.heap.size w0 w
 gx0 : w0.heap.size ≤ gx
 gz0 : w0.heap.size ≤ gz
 ne : gx ≠ gz
section
variable {w0 w w' : World} {gx gz : Nat} {a b : Wk}
theorem Two.start (w : World) (a : Wk) : Two w w.heap.size (w.heap.size + 1) a wz ((w.alloc (.cells (wc a) 46)).alloc (.cells (wc wz) 46)) :=
 ⟨(Bk.new w (wc a) 46).alloc _, by have := Bk.new (w.alloc (.cells (wc a) 46)) (wc wz) 46; simpa using this, ((Below.refl _ _).alloc (Nat.le_refl _) _).alloc aF _, Nat.le_refl _, by omega, by omega⟩
theorem Two.aY {w1 : World} (hb : Below w0.heap.size w0 w1) (a : Wk) : Two w0 w1.heap.size (w1.heap.size + 1) a wz ((w1.alloc (.cells (wc a) 46)).alloc (.cells (wc wz) 46)) :=
 have h := Two.start w1 a
 ⟨h.X, h.Z, hb.trans (h.below.mono hb.size), hb.size, by have := hb.size; omega, h.ne⟩
theorem Two.keep (h : Two w0 gx gz a b w) (hb : Below w.heap.size w w') : Two w0 gx gz a b w' :=
 ⟨h.X.keep hb, h.Z.keep hb, h.below.trans (hb.mono h.below.size), h.gx0, h.gz0, h.ne⟩
theorem Two.bZ (h : Two w0 gx gz a b w) (j : Nat) (v : Value) (a' : Wk) (e : (wc a).setIfInBounds j v = wc a') : Two w0 gx gz a' b (w.setCell ⟨gx, j, none⟩ v) :=
 ⟨e ▸ h.X.setCell j v, h.Z.aA (a := ⟨gx, j, none⟩) h.ne.symm v, h.below.setCell (p := ⟨gx, j, none⟩) h.gx0 v, h.gx0, h.gz0, h.ne⟩
theorem Two.bO (h : Two w0 gx gz a b w) (a' : Wk) : Two w0 gx gz a' b (w.setRow gx (wc a')) :=
 ⟨h.X.setRow _, h.Z.aJ h.ne.symm _, below_setRow h.below h.gx0 _, h.gx0, h.gz0, h.ne⟩
theorem Two.bN (h : Two w0 gx gz a b w) (b' : Wk) : Two w0 gx gz a b' (w.setRow gz (wc b')) :=
 ⟨h.X.aJ h.ne _, h.Z.setRow _, below_setRow h.below h.gz0 _, h.gx0, h.gz0, h.ne⟩
theorem Two.lt (h : Two w0 gx gz a b w) : gx < w.heap.size ∧ gz < w.heap.size := ⟨h.X.lt, h.Z.lt⟩
end
end Go.Proofs.YtaiodbcnbcdokaaGreat.Wo
namespace Go.Proofs.YtaiodbcnbcdokaaGreat.Wo
open Go Go.RowKit Gro Own Wd Ap
theorem aW (s : Wk) (x : St) (hx : Few 1000 x) (w : World) (h : aP w s x) :
  Calls Tryz.prog 67 #[wv s] w fun e w' => ∃ s', e = .returned (wv s') ∧ dI w.heap.size w' s' x ∧ Below w.heap.size w w' := by
 have e10 : ∀ s : Wk, (wc s)[10]? = some s.rk.v := fun _ => rfl
 have e12 : ∀ s : Wk, (wc s)[12]? = some s.l0.v := fun _ => rfl
 have e14 : ∀ s : Wk, (wc s)[14]? = some s.l1.v := fun _ => rfl
 have e16 : ∀ s : Wk, (wc s)[16]? = some s.l2.v := fun _ => rfl
 have e17 : ∀ s : Wk, (wc s)[17]? = some s.hl.v := fun _ => rfl
 have e29 : ∀ s : Wk, (wc s)[29]? = some s.rd.v := fun _ => rfl
 have T0 := Two.start w s
 go_enter Tryz.func67, Tryz.ntmps67
 go_wp2_with fail
 refine (jG (h.keep T0.below).rk hx.rk).mono ?_
 rintro e v1 ⟨y1, rfl, f1, hb1⟩
 have U1 := T0.keep hb1
 have b1 := T0.lt
 have F1 := (f1.base (B' := w.heap.size + 2) aj).setCell (g := w.heap.size) aj 10 y1.v
 have T1 := U1.bZ 10 y1.v { s with rk := y1 } (set_rk _ _)
 have x1 := U1.X.cells
 have z1 := U1.X.frozen
 clear f1 hb1 T0
 go_wp2_with fail
 generalize v1.setCell ⟨w.heap.size, 10, none⟩ y1.v = w1 at *
 clear x1 z1 U1
 refine (jG (h.keep T1.below).hl hx.hl).mono ?_
 rintro e v2 ⟨y2, rfl, f2, hb2⟩
 have U2 := T1.keep hb2
 have b2 := T1.lt
 have F2 := (f2.base (B' := w.heap.size + 2) aj).setCell (g := w.heap.size) aj 17 y2.v
 have F1 := (F1.keep hb2).setCell (g := w.heap.size) aj 17 y2.v
 have T2 := U2.bZ 17 y2.v { s with rk := y1, hl := y2 } (set_hl _ _)
 have x2 := U2.X.cells
 have z2 := U2.X.frozen
 clear f2 hb2 T1
 go_wp2_with fail
 generalize v2.setCell ⟨w.heap.size, 17, none⟩ y2.v = w2 at *
 clear x2 z2 U2
 refine (fresh_word (h.keep T2.below).rd hx.rd).mono ?_
 rintro e v3 ⟨y3, rfl, f3, hb3⟩
 have U3 := T2.keep hb3
 have b3 := T2.lt
 have F3 := (f3.base (B' := w.heap.size + 2) aj).setCell (g := w.heap.size) aj 29 y3.v
 have F1 := (F1.keep hb3).setCell (g := w.heap.size) aj 29 y3.v
 have F2 := (F2.keep hb3).setCell (g := w.heap.size) aj 29 y3.v
 have T3 := U3.bZ 29 y3.v { s with rk := y1, hl := y2, rd := y3 } (set_rd _ _)
 have x3 := U3.X.cells
 have z3 := U3.X.frozen
 clear f3 hb3 T2
 go_wp2_with fail
 refine wp_loop_rounds 4 ?_
 rw [rounds_succ]
 go_wp2_with fail
 generalize v3.setCell ⟨w.heap.size, 29, none⟩ y3.v = w3 at *
 clear x3 z3 U3
 refine (jG (h.keep T3.below).l0 hx.l0).mono ?_
 rintro e v4 ⟨y4, rfl, f4, hb4⟩
 have U4 := T3.keep hb4
 have b4 := T3.lt
 have F4 := (f4.base (B' := w.heap.size + 2) aj).setCell (g := w.heap.size) aj 12 y4.v
 have F1 := (F1.keep hb4).setCell (g := w.heap.size) aj 12 y4.v
 have F2 := (F2.keep hb4).setCell (g := w.heap.size) aj 12 y4.v
 have F3 := (F3.keep hb4).setCell (g := w.heap.size) aj 12 y4.v
 have T4 := U4.bZ 12 y4.v { s with rk := y1, hl := y2, rd := y3, l0 := y4 } (set_l0 _ _)
 have x4 := U4.X.cells
 have z4 := U4.X.frozen
 clear f4 hb4 T3
 go_wp2_with fail
 rw [rounds_succ]
 go_wp2_with fail
 generalize v4.setCell ⟨w.heap.size, 12, none⟩ y4.v = w4 at *
 clear x4 z4 U4
 refine (jG (h.keep T4.below).l1 hx.l1).mono ?_
 rintro e v5 ⟨y5, rfl, f5, hb5⟩
 have U5 := T4.keep hb5
 have b5 := T4.lt
 have F5 := (f5.base (B' := w.heap.size + 2) aj).setCell (g := w.heap.size) aj 14 y5.v
 have F1 := (F1.keep hb5).setCell (g := w.heap.size) aj 14 y5.v
 have F2 := (F2.keep hb5).setCell (g := w.heap.size) aj 14 y5.v
 have F3 := (F3.keep hb5).setCell (g := w.heap.size) aj 14 y5.v
 have F4 := (F4.keep hb5).setCell (g := w.heap.size) aj 14 y5.v
 have T5 := U5.bZ 14 y5.v { s with rk := y1, hl := y2, rd := y3, l0 := y4, l1 := y5 } (set_l1 _ _)
 have x5 := U5.X.cells
 have z5 := U5.X.frozen
 clear f5 hb5 T4
 go_wp2_with fail
 rw [rounds_succ]
 go_wp2_with fail
 generalize v5.setCell ⟨w.heap.size, 14, none⟩ y5.v = w5 at *
 clear x5 z5 U5
 refine (jG (h.keep T5.below).l2 hx.l2).mono ?_
 rintro e v6 ⟨y6, rfl, f6, hb6⟩
 have U6 := T5.keep hb6
 have b6 := T5.lt
 have F6 := (f6.base (B' := w.heap.size + 2) aj).setCell (g := w.heap.size) aj 16 y6.v
 have F1 := (F1.keep hb6).setCell (g := w.heap.size) aj 16 y6.v
 have F2 := (F2.keep hb6).setCell (g := w.heap.size) aj 16 y6.v
 have F3 := (F3.keep hb6).setCell (g := w.heap.size) aj 16 y6.v
 have F4 := (F4.keep hb6).setCell (g := w.heap.size) aj 16 y6.v
 have F5 := (F5.keep hb6).setCell (g := w.heap.size) aj 16 y6.v
 have T6 := U6.bZ 16 y6.v { s with rk := y1, hl := y2, rd := y3, l0 := y4, l1 := y5, l2 := y6 } (set_l2 _ _)
 have x6 := U6.X.cells
 have z6 := U6.X.frozen
 clear f6 hb6 T5
 go_wp2_with fail
 rw [rounds_succ]
 go_wp2_with (first | (refine wpList_load_row rfl _ _ rfl w.heap.size rfl _ (wc { s with rk := y1, hl := y2, rd := y3, l0 := y4, l1 := y5, l2 := y6 }) (0, 0) _ T6.X Tryz.underlying46 rfl ah ?_) | (refine wpList_store_row rfl _ _ _ rfl (w.heap.size + 1) (wc { s with rk := y1, hl := y2, rd := y3, l0 := y4, l1 := y5, l2 := y6 }) rfl rfl _ _ T6.Z ah ah ah ?_))
 have T7 := T6.bN { s with rk := y1, hl := y2, rd := y3, l0 := y4, l1 := y5, l2 := y6 }
 refine bodyPost_ret (v := wv { s with rk := y1, hl := y2, rd := y3, l0 := y4, l1 := y5, l2 := y6 }) ?_ rfl ⟨_, rfl, ⟨h.p, ?_, ?_, ?_, ?_, ?_, ?_⟩, T7.below⟩
 ·exact results_cell_row (p := 2) (ty := 46) Tryz.results67 _ _ (w.heap.size + 1) 46 _ (0, 0) _ rfl T7.Z Tryz.underlying46 rfl ah
 ·exact (F1.setRow aj _).base aj
 ·exact (F4.setRow aj _).base aj
 ·exact (F5.setRow aj _).base aj
 ·exact (F6.setRow aj _).base aj
 ·exact (F2.setRow aj _).base aj
 ·exact (F3.setRow aj _).base aj
end Go.Proofs.YtaiodbcnbcdokaaGreat.Wo
namespace Go.Proofs.YtaiodbcnbcdokaaGreat.Wo
open Go Go.RowKit Gro Own Wd Ap Go.Proofs.YtaiodbcnbcdokaaGreat.Pl
abbrev ccW (c : Cfg) : Array Value := #[.int .i64 c.ww, .int .i64 c.sl, .int .i64 c.bl, .int .i64 c.wd, .int .i64 c.en, .int .i64 c.rk, .int .i64 c.bg, .int .u64 c.la]
theorem Few.mono {m m' : Nat} {x : St} (h : Few m x) (hm : m ≤ m') : Few m' x := ⟨Nat.le_trans h.rk hm, Nat.le_trans h.l0 hm, Nat.le_trans h.l1 hm, Nat.le_trans h.l2 hm, Nat.le_trans h.hl hm, Nat.le_trans h.rd hm⟩
def putS (m : Int) (x : St) (b : Int) : St := if (x.rk.length : Int) < m then { x with rk := x.rk ++ [b] } else x
def takeS (x : St) : St := { x with rk := x.rk.dropLast }
def takeB (x : St) : Int := x.rk.getLastD (-1)
def holdS (x : St) (M : List Int) : St := { x with hl := x.hl ++ M }
def jq (x : St) : St := { x with hl := x.hl.tail }
def nextB (x : St) : Int := x.hl.headD (-1)
theorem reads_one {w : World} {k : IntKind} {t : TypeId} {v : Int} {g : Nat} (hg : g = w.heap.size) : Reads (w.alloc (.cells #[.int k v] t)) k (.slice (some ⟨g, 0, none⟩) 1 1) [v] := by
 subst hg
 exact Reads.dn (l := [v]) (Bk.new w #[.int k v] t) fZ
theorem bK.cells {B : Nat} {w : World} {k : IntKind} {t : TypeId} {y : Sl} {l : List Int} (h : bK B w k t y l) (h0 : 0 < l.length) : ∃ g, y = ⟨some ⟨g, 0, none⟩, l.length, l.length⟩ ∧ B ≤ g ∧ g < w.heap.size ∧ ∀ i (hi : i < l.length), w.cell? ⟨g, i, none⟩ = some (.int k l[i]) := by
 obtain ⟨ht, ho⟩ := h
 obtain ⟨g, cap, he, hB, hg, _, _, hc⟩ := eG ho h0
 obtain ⟨ad, ln, cp⟩ := y
 simp only [Sl.v, Value.slice.injEq] at he
 obtain ⟨rfl, rfl, rfl⟩ := he
 simp only at ht
 subst ht
 exact ⟨g, rfl, hB, hg, fun i hi => by rw [hc i qa4g]; simp [hi]⟩
theorem reads_cut {w : World} {k : IntKind} {g n cap : Nat} {off : Nat} {l : List Int} (hg : g < w.heap.size) (hl : l.length = n) (h1 : n ≤ cap) (h2 : cap ≤ maxLen) (h : ∀ i (hi : i < l.length), w.cell? ⟨g, off + i, none⟩ = some (.int k l[i])) : Reads w k (.slice (some ⟨g, off, none⟩) n cap) l :=
 ⟨_, cap, by rw [hl], by omega, h2, .inr ⟨g, off, rfl, hg, h⟩⟩
theorem rackPut_yes (c : Cfg) (s : Wk) (x : St) (hx : Few 900 x) (b : Int) (w : World) (h : aP w s x) (hm : (x.rk.length : Int) < c.rk) :
  Calls Tryz.prog 221 #[cv c, wv s, .int .i64 b] w fun e w' => ∃ s', e = .returned (.tuple #[wv s', .bool true]) ∧ aQ w.heap.size w' s' { x with rk := x.rk ++ [b] } ∧ Below w.heap.size w w' := by
 have e10 : ∀ s : Wk, (wc s)[10]? = some s.rk.v := fun _ => rfl
 have hw0 : Below w.heap.size w (w.alloc (.cells (ccW c) 24)) := (Below.refl _ _).alloc (Nat.le_refl _) _
 have T0 := Two.aY hw0 s
 have C0 := (((Bk.new w (ccW c) 24).alloc (.cells (wc s) 46)).alloc (.cells (wc wz) 46))
 rw [show (w.alloc (.cells (ccW c) 24)).heap.size = w.heap.size + 1 by simp] at T0
 go_enter Tryz.func221, Tryz.ntmps221
 go_wp2_with (refine wpList_load_row rfl 46 _ rfl (w.heap.size + 1) rfl _ (wc s) (0, 0) _ bT Tryz.underlying46 rfl ah ?_)
 refine (aW s x (hx.mono aj) _ (h.keep T0.below)).mono ?_
 rintro e w1 ⟨s', rfl, A1, hb1⟩
 have T1 := T0.keep hb1
 have b0 := T0.lt
 have b1 := T1.lt
 have T2 := T1.bO s'
 have A2 := A1.setRow (g := w.heap.size + 1) aj (wc s')
 have C1 := C0.keep hb1
 have C2 := C1.aJ (g' := w.heap.size + 1) aj (wc s')
 have hs1 : (((w.alloc (Obj.cells (ccW c) 24)).alloc (Obj.cells (wc s) 46)).alloc (Obj.cells (wc wz) 46)).heap.size ≤ w1.heap.size := hb1.size
 have hlen := bI A1.rk.reads
 have x2 := T2.X.cells
 have c2 := C2.cells
 have hlt : (s'.rk.len : Int) < c.rk := aj
 have HLEN := Lib.hid hlen
 have HTG := Lib.hid A1.rk.1
 clear hlen C0 T0 hb1
 have hxr := hx.rk
 go_wp2_with (first | (refine wpList_store_row rfl 46 _ _ rfl (w.heap.size + 1) (wc s') rfl rfl _ _ dG ah ah ah ?_) | (at_builtin; refine iy elemI rfl _ _ rfl _ s'.rk x.rk rfl (A2.rk.2.keep ((Below.refl _ _).alloc (Nat.le_refl _) _)) HTG.out _ [b] rfl (reads_one aF) bq qa4y ?_; intro y w3 r3 hb3; have T3 := (T2.keep ((Below.refl _ _).alloc (Nat.le_refl _) _)).keep hb3; have x3 := T3.X.cells; have z3 := T3.X.frozen; have T4 := T3.bZ 10 y.v { s' with rk := y } (set_rk _ _)) | (refine wpList_load_row rfl 46 _ rfl (w.heap.size + 1) rfl _ (wc { s' with rk := y }) (0, 0) _ qa4z Tryz.underlying46 rfl ah ?_) | (refine wpList_store_row rfl 46 _ _ rfl (w.heap.size + 1 + 1) (wc { s' with rk := y }) rfl rfl _ _ qa50 ah ah ah ?_))
 have T5 := T4.bN { s' with rk := y }
 refine bodyPost_ret (v := .tuple #[wv { s' with rk := y }, .bool true]) ?_ rfl ⟨_, rfl, ?_, T5.below⟩
 ·exact qa3u
 ·have A3 := ((A2.keep ((Below.refl _ _).alloc (Nat.le_refl _) _)).keep hb3).setCell (g := w.heap.size + 1) aj 10 y.v
  have A4 := A3.setRow (g := w.heap.size + 1 + 1) aj (wc { s' with rk := y })
  have Y4 : bD _ _ _ _ y (x.rk ++ [b]) := bD.setRow (g := w.heap.size + 1 + 1) (bD.setCell (g := w.heap.size + 1) r3 aj 10 y.v) aj (wc { s' with rk := y })
  exact aQ.base ⟨A1.p, bD.rdF Y4, A4.l0.rdF, A4.l1.rdF, A4.l2.rdF, A4.hl.rdF, A4.rd.rdF⟩ aj
theorem rackPut_no (c : Cfg) (s : Wk) (x : St) (hx : Few 900 x) (b : Int) (w : World) (h : aP w s x) (hm : ¬ (x.rk.length : Int) < c.rk) :
  Calls Tryz.prog 221 #[cv c, wv s, .int .i64 b] w fun e w' => ∃ s', e = .returned (.tuple #[wv s', .bool false]) ∧ aQ w.heap.size w' s' x ∧ Below w.heap.size w w' := by
 have e10 : ∀ s : Wk, (wc s)[10]? = some s.rk.v := fun _ => rfl
 have hw0 : Below w.heap.size w (w.alloc (.cells (ccW c) 24)) := (Below.refl _ _).alloc (Nat.le_refl _) _
 have T0 := Two.aY hw0 s
 have C0 := (((Bk.new w (ccW c) 24).alloc (.cells (wc s) 46)).alloc (.cells (wc wz) 46))
 rw [show (w.alloc (.cells (ccW c) 24)).heap.size = w.heap.size + 1 by simp] at T0
 go_enter Tryz.func221, Tryz.ntmps221
 go_wp2_with (refine wpList_load_row rfl 46 _ rfl (w.heap.size + 1) rfl _ (wc s) (0, 0) _ bT Tryz.underlying46 rfl ah ?_)
 refine (aW s x (hx.mono aj) _ (h.keep T0.below)).mono ?_
 rintro e w1 ⟨s', rfl, A1, hb1⟩
 have T1 := T0.keep hb1
 have b0 := T0.lt
 have b1 := T1.lt
 have T2 := T1.bO s'
 have A2 := A1.setRow (g := w.heap.size + 1) aj (wc s')
 have C1 := C0.keep hb1
 have C2 := C1.aJ (g' := w.heap.size + 1) aj (wc s')
 have hs1 : (((w.alloc (Obj.cells (ccW c) 24)).alloc (Obj.cells (wc s) 46)).alloc (Obj.cells (wc wz) 46)).heap.size ≤ w1.heap.size := hb1.size
 have hlen := bI A1.rk.reads
 have x2 := T2.X.cells
 have c2 := C2.cells
 have hlt : c.rk ≤ (s'.rk.len : Int) := aj
 clear hlen C0 T0 hb1
 go_wp2_with (first | (refine wpList_store_row rfl 46 _ _ rfl (w.heap.size + 1) (wc s') rfl rfl _ _ dG ah ah ah ?_) | (refine wpList_load_row rfl 46 _ rfl (w.heap.size + 1) rfl _ (wc s') (0, 0) _ qa51 Tryz.underlying46 rfl ah ?_) | (refine wpList_store_row rfl 46 _ _ rfl (w.heap.size + 1 + 1) (wc s') rfl rfl _ _ (by exact T2.Z) ah ah ah ?_))
 have T5 := T2.bN s'
 refine bodyPost_ret (v := .tuple #[wv s', .bool false]) ?_ rfl ⟨_, rfl, ?_, T5.below⟩
 ·exact qa3u
 ·exact (A2.setRow (g := w.heap.size + 1 + 1) aj _).dL.base aj
theorem rackPut (c : Cfg) (s : Wk) (x : St) (hx : Few 900 x) (b : Int) (w : World) (h : aP w s x) :
  Calls Tryz.prog 221 #[cv c, wv s, .int .i64 b] w fun e w' => ∃ s', e = .returned (.tuple #[wv s', .bool (decide ((x.rk.length : Int) < c.rk))]) ∧ aQ w.heap.size w' s' (putS c.rk x b) ∧ Below w.heap.size w w' := by
 by_cases hm : (x.rk.length : Int) < c.rk
 ·rw [putS, if_pos hm, decide_eq_true hm]; exact rackPut_yes c s x hx b w h hm
 ·rw [putS, if_neg hm, decide_eq_false hm]; exact rackPut_no c s x hx b w h hm
theorem rackTake_no (s : Wk) (x : St) (hx : Few 900 x) (w : World) (h : aP w s x) (hm : x.rk = []) :
  Calls Tryz.prog 176 #[wv s] w fun e w' => ∃ s', e = .returned (.tuple #[wv s', .int .i64 (-1)]) ∧ aQ w.heap.size w' s' x ∧ Below w.heap.size w w' := by
 have e10 : ∀ s : Wk, (wc s)[10]? = some s.rk.v := fun _ => rfl
 have T0 := Two.start w s
 go_enter Tryz.func176, Tryz.ntmps176
 go_wp2_with (refine wpList_load_row rfl 46 _ rfl (w.heap.size) rfl _ (wc s) (0, 0) _ bT Tryz.underlying46 rfl ah ?_)
 refine (aW s x (hx.mono aj) _ (h.keep T0.below)).mono ?_
 rintro e w1 ⟨s', rfl, A1, hb1⟩
 have T1 := T0.keep hb1
 have b0 := T0.lt
 have b1 := T1.lt
 have T2 := T1.bO s'
 have A2 := A1.setRow (g := w.heap.size) aj (wc s')
 have hlen := bI A1.rk.reads
 have x2 := T2.X.cells
 rw [hm] at hlen
 obtain ⟨p', rk', l0', l1', l2', hl', rd'⟩ := s'
 obtain ⟨ad, ln, cp⟩ := rk'
 simp only [List.length_nil] at hlen
 subst hlen
 have SH : RowKit.Hid (∃ q : Wk, q = (⟨p', ⟨ad, 0, cp⟩, l0', l1', l2', hl', rd'⟩ : Wk)) := Lib.hid ⟨_, rfl⟩
 clear T0 hb1
 go_wp2_with (first | (refine wpList_store_row rfl 46 _ _ rfl (w.heap.size) (wc ⟨p', ⟨ad, 0, cp⟩, l0', l1', l2', hl', rd'⟩) rfl rfl _ _ dG ah ah ah ?_) | (refine wpList_load_row rfl 46 _ rfl (w.heap.size) rfl _ (wc ⟨p', ⟨ad, 0, cp⟩, l0', l1', l2', hl', rd'⟩) (0, 0) _ qa51 Tryz.underlying46 rfl ah ?_) | (refine wpList_store_row rfl 46 _ _ rfl (w.heap.size + 1) (wc ⟨p', ⟨ad, 0, cp⟩, l0', l1', l2', hl', rd'⟩) rfl rfl _ _ (by exact T2.Z) ah ah ah ?_))
 have T5 := T2.bN ⟨p', ⟨ad, 0, cp⟩, l0', l1', l2', hl', rd'⟩
 refine bodyPost_ret (v := .tuple #[wv ⟨p', ⟨ad, 0, cp⟩, l0', l1', l2', hl', rd'⟩, .int .i64 (-1)]) ?_ rfl ⟨_, rfl, ?_, T5.below⟩
 ·exact qa3v
 ·exact (A2.setRow (g := w.heap.size + 1) aj _).dL.base aj
theorem rackTake_yes (s : Wk) (x : St) (hx : Few 900 x) (w : World) (h : aP w s x) (n : Nat) (hn : x.rk.length = n + 1) :
  Calls Tryz.prog 176 #[wv s] w fun e w' => ∃ s', e = .returned (.tuple #[wv s', .int .i64 (takeB x)]) ∧ aQ w.heap.size w' s' (takeS x) ∧ Below w.heap.size w w' := by
 have e10 : ∀ s : Wk, (wc s)[10]? = some (.slice s.rk.ad s.rk.len s.rk.cap) := fun _ => rfl
 have T0 := Two.start w s
 go_enter Tryz.func176, Tryz.ntmps176
 go_wp2_with (refine wpList_load_row rfl 46 _ rfl (w.heap.size) rfl _ (wc s) (0, 0) _ bT Tryz.underlying46 rfl ah ?_)
 refine (aW s x (hx.mono aj) _ (h.keep T0.below)).mono ?_
 rintro e w1 ⟨s', rfl, A1, hb1⟩
 have T1 := T0.keep hb1
 have b0 := T0.lt
 have b1 := T1.lt
 have T2 := T1.bO s'
 have A2 := A1.setRow (g := w.heap.size) aj (wc s')
 obtain ⟨p', rk', l0', l1', l2', hl', rd'⟩ := s'
 obtain ⟨g, hy, hBg, hg1, hcs⟩ := A1.rk.cells aj
 simp only at hy
 subst hy
 have hlast := hcs n aj
 have hxr := hx.rk
 have hTB : takeB x = x.rk[n] := by
  have hb : n < x.rk.length := aj
  unfold takeB
  rw [List.getLastD_eq_getLast?, List.getLast?_eq_getElem?]
  simp [hn, hb]
 have HTB := Lib.hid hTB
 have HCS := Lib.hid hcs
 have hgx : g ≠ w.heap.size := aj
 rw [hn] at T2 A2
 have x2 := T2.X.cells
 have z2 := T2.X.frozen
 have hl2 : (w1.setRow (w.heap.size) (wc ⟨p', ⟨some ⟨g, 0, none⟩, n + 1, n + 1⟩, l0', l1', l2', hl', rd'⟩)).cell? ⟨g, n, none⟩ = some (.int .i64 x.rk[n]) := by
  rw [← hlast]; exact World.cell?_of_block (setRow_other w1 (w.heap.size) g _ hgx)
 rw [hn]
 have HN := Lib.hid hn
 have hn900 : n < 900 := aj
 clear T0 hb1 hTB hcs hlast
 have T3 := T2.bZ 10 (Sl.v ⟨some ⟨g, 0, none⟩, n, n + 1⟩) ⟨p', ⟨some ⟨g, 0, none⟩, n, n + 1⟩, l0', l1', l2', hl', rd'⟩ (set_rk _ _)
 go_wp2_with (first | (refine wpList_store_row rfl 46 _ _ rfl (w.heap.size) (wc ⟨p', ⟨some ⟨g, 0, none⟩, n + 1, n + 1⟩, l0', l1', l2', hl', rd'⟩) rfl rfl _ _ dG ah ah ah ?_) | (refine wpList_load_row rfl 46 _ rfl (w.heap.size) rfl _ (wc ⟨p', ⟨some ⟨g, 0, none⟩, n, n + 1⟩, l0', l1', l2', hl', rd'⟩) (0, 0) _ qa52 Tryz.underlying46 rfl ah ?_) | (refine wpList_store_row rfl 46 _ _ rfl (w.heap.size + 1) (wc ⟨p', ⟨some ⟨g, 0, none⟩, n, n + 1⟩, l0', l1', l2', hl', rd'⟩) rfl rfl _ _ qa53 ah ah ah ?_))
 have T5 := T3.bN ⟨p', ⟨some ⟨g, 0, none⟩, n, n + 1⟩, l0', l1', l2', hl', rd'⟩
 refine bodyPost_ret (v := .tuple #[wv ⟨p', ⟨some ⟨g, 0, none⟩, n, n + 1⟩, l0', l1', l2', hl', rd'⟩, .int .i64 x.rk[n]]) ?_ rfl ⟨_, by rw [HTB.out], ?_, T5.below⟩
 ·exact qa3v
 ·have A4 := (A2.setCell (g := w.heap.size) aj 10 (Sl.v ⟨some ⟨g, 0, none⟩, n, n + 1⟩)).setRow (g := w.heap.size + 1) aj (wc ⟨p', ⟨some ⟨g, 0, none⟩, n, n + 1⟩, l0', l1', l2', hl', rd'⟩)
  refine aQ.base ⟨A1.p, ⟨reads_cut (g := g) (n := n) (cap := n + 1) (off := 0) (by simpa using hg1) (by simp [takeS, HN.out]) aj qa4f (fun i hi => ?_), .inr fun a ha => by cases ha; exact hBg⟩, A4.l0.rdF, A4.l1.rdF, A4.l2.rdF, A4.hl.rdF, A4.rd.rdF⟩ aj
  have hi' : i < n := by simpa [takeS, HN.out] using hi
  have e1 : (takeS x).rk[i] = x.rk[i]'qa54 := by simp [takeS]
  rw [Nat.zero_add, e1, ← HCS.out i qa54]
  exact qa3w
theorem rackTake (s : Wk) (x : St) (hx : Few 900 x) (w : World) (h : aP w s x) :
  Calls Tryz.prog 176 #[wv s] w fun e w' => ∃ s', e = .returned (.tuple #[wv s', .int .i64 (takeB x)]) ∧ aQ w.heap.size w' s' (takeS x) ∧ Below w.heap.size w w' := by
 by_cases hm : x.rk = []
 ·have e1 : takeB x = -1 := by simp [takeB, hm]
  have e2 : takeS x = x := qa55
  rw [e1, e2]; exact rackTake_no s x hx w h hm
 ·obtain ⟨n, hn⟩ : ∃ n, x.rk.length = n + 1 := ⟨x.rk.length - 1, by have := List.length_pos_iff.2 hm; omega⟩
  exact rackTake_yes s x hx w h n hn
theorem dF (s : Wk) (x : St) (hx : Few 900 x) (v : Sl) (M : List Int) (hM : M.length ≤ 900) (w : World) (h : aP w s x) (hv : Reads w .i64 v.v M) :
  Calls Tryz.prog 187 #[wv s, v.v] w fun e w' => ∃ s', e = .returned (wv s') ∧ (aQ w.heap.size w' s' (holdS x M) ∧ s'.rk.cap = s'.rk.len ∧ s'.l0.cap = s'.l0.len ∧ s'.l1.cap = s'.l1.len ∧ s'.l2.cap = s'.l2.len ∧ bD w.heap.size w' .i64 3 s'.hl (x.hl ++ M) ∧ dI w.heap.size w' { s' with hl := aG } { x with hl := [] }) ∧ Below w.heap.size w w' := by
 have e17 : ∀ s : Wk, (wc s)[17]? = some (.slice s.hl.ad s.hl.len s.hl.cap) := fun _ => rfl
 have T0 := Two.start w s
 go_enter Tryz.func187, Tryz.ntmps187
 go_wp2_with (refine wpList_load_row rfl 46 _ rfl (w.heap.size) rfl _ (wc s) (0, 0) _ bT Tryz.underlying46 rfl ah ?_)
 refine (aW s x (hx.mono aj) _ (h.keep T0.below)).mono ?_
 rintro e w1 ⟨s', rfl, A1, hb1⟩
 have T1 := T0.keep hb1
 have b0 := T0.lt
 have b1 := T1.lt
 have T2 := T1.bO s'
 have A2 := A1.setRow (g := w.heap.size) aj (wc s')
 have hs1 : ((w.alloc (Obj.cells (wc s) 46)).alloc (Obj.cells (wc wz) 46)).heap.size ≤ w1.heap.size := hb1.size
 have HTG := Lib.hid A1.hl.1
 have x2 := T2.X.cells
 have hxr := hx.hl
 have hv2 := hv.keep T2.below
 clear T0 hb1
 go_wp2_with (first | (refine wpList_store_row rfl 46 _ _ rfl (w.heap.size) (wc s') rfl rfl _ _ dG ah ah ah ?_) | (at_builtin; refine iy elemI rfl _ _ rfl _ s'.hl x.hl rfl A2.hl.2 HTG.out _ M rfl hv2 aj qa4y ?_; intro y w3 r3 hb3; have T3 := T2.keep hb3; have x3 := T3.X.cells; have z3 := T3.X.frozen; have T4 := T3.bZ 17 y.v { s' with hl := y } (set_hl _ _)) | (refine wpList_load_row rfl 46 _ rfl (w.heap.size) rfl _ (wc { s' with hl := y }) (0, 0) _ qa4z Tryz.underlying46 rfl ah ?_) | (refine wpList_store_row rfl 46 _ _ rfl (w.heap.size + 1) (wc { s' with hl := y }) rfl rfl _ _ qa50 ah ah ah ?_))
 have T5 := T4.bN { s' with hl := y }
 refine bodyPost_ret (v := wv { s' with hl := y }) ?_ rfl ⟨_, rfl, ?_, T5.below⟩
 ·exact results_cell_row (p := 4) (ty := 46) Tryz.results187 _ _ (w.heap.size + 1) 46 _ (0, 0) _ rfl T5.Z Tryz.underlying46 rfl ah
 ·have A3 := (A2.keep hb3).setCell (g := w.heap.size) aj 17 y.v
  have A4 := A3.setRow (g := w.heap.size + 1) aj (wc { s' with hl := y })
  have Y4 : bD _ _ _ _ y (x.hl ++ M) := bD.setRow (g := w.heap.size + 1) (bD.setCell (g := w.heap.size) r3 aj 17 y.v) aj (wc { s' with hl := y })
  refine ⟨aQ.base ⟨A1.p, A4.rk.rdF, A4.l0.rdF, A4.l1.rdF, A4.l2.rdF, bD.rdF Y4, A4.rd.rdF⟩ aj, A4.rk.1, A4.l0.1, A4.l1.1, A4.l2.1, Y4.base aj, dI.base (B := ((w.alloc (Obj.cells (wc s) 46)).alloc (Obj.cells (wc wz) 46)).heap.size) ⟨A1.p, A4.rk, A4.l0, A4.l1, A4.l2, bK.nil, A4.rd⟩ aj⟩
theorem rackNext_no (s : Wk) (x : St) (hx : Few 900 x) (w : World) (h : aP w s x) (hm : x.hl = []) :
  Calls Tryz.prog 216 #[wv s] w fun e w' => ∃ s', e = .returned (.tuple #[wv s', .int .i64 (-1)]) ∧ aQ w.heap.size w' s' x ∧ Below w.heap.size w w' := by
 have e17 : ∀ s : Wk, (wc s)[17]? = some (.slice s.hl.ad s.hl.len s.hl.cap) := fun _ => rfl
 have T0 := Two.start w s
 go_enter Tryz.func216, Tryz.ntmps216
 go_wp2_with (refine wpList_load_row rfl 46 _ rfl (w.heap.size) rfl _ (wc s) (0, 0) _ bT Tryz.underlying46 rfl ah ?_)
 refine (aW s x (hx.mono aj) _ (h.keep T0.below)).mono ?_
 rintro e w1 ⟨s', rfl, A1, hb1⟩
 have T1 := T0.keep hb1
 have b0 := T0.lt
 have b1 := T1.lt
 have T2 := T1.bO s'
 have A2 := A1.setRow (g := w.heap.size) aj (wc s')
 have hlen := bI A1.hl.reads
 have x2 := T2.X.cells
 rw [hm] at hlen
 obtain ⟨p', rk', l0', l1', l2', hl', rd'⟩ := s'
 obtain ⟨ad, ln, cp⟩ := hl'
 simp only [List.length_nil] at hlen
 subst hlen
 clear T0 hb1
 go_wp2_with (first | (refine wpList_store_row rfl 46 _ _ rfl (w.heap.size) (wc ⟨p', rk', l0', l1', l2', ⟨ad, 0, cp⟩, rd'⟩) rfl rfl _ _ dG ah ah ah ?_) | (refine wpList_load_row rfl 46 _ rfl (w.heap.size) rfl _ (wc ⟨p', rk', l0', l1', l2', ⟨ad, 0, cp⟩, rd'⟩) (0, 0) _ qa51 Tryz.underlying46 rfl ah ?_) | (refine wpList_store_row rfl 46 _ _ rfl (w.heap.size + 1) (wc ⟨p', rk', l0', l1', l2', ⟨ad, 0, cp⟩, rd'⟩) rfl rfl _ _ (by exact T2.Z) ah ah ah ?_))
 have T5 := T2.bN ⟨p', rk', l0', l1', l2', ⟨ad, 0, cp⟩, rd'⟩
 refine bodyPost_ret (v := .tuple #[wv ⟨p', rk', l0', l1', l2', ⟨ad, 0, cp⟩, rd'⟩, .int .i64 (-1)]) ?_ rfl ⟨_, rfl, ?_, T5.below⟩
 ·exact qa3x
 ·exact (A2.setRow (g := w.heap.size + 1) aj _).dL.base aj
theorem rackNext_many (s : Wk) (x : St) (hx : Few 900 x) (w : World) (h : aP w s x) (n : Nat) (hn : x.hl.length = n + 1) (hm : 0 < n) :
  Calls Tryz.prog 216 #[wv s] w fun e w' => ∃ s', e = .returned (.tuple #[wv s', .int .i64 (nextB x)]) ∧ aQ w.heap.size w' s' (jq x) ∧ Below w.heap.size w w' := by
 have e17 : ∀ s : Wk, (wc s)[17]? = some (.slice s.hl.ad s.hl.len s.hl.cap) := fun _ => rfl
 have T0 := Two.start w s
 go_enter Tryz.func216, Tryz.ntmps216
 go_wp2_with (refine wpList_load_row rfl 46 _ rfl (w.heap.size) rfl _ (wc s) (0, 0) _ bT Tryz.underlying46 rfl ah ?_)
 refine (aW s x (hx.mono aj) _ (h.keep T0.below)).mono ?_
 rintro e w1 ⟨s', rfl, A1, hb1⟩
 have T1 := T0.keep hb1
 have b0 := T0.lt
 have b1 := T1.lt
 have T2 := T1.bO s'
 have A2 := A1.setRow (g := w.heap.size) aj (wc s')
 obtain ⟨p', rk', l0', l1', l2', hl', rd'⟩ := s'
 obtain ⟨g, hy, hBg, hg1, hcs⟩ := A1.hl.cells aj
 simp only at hy
 subst hy
 have hfirst := hcs 0 aj
 have hxr := hx.hl
 have hTB : nextB x = x.hl[0] := qa3y
 have HTB := Lib.hid hTB
 have HCS := Lib.hid hcs
 have hgx : g ≠ w.heap.size := aj
 rw [hn] at T2 A2
 have x2 := T2.X.cells
 have z2 := T2.X.frozen
 have hl2 : (w1.setRow (w.heap.size) (wc ⟨p', rk', l0', l1', l2', ⟨some ⟨g, 0, none⟩, n + 1, n + 1⟩, rd'⟩)).cell? ⟨g, 0, none⟩ = some (.int .i64 x.hl[0]) := by
  rw [← hfirst]; exact World.cell?_of_block (setRow_other w1 (w.heap.size) g _ hgx)
 rw [hn]
 have HN := Lib.hid hn
 clear T0 hb1 hTB hcs hfirst
 have T3 := T2.bZ 17 (Sl.v ⟨some ⟨g, 1, none⟩, n, n⟩) ⟨p', rk', l0', l1', l2', ⟨some ⟨g, 1, none⟩, n, n⟩, rd'⟩ (set_hl _ _)
 skip
 go_wp2_with (first | (refine wpList_store_row rfl 46 _ _ rfl (w.heap.size) (wc ⟨p', rk', l0', l1', l2', ⟨some ⟨g, 0, none⟩, n + 1, n + 1⟩, rd'⟩) rfl rfl _ _ dG ah ah ah ?_) | (refine wpList_load_row rfl 46 _ rfl (w.heap.size) rfl _ (wc ⟨p', rk', l0', l1', l2', ⟨some ⟨g, 1, none⟩, n, n⟩, rd'⟩) (0, 0) _ qa52 Tryz.underlying46 rfl ah ?_) | (refine wpList_store_row rfl 46 _ _ rfl (w.heap.size + 1) (wc ⟨p', rk', l0', l1', l2', ⟨some ⟨g, 1, none⟩, n, n⟩, rd'⟩) rfl rfl _ _ qa53 ah ah ah ?_))
 have T5 := T3.bN ⟨p', rk', l0', l1', l2', ⟨some ⟨g, 1, none⟩, n, n⟩, rd'⟩
 refine bodyPost_ret (v := .tuple #[wv ⟨p', rk', l0', l1', l2', ⟨some ⟨g, 1, none⟩, n, n⟩, rd'⟩, .int .i64 x.hl[0]]) ?_ rfl ⟨_, by rw [HTB.out], ?_, T5.below⟩
 ·exact qa3x
 ·have A4 := (A2.setCell (g := w.heap.size) aj 17 (Sl.v ⟨some ⟨g, 1, none⟩, n, n⟩)).setRow (g := w.heap.size + 1) aj (wc ⟨p', rk', l0', l1', l2', ⟨some ⟨g, 1, none⟩, n, n⟩, rd'⟩)
  refine aQ.base ⟨A1.p, A4.rk.rdF, A4.l0.rdF, A4.l1.rdF, A4.l2.rdF, ⟨reads_cut (g := g) (n := n) (cap := n) (off := 1) (by simpa using hg1) (by simp [jq, HN.out]) aj qa4f (fun i hi => ?_), .inr fun a ha => by cases ha; exact hBg⟩, A4.rd.rdF⟩ aj
  have hi' : i < n := by simpa [jq, HN.out] using hi
  have e1 : (jq x).hl[i] = x.hl[1 + i]'qa54 := by simp [jq, Nat.add_comm]
  rw [e1, ← HCS.out (1 + i) qa54]
  exact qa3w
theorem rackNext_one (s : Wk) (x : St) (hx : Few 900 x) (w : World) (h : aP w s x) (hn : x.hl.length = 0 + 1) :
  Calls Tryz.prog 216 #[wv s] w fun e w' => ∃ s', e = .returned (.tuple #[wv s', .int .i64 (nextB x)]) ∧ aQ w.heap.size w' s' (jq x) ∧ Below w.heap.size w w' := by
 have e17 : ∀ s : Wk, (wc s)[17]? = some (.slice s.hl.ad s.hl.len s.hl.cap) := fun _ => rfl
 have T0 := Two.start w s
 go_enter Tryz.func216, Tryz.ntmps216
 go_wp2_with (refine wpList_load_row rfl 46 _ rfl (w.heap.size) rfl _ (wc s) (0, 0) _ bT Tryz.underlying46 rfl ah ?_)
 refine (aW s x (hx.mono aj) _ (h.keep T0.below)).mono ?_
 rintro e w1 ⟨s', rfl, A1, hb1⟩
 have T1 := T0.keep hb1
 have b0 := T0.lt
 have b1 := T1.lt
 have T2 := T1.bO s'
 have A2 := A1.setRow (g := w.heap.size) aj (wc s')
 obtain ⟨p', rk', l0', l1', l2', hl', rd'⟩ := s'
 obtain ⟨g, hy, hBg, hg1, hcs⟩ := A1.hl.cells aj
 simp only at hy
 subst hy
 have hfirst := hcs 0 aj
 have hxr := hx.hl
 have hTB : nextB x = x.hl[0] := qa3y
 have HTB := Lib.hid hTB
 have HCS := Lib.hid hcs
 have hgx : g ≠ w.heap.size := aj
 rw [hn] at T2 A2
 have x2 := T2.X.cells
 have z2 := T2.X.frozen
 have hl2 : (w1.setRow (w.heap.size) (wc ⟨p', rk', l0', l1', l2', ⟨some ⟨g, 0, none⟩, 0 + 1, 0 + 1⟩, rd'⟩)).cell? ⟨g, 0, none⟩ = some (.int .i64 x.hl[0]) := by
  rw [← hfirst]; exact World.cell?_of_block (setRow_other w1 (w.heap.size) g _ hgx)
 rw [hn]
 have HN := Lib.hid hn
 clear T0 hb1 hTB hcs hfirst
 have T3 := T2.bZ 17 (Sl.v ⟨some ⟨g, 0, none⟩, 0, 0⟩) ⟨p', rk', l0', l1', l2', ⟨some ⟨g, 0, none⟩, 0, 0⟩, rd'⟩ (set_hl _ _)
 skip
 go_wp2_with (first | (refine wpList_store_row rfl 46 _ _ rfl (w.heap.size) (wc ⟨p', rk', l0', l1', l2', ⟨some ⟨g, 0, none⟩, 0 + 1, 0 + 1⟩, rd'⟩) rfl rfl _ _ dG ah ah ah ?_) | (refine wpList_load_row rfl 46 _ rfl (w.heap.size) rfl _ (wc ⟨p', rk', l0', l1', l2', ⟨some ⟨g, 0, none⟩, 0, 0⟩, rd'⟩) (0, 0) _ qa52 Tryz.underlying46 rfl ah ?_) | (refine wpList_store_row rfl 46 _ _ rfl (w.heap.size + 1) (wc ⟨p', rk', l0', l1', l2', ⟨some ⟨g, 0, none⟩, 0, 0⟩, rd'⟩) rfl rfl _ _ qa53 ah ah ah ?_))
 have T5 := T3.bN ⟨p', rk', l0', l1', l2', ⟨some ⟨g, 0, none⟩, 0, 0⟩, rd'⟩
 refine bodyPost_ret (v := .tuple #[wv ⟨p', rk', l0', l1', l2', ⟨some ⟨g, 0, none⟩, 0, 0⟩, rd'⟩, .int .i64 x.hl[0]]) ?_ rfl ⟨_, by rw [HTB.out], ?_, T5.below⟩
 ·exact qa3x
 ·have A4 := (A2.setCell (g := w.heap.size) aj 17 (Sl.v ⟨some ⟨g, 0, none⟩, 0, 0⟩)).setRow (g := w.heap.size + 1) aj (wc ⟨p', rk', l0', l1', l2', ⟨some ⟨g, 0, none⟩, 0, 0⟩, rd'⟩)
  refine aQ.base ⟨A1.p, A4.rk.rdF, A4.l0.rdF, A4.l1.rdF, A4.l2.rdF, ⟨reads_cut (g := g) (n := 0) (cap := 0) (off := 0) (by simpa using hg1) (by simp [jq, HN.out]) aj qa4f (fun i hi => ?_), .inr fun a ha => by cases ha; exact hBg⟩, A4.rd.rdF⟩ aj
  simp [jq, HN.out] at hi
theorem rackNext (s : Wk) (x : St) (hx : Few 900 x) (w : World) (h : aP w s x) :
  Calls Tryz.prog 216 #[wv s] w fun e w' => ∃ s', e = .returned (.tuple #[wv s', .int .i64 (nextB x)]) ∧ aQ w.heap.size w' s' (jq x) ∧ Below w.heap.size w w' := by
 by_cases hm : x.hl = []
 ·have e1 : nextB x = -1 := by simp [nextB, hm]
  have e2 : jq x = x := qa55
  rw [e1, e2]; exact rackNext_no s x hx w h hm
 ·obtain ⟨n, hn⟩ : ∃ n, x.hl.length = n + 1 := ⟨x.hl.length - 1, by have := List.length_pos_iff.2 hm; omega⟩
  by_cases h0 : 0 < n
  ·exact rackNext_many s x hx w h n hn h0
  ·exact rackNext_one s x hx w h aj
end Go.Proofs.YtaiodbcnbcdokaaGreat.Wo
namespace Go.Proofs.YtaiodbcnbcdokaaGreat.Wo
open Go Go.RowKit Gro Own Wd Ap Go.Proofs.YtaiodbcnbcdokaaGreat.Pl
def zS : St := ⟨pz, [], [], [], [], [], []⟩
theorem build_wz (w : World) : (Instr.build 46 #[]).run Tryz.prog w = .ok (wv wz) w := run_build w _ _ _ ah
theorem few_z : Few 0 zS := ⟨Nat.le_refl _, Nat.le_refl _, Nat.le_refl _, Nat.le_refl _, Nat.le_refl _, Nat.le_refl _⟩
theorem dx (w : World) (s : Wk) : Bk ((w.alloc (.cells (wc wz) 46)).setRow w.heap.size (wc s)) w.heap.size (wc s) 46 := (Bk.new w (wc wz) 46).setRow _
theorem bH (w : World) (s : Wk) : Below w.heap.size w ((w.alloc (.cells (wc wz) 46)).setRow w.heap.size (wc s)) := below_setRow ((Below.refl _ _).alloc (Nat.le_refl _) _) (Nat.le_refl _) _
theorem run_alloc_wz (w : World) : (Instr.alloc 46 true (.tuple #[])).run Tryz.prog w = .ok (.pointer (some ⟨w.heap.size, 0, none⟩)) (w.alloc (.cells (wc wz) 46)) := ah
theorem au {ops : Array Oper} {rest : List Oper} {o : Oper} {a : Act} {w : World} {Q : Exit → Act → World → Prop} (hg : o.guard = none) (ho : o.op = .alloc 46)
  (h : wpList Tryz.prog ops Q rest (a.put o.dst (.pointer (some ⟨w.heap.size, 0, none⟩))) (w.alloc (.cells (wc wz) 46))) : wpList Tryz.prog ops Q (o :: rest) a w := by
 refine wpList_plain hg fun K hK => ?_
 unfold Oper.wp
 simp [execOp, ho, run_alloc_wz, Result.andThen]
 exact hK _ _ h
end Go.Proofs.YtaiodbcnbcdokaaGreat.Wo
namespace Go.Proofs.YtaiodbcnbcdokaaGreat.Wo
open Go Go.RowKit Gro Own Wd Ap Go.Proofs.YtaiodbcnbcdokaaGreat.Pl
section
variable {P : Program} {ops : Array Oper} {S : World → Prop} {a : Act} {o : Oper} {w : World} {K : Act → World → Prop} {Q : Exit → Act → World → Prop} {E : Prop}
theorem bV (hgd : o.guard = none) (ty : TypeId) (x : Operand) (ho : o.op = .load ty x) (g : Nat) (hx : a.eval x = .pointer (some ⟨g, 0, none⟩)) (cs : Array Value) (t : TypeId) (d : TypeDesc)
  (hC : ∀ w, S w → Bk w g cs t) (hu : P.underlying ty = some d) (hd : (match d with | .struct _ | .array _ _ => true | _ => false) = true) (hi : (P.info? ty).map (·.size) = some cs.size) : YieldsIf P ops S o (.agg cs) a := by
 refine Or.inl ⟨by simp [Region.wanted, hgd], fun w hw => ?_⟩
 unfold execOp
 simp only [ho, hx, Instr.loadAt, Instr.sureAddr, Sem.run_bind, Sem.run_pure, Result.andThen_ok, run_loadVar_row w g t ty cs (0, 0) d (hC w hw) hu hd hi]
theorem dh (hgd : o.guard = none) (ty : TypeId) (x y : Operand) (ho : o.op = .store ty x y) (g : Nat) (cells : Array Value) (hx : a.eval x = .pointer (some ⟨g, 0, none⟩)) (hy : a.eval y = .agg cells)
  (t : TypeId) (old : Array Value) (hg : w.heap[g]? = some (.cells old t (0, 0))) (hi : (P.info? ty).map (·.size) = some cells.size) (hold : old.size = cells.size) (h1 : cells.all (·.oneCell') = true)
  (h : K (a.put o.dst undef) (w.setRow g cells)) : if Region.wanted o (yielded ops a.tmps) = true then Oper.wp P o a w K Q else E := by
 rw [if_pos qa56]
 exact wp_store_row ty x y ho g cells hx hy t old hg hi hold h1 h
end
section
variable {P : Program} {ops : Array Oper} {a : Act} {o : Oper} {w : World} {rest : List Oper} {Q : Exit → Act → World → Prop}
theorem fC (hw : Region.wanted o (yielded ops a.tmps) = true) (ty : TypeId) (x : Operand) (ho : o.op = .load ty x)
  (g : Nat) (hx : a.eval x = .pointer (some ⟨g, 0, none⟩)) (t : TypeId) (cs : Array Value) (fr : Nat × Nat) (d : TypeDesc) (hg : w.heap[g]? = some (.cells cs t fr))
  (hu : P.underlying ty = some d) (hd : (match d with | .struct _ | .array _ _ => true | _ => false) = true) (hi : (P.info? ty).map (·.size) = some cs.size)
  (h : wpList P ops Q rest (a.put o.dst (.agg cs)) w) : wpList P ops Q (o :: rest) a w :=
 wpList_step fun K hK => by rw [if_pos hw]; exact wp_load_row ty x ho g hx t cs fr d hg hu hd hi (hK _ _ h)
end
section
variable {ops : Array Oper} {a : Act} {o : Oper} {w : World} {K : Act → World → Prop} {Q : Exit → Act → World → Prop} {E : Prop}
end
end Go.Proofs.YtaiodbcnbcdokaaGreat.Wo

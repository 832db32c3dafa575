/- Three lines of layer 7 inside the memory: line 1, 2 and 3 where the epoch is unchanged; epoch.Step on them. -/
import Derived.Test.YtgpdkagmacpghaaGreatWorks
import Derived.Test.YtgpdkagmacpghaaGreatMems
import Derived.Test.YtgpdkagmacpghaaGreatGrowTail
import Derived.Test.YtgpdkagmacpghaaGreatPlans
import Derived.Test.YtgpdkagmacpghaaGreatPacks
import Derived.Test.YtgpdkagmacpghaaGreatRefs
namespace Go.Proofs.YtgpdkagmacpghaaGreat.Me
open Go Go.RowKit Go.Proofs.YtgpdkagmacpghaaGreat.Gro Go.Proofs.YtgpdkagmacpghaaGreat.Own Go.Proofs.YtgpdkagmacpghaaGreat.Wd Go.Proofs.YtgpdkagmacpghaaGreat.Ap Go.Proofs.YtgpdkagmacpghaaGreat.Pl Go.Proofs.YtgpdkagmacpghaaGreat.Wo
set_option linter.unusedVariables false
set_option linter.unusedSimpArgs false
/-- Only the blocks g, gl and gx, and new ones, are touched. -/
structure Tri (g gl gx : Nat) (w w' : World) : Prop where
  os : w'.os = w.os
  tape : w'.tape = w.tape
  output : w'.output = w.output
  size : w.heap.size ≤ w'.heap.size
  block : ∀ k, k < w.heap.size → k ≠ g → k ≠ gl → k ≠ gx → w'.heap[k]? = w.heap[k]?
section
variable {g gl gx base : Nat} {w w1 w2 : World}
theorem Tri.refl (g gl gx : Nat) (w : World) : Tri g gl gx w w := ⟨rfl, rfl, rfl, Nat.le_refl _, fun _ _ _ _ _ => rfl⟩
theorem Tri.trans (h : Tri g gl gx w w1) (k : Tri g gl gx w1 w2) : Tri g gl gx w w2 := ⟨k.os.trans h.os, k.tape.trans h.tape, k.output.trans h.output, Nat.le_trans h.size k.size, fun b hb h1 h2 h3 => (k.block b (Nat.lt_of_lt_of_le hb h.size) h1 h2 h3).trans (h.block b hb h1 h2 h3)⟩
theorem Tri.of_touch (h : Touch g gl w w1) : Tri g gl gx w w1 := ⟨h.os, h.tape, h.output, h.size, fun b hb h1 h2 _ => h.block b hb h1 h2⟩
theorem Tri.of_below (h : Below w.heap.size w w1) : Tri g gl gx w w1 := Tri.of_touch (Touch.of_below h)
theorem Tri.of_set (j : Nat) (v : Value) : Tri g gl gx w (w.setCell ⟨gx, j, none⟩ v) := by
  have t := (Touch.refl gx gx w).setCell (p := ⟨gx, j, none⟩) (.inl rfl) v
  exact ⟨t.os, t.tape, t.output, t.size, fun b hb _ _ h3 => t.block b hb h3 h3⟩
theorem Tri.bk (h : Tri g gl gx w w1) {b : Nat} {cs : Array Value} {t : TypeId} (hb : Bk w b cs t) (h1 : b ≠ g) (h2 : b ≠ gl) (h3 : b ≠ gx) : Bk w1 b cs t := (h.block b hb.lt h1 h2 h3).trans hb
/-- A row whose block is another is kept. -/
theorem ownsRow_tri {B n size : Nat} {e : TypeId} {v : Value} {xs : List Value} (h : w.ownsRow B e size v n xs) (t : Tri g gl gx w w1) (h1 : g < B) (h2 : gl < B) (h3 : gx < B) : w1.ownsRow B e size v n xs := by
  refine ⟨h.1, ?_⟩
  rcases h.2 with h0 | ⟨b, cap, cur, rfl, hge, hh, rest⟩
  · exact .inl h0
  · exact .inr ⟨b, cap, cur, rfl, hge, (t.block b (Array.getElem?_eq_some_iff.1 hh).1 (by omega) (by omega) (by omega)).trans hh, rest⟩
theorem fresh_tri {B : Nat} {k : IntKind} {t : TypeId} {y : Sl} {l : List Int} (h : Fresh B w k t y l) (tr : Tri g gl gx w w1) (h1 : g < B) (h2 : gl < B) (h3 : gx < B) : Fresh B w1 k t y l := ⟨h.1, ownsRow_tri h.2 tr h1 h2 h3⟩
theorem anew_tri {B : Nat} {s : Wk} {x : St} (h : Anew B w s x) (tr : Tri g gl gx w w1) (h1 : g < B) (h2 : gl < B) (h3 : gx < B) : Anew B w1 s x := ⟨h.p, fresh_tri h.rk tr h1 h2 h3, fresh_tri h.l0 tr h1 h2 h3, fresh_tri h.l1 tr h1 h2 h3, fresh_tri h.l2 tr h1 h2 h3, fresh_tri h.hl tr h1 h2 h3, fresh_tri h.rd tr h1 h2 h3⟩
end
/-- A memory and a state of the call's own, since w0. -/
structure MX (B : Nat) (w0 : World) (g gl cap gx : Nat) (c : Cfg) (a : Acc) (L : List Int) (s : Wk) (w : World) : Prop where
  M : MemAt B w g c a gl cap L
  X : Bk w gx (wc s) 34
  T : Tri g gl gx w0 w
  n1 : gx ≠ g
  n2 : gx ≠ gl
section
variable {B : Nat} {w0 w w' : World} {g gl cap gx : Nat} {c : Cfg} {a a' : Acc} {L L' : List Int} {s s' : Wk}
theorem MX.mem (h : MX B w0 g gl cap gx c a L s w) (M : MemAt B w' g c a' gl cap L') (t : Touch g gl w w') : MX B w0 g gl cap gx c a' L' s w' := ⟨M, t.bk h.X h.n1 h.n2, h.T.trans (Tri.of_touch t), h.n1, h.n2⟩
theorem MX.keep (h : MX B w0 g gl cap gx c a L s w) (hb : Below w.heap.size w w') : MX B w0 g gl cap gx c a L s w' := ⟨h.M.keep hb, h.X.keep hb, h.T.trans (Tri.of_below hb), h.n1, h.n2⟩
theorem MX.set (h : MX B w0 g gl cap gx c a L s w) (j : Nat) (v : Value) (e : (wc s).setIfInBounds j v = wc s') : MX B w0 g gl cap gx c a L s' (w.setCell ⟨gx, j, none⟩ v) :=
  ⟨h.M.apart (g' := gx) (gl' := gx) ((Touch.refl gx gx w).setCell (.inl rfl) v) h.n1.symm h.n1.symm h.n2.symm h.n2.symm, e ▸ h.X.setCell j v, h.T.trans (Tri.of_set j v), h.n1, h.n2⟩
theorem MX.lt (h : MX B w0 g gl cap gx c a L s w) : gx < w.heap.size := h.X.lt
end
def LPost (B : Nat) (w0 : World) (g gl cap gx : Nat) (c : Cfg) (L : List Int) (s : Wk) (way : Int) (ok : Bool) (e : Ending) (w' : World) : Prop := e = .returned (.tuple #[.int .i64 way, .bool ok]) ∧ ∃ a, MX B w0 g gl cap gx c a L s w'
set_option maxRecDepth 10000 in
set_option maxHeartbeats 2000000 in
theorem epochLine1 {B : Nat} {w0 w : World} {g gl cap gx : Nat} {c : Cfg} {a : Acc} {L : List Int} {s : Wk} (h : MX B w0 g gl cap gx c a L s w) (hl : s.p.ln = 1) (h0 : 0 < L.length) (hm : L.length ≤ 1000) (wk : Int) :
    Calls Tryz.prog 152 #[.pointer (some ⟨g, 0, none⟩), .int .i64 wk, .pointer (some ⟨gx, 0, none⟩)] w (LPost B w0 g gl cap gx c L { s with p := { s.p with ep := L[0], ln := 2 } } 0 true) := by
  have f0 : ∀ s : Wk, (wc s)[0]? = some (.int .i64 s.p.ln) := fun _ => rfl
  have t1 : (s.p.ln == 1) = true := by simp [hl]
  have x0 := h.X.cells
  clear hl
  go_enter Tryz.func152, Tryz.ntmps152
  go_wp2_with fail
  refine (load_in h.M 0 h0 hm).mono ?_
  rintro e w1 ⟨rfl, M1, T1⟩
  have H1 := h.mem M1 T1
  have H2 := H1.set (s' := { s with p := { s.p with ep := L[0] } }) 9 (.int .u64 L[0]) rfl
  have H3 := H2.set (s' := { s with p := { s.p with ep := L[0], ln := 2 } }) 0 (.int .i64 2) rfl
  have x1 := H1.X.cells
  have z1 := H1.X.frozen
  have f9 : ∀ s : Wk, (wc s)[9]? = some (.int .u64 s.p.ep) := fun _ => rfl
  have e9 : (w1.cell? ⟨gx, 9, none⟩).isSome = true := by rw [x1, f9]; rfl
  have e0 : (w1.cell? ⟨gx, 0, none⟩).isSome = true := by rw [x1, f0]; rfl
  clear x0 M1 T1
  go_wp2
  go_ret2
  exact ⟨rfl, _, H3⟩
set_option maxRecDepth 10000 in
set_option maxHeartbeats 2000000 in
theorem epochConfirm {B : Nat} {w0 w : World} {g gl cap gx : Nat} {c : Cfg} {a : Acc} {L : List Int} {s : Wk} (h : MX B w0 g gl cap gx c a L s w) (h0 : 0 < L.length) (hm : L.length ≤ 1000) (he : L[0] = s.p.ep) :
    Calls Tryz.prog 176 #[.pointer (some ⟨g, 0, none⟩), .pointer (some ⟨gx, 0, none⟩)] w fun e w' => e = .returned (.int .i64 1) ∧ ∃ a, MX B w0 g gl cap gx c a L s w' := by
  have f9 : ∀ s : Wk, (wc s)[9]? = some (.int .u64 s.p.ep) := fun _ => rfl
  have t1 : (L[0] == s.p.ep) = true := by simp [he]
  clear he
  go_enter Tryz.func176, Tryz.ntmps176
  go_wp2_with fail
  refine (load_in h.M 0 h0 hm).mono ?_
  rintro e w1 ⟨rfl, M1, T1⟩
  have H1 := h.mem M1 T1
  have x1 := H1.X.cells
  clear M1 T1
  go_wp2
  go_ret
  exact ⟨rfl, _, H1⟩
set_option maxRecDepth 10000 in
set_option maxHeartbeats 2000000 in
theorem epochLine3 {B : Nat} {w0 w : World} {g gl cap gx : Nat} {c : Cfg} {a : Acc} {L : List Int} {s : Wk} (h : MX B w0 g gl cap gx c a L s w) (hl : s.p.ln = 3) (h0 : 0 < L.length) (hm : L.length ≤ 1000) (he : L[0] = s.p.ep) (wk : Int) :
    Calls Tryz.prog 152 #[.pointer (some ⟨g, 0, none⟩), .int .i64 wk, .pointer (some ⟨gx, 0, none⟩)] w (LPost B w0 g gl cap gx c L s 1 true) := by
  have f0 : ∀ s : Wk, (wc s)[0]? = some (.int .i64 s.p.ln) := fun _ => rfl
  have t1 : (s.p.ln == 1) = false := by simp [hl]
  have t2 : (s.p.ln == 2) = false := by simp [hl]
  have t3 : (s.p.ln == 3) = true := by simp [hl]
  have x0 := h.X.cells
  have HE := Lib.hid he
  clear hl he
  go_enter Tryz.func152, Tryz.ntmps152
  go_wp2_with fail
  refine (epochConfirm h h0 hm HE.out).mono ?_
  rintro e w1 ⟨rfl, a1, H1⟩
  go_wp2
  go_ret2
  exact ⟨rfl, _, H1⟩
end Go.Proofs.YtgpdkagmacpghaaGreat.Me

/- Line 2 of layer 7. -/
namespace Go.Proofs.YtgpdkagmacpghaaGreat.Me
open Go Go.RowKit Go.Proofs.YtgpdkagmacpghaaGreat.Gro Go.Proofs.YtgpdkagmacpghaaGreat.Own Go.Proofs.YtgpdkagmacpghaaGreat.Wd Go.Proofs.YtgpdkagmacpghaaGreat.Ap Go.Proofs.YtgpdkagmacpghaaGreat.Pl Go.Proofs.YtgpdkagmacpghaaGreat.Wo
set_option linter.unusedVariables false
set_option linter.unusedSimpArgs false
set_option maxRecDepth 10000 in
set_option maxHeartbeats 4000000 in
theorem epochLine2 {B : Nat} {w0 w : World} {g gl cap gx : Nat} {c : Cfg} {a : Acc} {L : List Int} {s : Wk} (h : MX B w0 g gl cap gx c a L s w) (hf : c.Wf) (hl : s.p.ln = 2) (hm : L.length ≤ 1000) (wk : Int) (i : Nat) (ha : aAnn c wk = (i : Int)) (hi : i < L.length) :
    Calls Tryz.prog 152 #[.pointer (some ⟨g, 0, none⟩), .int .i64 wk, .pointer (some ⟨gx, 0, none⟩)] w (LPost B w0 g gl cap gx c (L.set i (Pk.an s.p.ep true)) { s with p := { s.p with ln := 3 } } 0 true) := by
  have f0 : ∀ s : Wk, (wc s)[0]? = some (.int .i64 s.p.ln) := fun _ => rfl
  have f9 : ∀ s : Wk, (wc s)[9]? = some (.int .u64 s.p.ep) := fun _ => rfl
  have t1 : (s.p.ln == 1) = false := by simp [hl]
  have t2 : (s.p.ln == 2) = true := by simp [hl]
  have x0 := h.X.cells
  have m0 := h.M.B.cells
  have lx := h.lt
  have lg := h.M.lt.1
  have HAN : RowKit.Hid (∀ w, Calls Tryz.prog 174 #[cv c, .int .i64 wk] w fun e w' => e = .returned (.int .i64 (i : Int)) ∧ Below w.heap.size w w') := Lib.hid (fun w => ha ▸ Pl.announce c hf wk w)
  clear hl ha
  go_enter Tryz.func152, Tryz.ntmps152
  go_wp2
  refine wp_region_grown_tail 12 (by kernel_rfl) (by kernel_rfl) ?_
  simp only [List.take_succ_cons, List.take_zero, List.drop_succ_cons, List.drop_zero]
  have hg := @gcell
  repeat (go_big_quiet_step (first | exact grown_of (HAN.out _) | exact grown_same (Pk.announce s.p.ep true _)))
  refine wpQuiet_nil ?_
  rintro w1 ⟨⟨_, hb1⟩, rfl⟩
  clear hg
  have H1 := h.keep hb1
  clear x0 m0 lx lg h hb1
  go_wp2_with fail
  refine (store_in H1.M i hi hm (Pk.an s.p.ep true)).mono ?_
  rintro e w2 ⟨rfl, M2, T2⟩
  have H2 := H1.mem M2 T2
  have H3 := H2.set (s' := { s with p := { s.p with ln := 3 } }) 0 (.int .i64 3) rfl
  have x1 := H2.X.cells
  have z1 := H2.X.frozen
  have e0 : (w2.cell? ⟨gx, 0, none⟩).isSome = true := by rw [x1, f0]; rfl
  clear M2 T2 H1
  go_wp2
  go_ret2
  exact ⟨rfl, _, H3⟩
end Go.Proofs.YtgpdkagmacpghaaGreat.Me

/- epoch.Step out of its line (made by genepoch.py). -/
namespace Go.Proofs.YtgpdkagmacpghaaGreat.Me
open Go Go.RowKit Go.Proofs.YtgpdkagmacpghaaGreat.Gro Go.Proofs.YtgpdkagmacpghaaGreat.Own Go.Proofs.YtgpdkagmacpghaaGreat.Wd Go.Proofs.YtgpdkagmacpghaaGreat.Ap Go.Proofs.YtgpdkagmacpghaaGreat.Pl Go.Proofs.YtgpdkagmacpghaaGreat.Wo
set_option linter.unusedVariables false
set_option linter.unusedSimpArgs false
/-- What a step leaves. -/
def SPost (B g gl cap : Nat) (c : Cfg) (L' : List Int) (x : St) (p1 : Pl) (way : Int) (ok : Bool) (w : World) (e : Ending) (w' : World) : Prop :=
  ∃ s2 a', e = .returned (.tuple #[wv s2, .int .i64 way, .bool ok]) ∧ Anew w.heap.size w' s2 { x with p := p1 } ∧ MemAt B w' g c a' gl cap L' ∧ Touch g gl w w'
theorem touch_end {g gl gz : Nat} {w w2 w3 : World} (hb : Below w.heap.size w w2) (t : Tri g gl w.heap.size w2 w3) (hz : w.heap.size ≤ gz) (cs : Array Value) : Touch g gl w (w3.setRow gz cs) := by
  have t1 := (Touch.refl gz gz w3).setRow cs
  exact ⟨t1.os.trans (t.os.trans hb.os), t1.tape.trans (t.tape.trans hb.tape), t1.output.trans (t.output.trans hb.output), Nat.le_trans hb.size (Nat.le_trans t.size t1.size), fun k hk h1 h2 => (t1.block k (by have := hb.size; have := t.size; omega) (by omega) (by omega)).trans ((t.block k (by have := hb.size; omega) h1 h2 (by omega)).trans (hb.block k hk))⟩
theorem anew_end {B B' gz : Nat} {w : World} {s1 : Wk} {x : St} {p : Pl} (h : Anew B w s1 x) (hz : gz < B) (hb : B' ≤ B) (cs : Array Value) : Anew B' (w.setRow gz cs) { s1 with p := p } { x with p := p } :=
  have h2 := (h.setRow hz cs).base hb
  ⟨rfl, h2.rk, h2.l0, h2.l1, h2.l2, h2.hl, h2.rd⟩
set_option maxRecDepth 10000 in
set_option maxHeartbeats 4000000 in
theorem epochStep0 {B : Nat} {w : World} {g gl cap : Nat} {c : Cfg} {a : Acc} {L L' : List Int} (M : MemAt B w g c a gl cap L) (s : Wk) (x : St) (hx : Few 1000 x) (h : Lies w s x) (wk : Int) {p1 : Pl}  {ok : Bool}
    (HL : RowKit.Hid (∀ gx s1 w1 a, MX B w1 g gl cap gx c a L s1 w1 → s1.p = x.p → Calls Tryz.prog 152 #[.pointer (some ⟨g, 0, none⟩), .int .i64 wk, .pointer (some ⟨gx, 0, none⟩)] w1 (LPost B w1 g gl cap gx c L' { s1 with p := p1 } 0 ok))) :
    Calls Tryz.prog 125 #[.pointer (some ⟨g, 0, none⟩), .int .i64 wk, wv s] w (SPost B g gl cap c L' x p1 0 ok w) := by
  have T0 := Two.start w s
  have mlt := M.lt
  
  go_enter Tryz.func125, Tryz.ntmps125
  go_wp2_with (first | (refine wpList_alloc_wz rfl rfl ?_) | (refine wpList_load_row rfl 34 _ rfl w.heap.size rfl _ (wc s) (0, 0) _ (by exact T0.X) Tryz.underlying34 rfl (by kernel_rfl) ?_))
  refine (copyWork s x hx _ (h.keep T0.below)).mono ?_
  rintro e w1 ⟨s1, rfl, A1, hb1⟩
  have T1 := T0.keep hb1
  have b1 := T1.lt
  have T2 := T1.rowX s1
  have hsz : ((w.alloc (.cells (wc s) 34)).alloc (.cells (wc wz) 34)).heap.size = w.heap.size + 2 := by simp
  rw [hsz] at A1 hb1
  have A2 := A1.setRow (g := w.heap.size) (by omega) (wc s1)
  have M2 := M.keep T2.below
  have MM : MX B (w1.setRow w.heap.size (wc s1)) g gl cap w.heap.size c a L s1 (w1.setRow w.heap.size (wc s1)) := ⟨M2, T2.X, Tri.refl _ _ _ _, by omega, by omega⟩
  obtain ⟨w2, hw2⟩ : ∃ u, u = w1.setRow w.heap.size (wc s1) := ⟨_, rfl⟩
  rw [← hw2] at MM A2 T2
  have hp := A1.p
  clear A1 M2 hb1 T0
  go_wp2_with (first | (refine wpList_store_row rfl 34 _ _ rfl w.heap.size (wc s1) rfl rfl _ _ (by exact T1.X) (by kernel_rfl) (by kernel_rfl) (by kernel_rfl) ?_; rw [← hw2]; clear hw2 T1))
  refine (HL.out _ s1 _ _ MM hp).mono ?_
  rintro e w3 ⟨rfl, a3, H3⟩
  have Z3 := H3.T.bk T2.Z (by omega) (by omega) (by omega)
  have A3 := anew_tri A2 H3.T (by omega) (by omega) (by omega)
  have HE := H3
  have ZE := Z3
  clear Z3 MM H3 A2
  go_wp2_with (first | (refine wpList_load_row rfl 34 _ rfl w.heap.size rfl _ (wc ({ s1 with p := p1 } : Wk)) (0, 0) _ (by exact HE.X) Tryz.underlying34 rfl (by kernel_rfl) ?_) | (refine wpList_store_row rfl 34 _ _ rfl (w.heap.size + 1) (wc ({ s1 with p := p1 } : Wk)) rfl rfl _ _ (by exact ZE) (by kernel_rfl) (by kernel_rfl) (by kernel_rfl) ?_))
  have ZF := ZE.setRow (wc ({ s1 with p := p1 } : Wk))
  refine bodyPost_ret (v := .tuple #[wv ({ s1 with p := p1 } : Wk), .int .i64 0, .bool ok]) ?_ rfl ⟨_, _, rfl, anew_end A3 (by omega) (by omega) _, HE.M.apart (g' := w.heap.size + 1) (gl' := w.heap.size + 1) ((Touch.refl _ _ _).setRow _) (by omega) (by omega) (by omega) (by omega), touch_end T2.below HE.T (by omega) _⟩
  exact Rw.results_cell_slot2 (p := 6) (q := 7) (r := 8) (ty := 34) Tryz.results125 _ _ (w.heap.size + 1) 34 _ (0, 0) _ rfl ZF Tryz.underlying34 rfl (by kernel_rfl)
set_option maxRecDepth 10000 in
set_option maxHeartbeats 4000000 in
theorem epochStep1 {B : Nat} {w : World} {g gl cap : Nat} {c : Cfg} {a : Acc} {L L' : List Int} (M : MemAt B w g c a gl cap L) (s : Wk) (x : St) (hx : Few 1000 x) (h : Lies w s x) (wk : Int) {p1 : Pl} {way : Int} (hway : way ≠ 0) {ok : Bool}
    (HL : RowKit.Hid (∀ gx s1 w1 a, MX B w1 g gl cap gx c a L s1 w1 → s1.p = x.p → Calls Tryz.prog 152 #[.pointer (some ⟨g, 0, none⟩), .int .i64 wk, .pointer (some ⟨gx, 0, none⟩)] w1 (LPost B w1 g gl cap gx c L' { s1 with p := p1 } way ok))) :
    Calls Tryz.prog 125 #[.pointer (some ⟨g, 0, none⟩), .int .i64 wk, wv s] w (SPost B g gl cap c L' x { p1 with ln := 0 } way ok w) := by
  have T0 := Two.start w s
  have mlt := M.lt
  have hwb : (way != 0) = true := by simp [hway]
  clear hway
  go_enter Tryz.func125, Tryz.ntmps125
  go_wp2_with (first | (refine wpList_alloc_wz rfl rfl ?_) | (refine wpList_load_row rfl 34 _ rfl w.heap.size rfl _ (wc s) (0, 0) _ (by exact T0.X) Tryz.underlying34 rfl (by kernel_rfl) ?_))
  refine (copyWork s x hx _ (h.keep T0.below)).mono ?_
  rintro e w1 ⟨s1, rfl, A1, hb1⟩
  have T1 := T0.keep hb1
  have b1 := T1.lt
  have T2 := T1.rowX s1
  have hsz : ((w.alloc (.cells (wc s) 34)).alloc (.cells (wc wz) 34)).heap.size = w.heap.size + 2 := by simp
  rw [hsz] at A1 hb1
  have A2 := A1.setRow (g := w.heap.size) (by omega) (wc s1)
  have M2 := M.keep T2.below
  have MM : MX B (w1.setRow w.heap.size (wc s1)) g gl cap w.heap.size c a L s1 (w1.setRow w.heap.size (wc s1)) := ⟨M2, T2.X, Tri.refl _ _ _ _, by omega, by omega⟩
  obtain ⟨w2, hw2⟩ : ∃ u, u = w1.setRow w.heap.size (wc s1) := ⟨_, rfl⟩
  rw [← hw2] at MM A2 T2
  have hp := A1.p
  clear A1 M2 hb1 T0
  go_wp2_with (first | (refine wpList_store_row rfl 34 _ _ rfl w.heap.size (wc s1) rfl rfl _ _ (by exact T1.X) (by kernel_rfl) (by kernel_rfl) (by kernel_rfl) ?_; rw [← hw2]; clear hw2 T1))
  refine (HL.out _ s1 _ _ MM hp).mono ?_
  rintro e w3 ⟨rfl, a3, H3⟩
  have Z3 := H3.T.bk T2.Z (by omega) (by omega) (by omega)
  have A3 := anew_tri A2 H3.T (by omega) (by omega) (by omega)
  have HE := H3.set (s' := { s1 with p := { p1 with ln := 0 } }) 0 (.int .i64 0) rfl
  have ZE := Z3.setCell_far (a := ⟨w.heap.size, 0, none⟩) (by simp) (.int .i64 0)
  have x3 := H3.X.cells
  have z3 := H3.X.frozen
  have f0 : ∀ s : Wk, (wc s)[0]? = some (.int .i64 s.p.ln) := fun _ => rfl
  have e0 : (w3.cell? ⟨w.heap.size, 0, none⟩).isSome = true := by rw [x3, f0]; rfl
  have A3 := A3.setCell (g := w.heap.size) (by omega) 0 (.int .i64 0)
  clear Z3 MM H3 A2
  go_wp2_with (first | (refine wpList_load_row rfl 34 _ rfl w.heap.size rfl _ (wc ({ s1 with p := { p1 with ln := 0 } } : Wk)) (0, 0) _ (by exact HE.X) Tryz.underlying34 rfl (by kernel_rfl) ?_) | (refine wpList_store_row rfl 34 _ _ rfl (w.heap.size + 1) (wc ({ s1 with p := { p1 with ln := 0 } } : Wk)) rfl rfl _ _ (by exact ZE) (by kernel_rfl) (by kernel_rfl) (by kernel_rfl) ?_))
  have ZF := ZE.setRow (wc ({ s1 with p := { p1 with ln := 0 } } : Wk))
  refine bodyPost_ret (v := .tuple #[wv ({ s1 with p := { p1 with ln := 0 } } : Wk), .int .i64 way, .bool ok]) ?_ rfl ⟨_, _, rfl, anew_end A3 (by omega) (by omega) _, HE.M.apart (g' := w.heap.size + 1) (gl' := w.heap.size + 1) ((Touch.refl _ _ _).setRow _) (by omega) (by omega) (by omega) (by omega), touch_end T2.below HE.T (by omega) _⟩
  exact Rw.results_cell_slot2 (p := 6) (q := 7) (r := 8) (ty := 34) Tryz.results125 _ _ (w.heap.size + 1) 34 _ (0, 0) _ rfl ZF Tryz.underlying34 rfl (by kernel_rfl)
end Go.Proofs.YtgpdkagmacpghaaGreat.Me

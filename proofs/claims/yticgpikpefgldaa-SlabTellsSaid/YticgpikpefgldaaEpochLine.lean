/- Three lines of layer 7 inside the memory: line 1, 2 and 3 where the epoch is unchanged; epoch.Step on them. -/
import Derived.Test.YticgpikpefgldaaRackAwake
import Derived.Test.YticgpikpefgldaaMemIn
import Derived.Test.YticgpikpefgldaaGrowTail
import Derived.Test.YticgpikpefgldaaPlanAddr
import Derived.Test.YticgpikpefgldaaPackWalks
namespace Go.Proofs.Yticgpikpefgldaa.Me
open Go Go.RowKit Go.Proofs.Yticgpikpefgldaa.Gro Go.Proofs.Yticgpikpefgldaa.Own Go.Proofs.Yticgpikpefgldaa.Wd Go.Proofs.Yticgpikpefgldaa.Ap Go.Proofs.Yticgpikpefgldaa.Pl Go.Proofs.Yticgpikpefgldaa.Wo
set_option linter.unusedVariables false
set_option linter.unusedSimpArgs false
/-- Only the blocks g, gl and gx, and new ones, are touched. -/
structure Tri (g gl gx : Nat) (w w' : World) : Prop where
  os : w'.os = w.os
  tape : w'.tape = w.tape
  output : w'.output = w.output
  size : w.heap.size ≤ w'.heap.size
  block : ∀ k, k < w.heap.size → k ≠ g → k ≠ gl → k ≠ gx → w'.heap[k]? = w.heap[k]?
section
variable {g gl gx base : Nat} {w w1 w2 : World}
theorem Tri.refl (g gl gx : Nat) (w : World) : Tri g gl gx w w := ⟨rfl, rfl, rfl, Nat.le_refl _, fun _ _ _ _ _ => rfl⟩
theorem Tri.trans (h : Tri g gl gx w w1) (k : Tri g gl gx w1 w2) : Tri g gl gx w w2 := ⟨k.os.trans h.os, k.tape.trans h.tape, k.output.trans h.output, Nat.le_trans h.size k.size, fun b hb h1 h2 h3 => (k.block b (Nat.lt_of_lt_of_le hb h.size) h1 h2 h3).trans (h.block b hb h1 h2 h3)⟩
theorem Tri.of_touch (h : Touch g gl w w1) : Tri g gl gx w w1 := ⟨h.os, h.tape, h.output, h.size, fun b hb h1 h2 _ => h.block b hb h1 h2⟩
theorem Tri.of_below (h : Below w.heap.size w w1) : Tri g gl gx w w1 := Tri.of_touch (Touch.of_below h)
theorem Tri.of_set (j : Nat) (v : Value) : Tri g gl gx w (w.setCell ⟨gx, j, none⟩ v) := by
  have t := (Touch.refl gx gx w).setCell (p := ⟨gx, j, none⟩) (.inl rfl) v
  exact ⟨t.os, t.tape, t.output, t.size, fun b hb _ _ h3 => t.block b hb h3 h3⟩
theorem Tri.bk (h : Tri g gl gx w w1) {b : Nat} {cs : Array Value} {t : TypeId} (hb : Bk w b cs t) (h1 : b ≠ g) (h2 : b ≠ gl) (h3 : b ≠ gx) : Bk w1 b cs t := (h.block b hb.lt h1 h2 h3).trans hb
/-- A row whose block is another is kept. -/
theorem ownsRow_tri {B n size : Nat} {e : TypeId} {v : Value} {xs : List Value} (h : w.ownsRow B e size v n xs) (t : Tri g gl gx w w1) (h1 : g < B) (h2 : gl < B) (h3 : gx < B) : w1.ownsRow B e size v n xs := by
  refine ⟨h.1, ?_⟩
  rcases h.2 with h0 | ⟨b, cap, cur, rfl, hge, hh, rest⟩
  · exact .inl h0
  · exact .inr ⟨b, cap, cur, rfl, hge, (t.block b (Array.getElem?_eq_some_iff.1 hh).1 (by omega) (by omega) (by omega)).trans hh, rest⟩
theorem fresh_tri {B : Nat} {k : IntKind} {t : TypeId} {y : Sl} {l : List Int} (h : Fresh B w k t y l) (tr : Tri g gl gx w w1) (h1 : g < B) (h2 : gl < B) (h3 : gx < B) : Fresh B w1 k t y l := ⟨h.1, ownsRow_tri h.2 tr h1 h2 h3⟩
theorem anew_tri {B : Nat} {s : Wk} {x : St} (h : Anew B w s x) (tr : Tri g gl gx w w1) (h1 : g < B) (h2 : gl < B) (h3 : gx < B) : Anew B w1 s x := ⟨h.p, fresh_tri h.rk tr h1 h2 h3, fresh_tri h.l0 tr h1 h2 h3, fresh_tri h.l1 tr h1 h2 h3, fresh_tri h.l2 tr h1 h2 h3, fresh_tri h.hl tr h1 h2 h3, fresh_tri h.rd tr h1 h2 h3⟩
end
/-- A memory and a state of the call's own, since w0. -/
structure MX (B : Nat) (w0 : World) (g gl cap gx : Nat) (c : Cfg) (a : Acc) (L : List Int) (s : Wk) (w : World) : Prop where
  M : MemAt B w g c a gl cap L
  X : Bk w gx (wc s) 34
  T : Tri g gl gx w0 w
  n1 : gx ≠ g
  n2 : gx ≠ gl
section
variable {B : Nat} {w0 w w' : World} {g gl cap gx : Nat} {c : Cfg} {a a' : Acc} {L L' : List Int} {s s' : Wk}
theorem MX.mem (h : MX B w0 g gl cap gx c a L s w) (M : MemAt B w' g c a' gl cap L') (t : Touch g gl w w') : MX B w0 g gl cap gx c a' L' s w' := ⟨M, t.bk h.X h.n1 h.n2, h.T.trans (Tri.of_touch t), h.n1, h.n2⟩
theorem MX.keep (h : MX B w0 g gl cap gx c a L s w) (hb : Below w.heap.size w w') : MX B w0 g gl cap gx c a L s w' := ⟨h.M.keep hb, h.X.keep hb, h.T.trans (Tri.of_below hb), h.n1, h.n2⟩
theorem MX.set (h : MX B w0 g gl cap gx c a L s w) (j : Nat) (v : Value) (e : (wc s).setIfInBounds j v = wc s') : MX B w0 g gl cap gx c a L s' (w.setCell ⟨gx, j, none⟩ v) :=
  ⟨h.M.apart (g' := gx) (gl' := gx) ((Touch.refl gx gx w).setCell (.inl rfl) v) h.n1.symm h.n1.symm h.n2.symm h.n2.symm, e ▸ h.X.setCell j v, h.T.trans (Tri.of_set j v), h.n1, h.n2⟩
theorem MX.lt (h : MX B w0 g gl cap gx c a L s w) : gx < w.heap.size := h.X.lt
end
def LPost (B : Nat) (w0 : World) (g gl cap gx : Nat) (c : Cfg) (L : List Int) (s : Wk) (way : Int) (ok : Bool) (e : Ending) (w' : World) : Prop := e = .returned (.tuple #[.int .i64 way, .bool ok]) ∧ ∃ a, MX B w0 g gl cap gx c a L s w'
set_option maxRecDepth 10000 in
set_option maxHeartbeats 2000000 in
theorem epochLine1 {B : Nat} {w0 w : World} {g gl cap gx : Nat} {c : Cfg} {a : Acc} {L : List Int} {s : Wk} (h : MX B w0 g gl cap gx c a L s w) (hl : s.p.ln = 1) (h0 : 0 < L.length) (hm : L.length ≤ 1000) (wk : Int) :
    Calls Try.prog 72 #[.pointer (some ⟨g, 0, none⟩), .int .i64 wk, .pointer (some ⟨gx, 0, none⟩)] w (LPost B w0 g gl cap gx c L { s with p := { s.p with ep := L[0], ln := 2 } } 0 true) := by
  have f0 : ∀ s : Wk, (wc s)[0]? = some (.int .i64 s.p.ln) := fun _ => rfl
  have t1 : (s.p.ln == 1) = true := by simp [hl]
  have x0 := h.X.cells
  clear hl
  go_enter Try.func72, Try.ntmps72
  go_wp2_with fail
  refine (load_in h.M 0 h0 hm).mono ?_
  rintro e w1 ⟨rfl, M1, T1⟩
  have H1 := h.mem M1 T1
  have H2 := H1.set (s' := { s with p := { s.p with ep := L[0] } }) 9 (.int .u64 L[0]) rfl
  have H3 := H2.set (s' := { s with p := { s.p with ep := L[0], ln := 2 } }) 0 (.int .i64 2) rfl
  have x1 := H1.X.cells
  have z1 := H1.X.frozen
  have f9 : ∀ s : Wk, (wc s)[9]? = some (.int .u64 s.p.ep) := fun _ => rfl
  have e9 : (w1.cell? ⟨gx, 9, none⟩).isSome = true := by rw [x1, f9]; rfl
  have e0 : (w1.cell? ⟨gx, 0, none⟩).isSome = true := by rw [x1, f0]; rfl
  clear x0 M1 T1
  go_wp2
  go_ret2
  exact ⟨rfl, _, H3⟩
set_option maxRecDepth 10000 in
set_option maxHeartbeats 2000000 in
theorem epochConfirm {B : Nat} {w0 w : World} {g gl cap gx : Nat} {c : Cfg} {a : Acc} {L : List Int} {s : Wk} (h : MX B w0 g gl cap gx c a L s w) (h0 : 0 < L.length) (hm : L.length ≤ 1000) (he : L[0] = s.p.ep) :
    Calls Try.prog 118 #[.pointer (some ⟨g, 0, none⟩), .pointer (some ⟨gx, 0, none⟩)] w fun e w' => e = .returned (.int .i64 1) ∧ ∃ a, MX B w0 g gl cap gx c a L s w' := by
  have f9 : ∀ s : Wk, (wc s)[9]? = some (.int .u64 s.p.ep) := fun _ => rfl
  have t1 : (L[0] == s.p.ep) = true := by simp [he]
  clear he
  go_enter Try.func118, Try.ntmps118
  go_wp2_with fail
  refine (load_in h.M 0 h0 hm).mono ?_
  rintro e w1 ⟨rfl, M1, T1⟩
  have H1 := h.mem M1 T1
  have x1 := H1.X.cells
  clear M1 T1
  go_wp2
  go_ret
  exact ⟨rfl, _, H1⟩
set_option maxRecDepth 10000 in
set_option maxHeartbeats 2000000 in
theorem epochLine3 {B : Nat} {w0 w : World} {g gl cap gx : Nat} {c : Cfg} {a : Acc} {L : List Int} {s : Wk} (h : MX B w0 g gl cap gx c a L s w) (hl : s.p.ln = 3) (h0 : 0 < L.length) (hm : L.length ≤ 1000) (he : L[0] = s.p.ep) (wk : Int) :
    Calls Try.prog 72 #[.pointer (some ⟨g, 0, none⟩), .int .i64 wk, .pointer (some ⟨gx, 0, none⟩)] w (LPost B w0 g gl cap gx c L s 1 true) := by
  have f0 : ∀ s : Wk, (wc s)[0]? = some (.int .i64 s.p.ln) := fun _ => rfl
  have t1 : (s.p.ln == 1) = false := by simp [hl]
  have t2 : (s.p.ln == 2) = false := by simp [hl]
  have t3 : (s.p.ln == 3) = true := by simp [hl]
  have x0 := h.X.cells
  have HE := Lib.hid he
  clear hl he
  go_enter Try.func72, Try.ntmps72
  go_wp2_with fail
  refine (epochConfirm h h0 hm HE.out).mono ?_
  rintro e w1 ⟨rfl, a1, H1⟩
  go_wp2
  go_ret2
  exact ⟨rfl, _, H1⟩
end Go.Proofs.Yticgpikpefgldaa.Me

/- What a step of the reference works on: its memory, the boxed state and the box of the result. -/
import Derived.Test.YtgpdkagmacpghaaStepFn
import Derived.Test.YtgpdkagmacpghaaPlans
import Derived.Test.YtgpdkagmacpghaaStacks
namespace Go.Proofs.Ytgpdkagmacpghaa.Me
open Go Go.RowKit Go.Proofs.Ytgpdkagmacpghaa.Gro Go.Proofs.Ytgpdkagmacpghaa.Own Go.Proofs.Ytgpdkagmacpghaa.Wd Go.Proofs.Ytgpdkagmacpghaa.Ap Go.Proofs.Ytgpdkagmacpghaa.Pl Go.Proofs.Ytgpdkagmacpghaa.Wo
set_option linter.unusedVariables false
set_option linter.unusedSimpArgs false
structure RX (B : Nat) (w0 : World) (g gl cap gx : Nat) (c : Cfg) (a : Acc) (L : List Int) (s : Wk) (w : World) : Prop where
  M : RefMem B w g c a gl cap L
  X : Bk w gx (wc s) 43
  Z : Bk w (gx + 1) (wc wz) 43
  T : Touch g gl w0 w
  x0 : w0.heap.size ≤ gx
  l1 : g < w0.heap.size
  l2 : gl < w0.heap.size
theorem Touch.new {g gl gx : Nat} {w0 w : World} (h : Touch g gl w0 w) (hx : w0.heap.size ≤ gx) (j : Nat) (v : Value) : Touch g gl w0 (w.setCell ⟨gx, j, none⟩ v) :=
  have t := (Touch.refl gx gx w).setCell (p := ⟨gx, j, none⟩) (.inl rfl) v
  ⟨t.os.trans h.os, t.tape.trans h.tape, t.output.trans h.output, Nat.le_trans h.size t.size, fun k hk h1 h2 => (t.block k (Nat.lt_of_lt_of_le hk h.size) (by omega) (by omega)).trans (h.block k hk h1 h2)⟩
theorem Touch.newRow {g gl gx : Nat} {w0 w : World} (h : Touch g gl w0 w) (hx : w0.heap.size ≤ gx) (cs : Array Value) : Touch g gl w0 (w.setRow gx cs) :=
  have t := (Touch.refl gx gx w).setRow cs
  ⟨t.os.trans h.os, t.tape.trans h.tape, t.output.trans h.output, Nat.le_trans h.size t.size, fun k hk h1 h2 => (t.block k (Nat.lt_of_lt_of_le hk h.size) (by omega) (by omega)).trans (h.block k hk h1 h2)⟩
section
variable {B : Nat} {w0 w w' : World} {g gl cap gx : Nat} {c : Cfg} {a a' : Acc} {L L' : List Int} {s s' : Wk}
theorem RX.mem (h : RX B w0 g gl cap gx c a L s w) (M : RefMem B w' g c a' gl cap L') (t : Touch g gl w w') : RX B w0 g gl cap gx c a' L' s w' :=
  ⟨M, t.bk h.X (by have := h.x0; have := h.l1; omega) (by have := h.x0; have := h.l2; omega), t.bk h.Z (by have := h.x0; have := h.l1; omega) (by have := h.x0; have := h.l2; omega), h.T.trans t, h.x0, h.l1, h.l2⟩
theorem RX.keep (h : RX B w0 g gl cap gx c a L s w) (hb : Below w.heap.size w w') : RX B w0 g gl cap gx c a L s w' := ⟨h.M.keep hb, h.X.keep hb, h.Z.keep hb, h.T.trans (Touch.of_below hb), h.x0, h.l1, h.l2⟩
theorem RX.set (h : RX B w0 g gl cap gx c a L s w) (j : Nat) (v : Value) (e : (wc s).setIfInBounds j v = wc s') : RX B w0 g gl cap gx c a L s' (w.setCell ⟨gx, j, none⟩ v) :=
  ⟨h.M.apart (g' := gx) (gl' := gx) ((Touch.refl gx gx w).setCell (.inl rfl) v) (by have := h.x0; have := h.l1; omega) (by have := h.x0; have := h.l1; omega) (by have := h.x0; have := h.l2; omega) (by have := h.x0; have := h.l2; omega), e ▸ h.X.setCell j v, h.Z.setCell_far (a := ⟨gx, j, none⟩) (by simp) v, h.T.new h.x0 j v, h.x0, h.l1, h.l2⟩
/-- The last access is wiped. -/
theorem RX.wipe (h : RX B w0 g gl cap gx c a L s w) : RX B w0 g gl cap gx c a0 L s (w.setRow g (rc c a0 ⟨some ⟨gl, 0, none⟩, L.length, cap⟩)) :=
  h.mem (h.M.seen a0) ((Touch.refl g gl w).setRow _)
theorem RX.lt (h : RX B w0 g gl cap gx c a L s w) : gx < w.heap.size := h.X.lt
theorem RX.start (M : RefMem B w g c a gl cap L) (s : Wk) : RX B w g gl cap w.heap.size c a L s ((w.alloc (.cells (wc s) 43)).alloc (.cells (wc wz) 43)) :=
  have T0 := Two.start w s
  ⟨M.keep T0.below, T0.X, T0.Z, Touch.of_below T0.below, Nat.le_refl _, M.lt.1, M.lt.2⟩
theorem RX.fin (h : RX B w0 g gl cap gx c a L s w) (cs : Array Value) : RefMem B (w.setRow (gx + 1) cs) g c a gl cap L ∧ Touch g gl w0 (w.setRow (gx + 1) cs) :=
  ⟨h.M.apart (g' := gx + 1) (gl' := gx + 1) ((Touch.refl _ _ w).setRow cs) (by have := h.x0; have := h.l1; omega) (by have := h.x0; have := h.l1; omega) (by have := h.x0; have := h.l2; omega) (by have := h.x0; have := h.l2; omega), h.T.newRow (by have := h.x0; omega) cs⟩
end
theorem rLow32 (v : Int) (h : 0 ≤ v ∧ v < 18446744073709551616) (w : World) : Calls Try.prog 43 #[.int .u64 v, .int .i64 32] w fun e w' => e = .returned (.int .u64 (low32 v)) ∧ w = w' := by
  have := Pk.low v h.1 h.2 32 (by omega) w
  rw [Pk.p2_32] at this
  exact this
end Go.Proofs.Ytgpdkagmacpghaa.Me

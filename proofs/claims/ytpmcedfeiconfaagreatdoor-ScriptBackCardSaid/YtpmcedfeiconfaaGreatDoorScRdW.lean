/- Layer 21: the reader's state in memory, and what keeps it. -/
import Derived.Test.YtpmcedfeiconfaaGreatDoorScRdM
import Derived.Test.YtpmcedfeiconfaaGreatDoorScrs
namespace Go.Proofs.YtpmcedfeiconfaaGreatDoor.Scw
open Go Go.RowKit Go.ChangeMaps Go.Proofs.YtpmcedfeiconfaaGreatDoor.Gro Go.Proofs.YtpmcedfeiconfaaGreatDoor.Own Go.Proofs.YtpmcedfeiconfaaGreatDoor.Mr Go.Proofs.YtpmcedfeiconfaaGreatDoor.Opn Go.Proofs.YtpmcedfeiconfaaGreatDoor.Opw Go.Proofs.YtpmcedfeiconfaaGreatDoor.Pl Go.Proofs.YtpmcedfeiconfaaGreatDoor.Scr Go.Proofs.YtpmcedfeiconfaaGreatDoor.Wd
set_option linter.unusedVariables false
set_option linter.unusedSimpArgs false
abbrev rdC (c : Cfg) (vp vk : Value) (bf : List UInt8) (m : Nat) : Array Value := #[.int .i64 c.ww, .int .i64 c.sl, .int .i64 c.bl, .int .i64 c.wd, .int .i64 c.en, .int .i64 c.rk, .int .i64 c.bg, .int .u64 c.la, vp, vk, strV bf, .map (some m)]
/-- What lies below B, the block b but, is as it was. -/
structure Far (B b : Nat) (w w' : World) : Prop where
  os : w'.os = w.os
  tape : w'.tape = w.tape
  output : w'.output = w.output
  size : w.heap.size ≤ w'.heap.size
  block : ∀ k, k < B → k ≠ b → w'.heap[k]? = w.heap[k]?
theorem Far.refl (B b : Nat) (w : World) : Far B b w w := ⟨rfl, rfl, rfl, Nat.le_refl _, fun _ _ _ => rfl⟩
theorem Far.trans {B b : Nat} {x y z : World} (h : Far B b x y) (k : Far B b y z) : Far B b x z :=
  ⟨k.os.trans h.os, k.tape.trans h.tape, k.output.trans h.output, Nat.le_trans h.size k.size, fun i hi hb => (k.block i hi hb).trans (h.block i hi hb)⟩
theorem Far.of {B b : Nat} {w w' : World} (h : Below w.heap.size w w') (hB : B ≤ w.heap.size) : Far B b w w' :=
  ⟨h.os, h.tape, h.output, h.size, fun k hk _ => h.block k (Nat.lt_of_lt_of_le hk hB)⟩
theorem Far.setRow (B b : Nat) (w : World) (cs : Array Value) : Far B b w (w.setRow b cs) :=
  ⟨rfl, rfl, rfl, by simp [World.setRow], fun k _ hb => setRow_other w b k cs hb⟩
theorem Far.setCell (B b j : Nat) (w : World) (v : Value) : Far B b w (w.setCell ⟨b, j, none⟩ v) :=
  ⟨rfl, rfl, rfl, by simp [World.setCell], fun k _ hb => heap_setCell_other w ⟨b, j, none⟩ k v hb⟩
theorem Far.grown {B b : Nat} {w w' : World} {row : Option Nat} (h : w.grownBy w' row) (hB : B ≤ w.heap.size) (hr : ∀ k, row = some k → B ≤ k) : Far B b w w' :=
  ⟨h.os, h.tape, h.output, h.size, fun k hk _ => h.block k (Nat.lt_of_lt_of_le hk hB) (fun e => by have := hr k e.symm; omega)⟩
theorem Far.own {B b : Nat} {w : World} {j : Nat} (hj : B ≤ j) (i : Nat) (v : Value) : Far B b w (w.setCell ⟨j, i, none⟩ v) :=
  ⟨rfl, rfl, rfl, by simp [World.setCell], fun k hk _ => heap_setCell_other w ⟨j, i, none⟩ k v (by intro e; simp at e; omega)⟩
theorem Far.below {B b B0 : Nat} {w w' : World} (h : Far B b w w') (h0 : B0 ≤ b) (h1 : b < B) : Below B0 w w' :=
  ⟨h.os, h.tape, h.output, h.size, fun k hk => h.block k (by omega) (by omega)⟩
/-- What has been read so far. -/
def RdW (B b m : Nat) (st : RdS) (w : World) : Prop :=
  b < B ∧ B ≤ w.heap.size ∧ ∃ vp vk U, Bk w b (rdC st.s.c vp vk st.b m) 71 ∧ OwnP B w vp U st.s.p ∧ OwnI B w vk st.s.k
theorem below_far {B b : Nat} {w w' : World} (h : Below w.heap.size w w') : ∀ g, B ≤ g → g < w.heap.size → w'.heap[g]? = w.heap[g]? := fun g _ hg => h.block g hg
/-- What is known of a reader that has read so far. -/
structure GoodR (st : RdS) : Prop where
  ok : st.b ≠ [] → okC st.s.c = true
  pl : st.s.p.length ≤ 8
  ol : ∀ i, (st.s.p.getD i []).length ≤ 200
  kl : st.s.k.length ≤ 2000
end Go.Proofs.YtpmcedfeiconfaaGreatDoor.Scw

/- The boxes of a law that runs workers one pick at a time: the memory, the states, the configuration (made by gensm2.py). -/
import Derived.Test.YtblkfbbdeodpjaaWorkRows
import Derived.Test.YtblkfbbdeodpjaaStackStep
import Derived.Test.YtblkfbbdeodpjaaWorks
import Derived.Test.YtblkfbbdeodpjaaSts
import Derived.Test.YtblkfbbdeodpjaaMemFirstWalk
namespace Go.Proofs.Ytblkfbbdeodpjaa.Me
open Go Go.RowKit Go.Proofs.Ytblkfbbdeodpjaa.Gro Go.Proofs.Ytblkfbbdeodpjaa.Own Go.Proofs.Ytblkfbbdeodpjaa.Wd Go.Proofs.Ytblkfbbdeodpjaa.Ap Go.Proofs.Ytblkfbbdeodpjaa.Pl Go.Proofs.Ytblkfbbdeodpjaa.Wo
set_option linter.unusedVariables false
set_option linter.unusedSimpArgs false
structure Kb (w0 : World) (c : Cfg) (gc g gl cp ga : Nat) (a : Acc) (L : List Int) (cs : Array Value) (w : World) : Prop where
  C : Bk w gc (ccM c) 24
  M : MemAt w0.heap.size w g c a gl cp L
  A : Bk w ga cs 46
  hb : Below w0.heap.size w0 w
  o1 : w0.heap.size ≤ gc
  o2 : gc < g
  o3 : gc < gl
  o4 : g < ga
  o5 : gl < ga
section
variable {w0 w u : World} {c : Cfg} {gc g gl cp ga : Nat} {a a' : Acc} {L L' : List Int} {cs : Array Value}
theorem Kb.keep (h : Kb w0 c gc g gl cp ga a L cs w) (hb : Below w.heap.size w u) : Kb w0 c gc g gl cp ga a L cs u :=
  ⟨h.C.keep hb, h.M.keep hb, h.A.keep hb, h.hb.trans (hb.mono h.hb.size), h.o1, h.o2, h.o3, h.o4, h.o5⟩
theorem Kb.touch (h : Kb w0 c gc g gl cp ga a L cs w) (M' : MemAt w0.heap.size u g c a' gl cp L') (T : Touch g gl w u) : Kb w0 c gc g gl cp ga a' L' cs u :=
  have := h.o1
  have := h.o2
  have := h.o3
  have := h.o4
  have := h.o5
  ⟨T.bk h.C (by omega) (by omega), M', T.bk h.A (by omega) (by omega), h.hb.trans (T.below (base := w0.heap.size) (by omega) (by omega) h.hb.size), h.o1, h.o2, h.o3, h.o4, h.o5⟩
/-- A cell of a block apart. -/
theorem Kb.far (h : Kb w0 c gc g gl cp ga a L cs w) {b : Nat} (hb : ga < b) (j : Nat) (v : Value) : Kb w0 c gc g gl cp ga a L cs (w.setCell ⟨b, j, none⟩ v) :=
  have := h.o1
  have := h.o2
  have := h.o3
  have := h.o4
  have := h.o5
  ⟨h.C.setCell_far (a := ⟨b, j, none⟩) (by simp; omega) v, h.M.apart (g' := b) (gl' := b) ((Touch.refl b b w).setCell (.inl rfl) v) (by omega) (by omega) (by omega) (by omega), h.A.setCell_far (a := ⟨b, j, none⟩) (by simp; omega) v, h.hb.setCell (p := ⟨b, j, none⟩) (by show w0.heap.size ≤ b; omega) v, h.o1, h.o2, h.o3, h.o4, h.o5⟩
theorem Kb.farRow (h : Kb w0 c gc g gl cp ga a L cs w) {b : Nat} (hb : ga < b) (vs : Array Value) : Kb w0 c gc g gl cp ga a L cs (w.setRow b vs) :=
  have := h.o1
  have := h.o2
  have := h.o3
  have := h.o4
  have := h.o5
  ⟨h.C.setRow_far (by omega) _, h.M.apart (g' := b) (gl' := b) ((Touch.refl b b w).setRow _) (by omega) (by omega) (by omega) (by omega), h.A.setRow_far (by omega) _, below_setRow h.hb (by omega) _, h.o1, h.o2, h.o3, h.o4, h.o5⟩
theorem Kb.setA (h : Kb w0 c gc g gl cp ga a L cs w) (cs' : Array Value) : Kb w0 c gc g gl cp ga a L cs' (w.setRow ga cs') :=
  have := h.o1
  have := h.o2
  have := h.o3
  have := h.o4
  have := h.o5
  ⟨h.C.setRow_far (by omega) _, h.M.apart (g' := ga) (gl' := ga) ((Touch.refl ga ga w).setRow _) (by omega) (by omega) (by omega) (by omega), h.A.setRow _, below_setRow h.hb (by omega) _, h.o1, h.o2, h.o3, h.o4, h.o5⟩
end
/-- A state whose lists are empty: it lies wherever one looks. -/
def Ems (s : Wk) : Prop := ∀ w : World, Lies w s { zS with p := s.p }
theorem reads_ems {w w' : World} {k : IntKind} {v : Value} (h : Reads w k v []) : Reads w' k v [] := by
  obtain ⟨ad, cap, e, h1, h2, _⟩ := h
  exact ⟨ad, cap, e, h1, h2, .inl rfl⟩
theorem Ems.of {B : Nat} {w : World} {s : Wk} {p p' : Pl} (A : Anew B w s { ({ zS with p := p } : St) with p := p' }) : Ems s ∧ s.p = p' :=
  ⟨fun w' => ⟨rfl, reads_ems A.rk.reads, reads_ems A.l0.reads, reads_ems A.l1.reads, reads_ems A.l2.reads, reads_ems A.hl.reads, reads_ems A.rd.reads⟩, A.p⟩
theorem Ems.plain {s : Wk} (h : Ems s) (p : Pl) : Ems { s with p := p } := fun w => liesPlain (h w) p
theorem ems_z (p : Pl) : Ems { wz with p := p } := fun w => ⟨rfl, Reads.nil _ _, Reads.nil _ _, Reads.nil _ _, Reads.nil _ _, Reads.nil _ _, Reads.nil _ _⟩
theorem few_ek (p : Pl) : Few 1000 { zS with p := p } := ⟨Nat.zero_le _, Nat.zero_le _, Nat.zero_le _, Nat.zero_le _, Nat.zero_le _, Nat.zero_le _⟩
theorem sm_fill {α : Type} (x y : α) (k m : Nat) : (List.replicate k x ++ List.replicate (m + 1) y).set k x = List.replicate (k + 1) x ++ List.replicate m y := by
  rw [List.set_append_right _ _ (by simp), List.length_replicate, Nat.sub_self, List.replicate_succ, List.set_cons_zero, List.replicate_succ', List.append_assoc]
  rfl
end Go.Proofs.Ytblkfbbdeodpjaa.Me

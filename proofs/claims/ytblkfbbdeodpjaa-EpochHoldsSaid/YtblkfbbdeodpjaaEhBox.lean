/- The boxes of a law that runs workers one pick at a time: the memory, the states, a list of bools, the configuration (made by geneh.py). -/
import Derived.Test.YtblkfbbdeodpjaaEhStep
import Derived.Test.YtblkfbbdeodpjaaBagWt
import Derived.Test.YtblkfbbdeodpjaaSts
import Derived.Test.YtblkfbbdeodpjaaMemFirstWalk
namespace Go.Proofs.Ytblkfbbdeodpjaa.Me
open Go Go.RowKit Go.Proofs.Ytblkfbbdeodpjaa.Gro Go.Proofs.Ytblkfbbdeodpjaa.Own Go.Proofs.Ytblkfbbdeodpjaa.Wd Go.Proofs.Ytblkfbbdeodpjaa.Ap Go.Proofs.Ytblkfbbdeodpjaa.Pl Go.Proofs.Ytblkfbbdeodpjaa.Wo
set_option linter.unusedVariables false
set_option linter.unusedSimpArgs false
structure Eb (w0 : World) (c : Cfg) (gc g gl cp ga gi : Nat) (a : Acc) (L : List Int) (xs : List Wk) (I : List Bool) (w : World) : Prop where
  C : Bk w gc (ccM c) 24
  M : MemAt w0.heap.size w g c a gl cp L
  A : Bk w ga (wcs xs) 46
  B : Bk w gi (bv I) 4
  hb : Below w0.heap.size w0 w
  o1 : w0.heap.size ≤ gc
  o2 : gc < g
  o3 : gc < gl
  o4 : g < ga
  o5 : gl < ga
  o6 : ga < gi
section
variable {w0 w u : World} {c : Cfg} {gc g gl cp ga gi : Nat} {a a' : Acc} {L L' : List Int} {xs xs' : List Wk} {I : List Bool}
theorem Eb.keep (h : Eb w0 c gc g gl cp ga gi a L xs I w) (hb : Below w.heap.size w u) : Eb w0 c gc g gl cp ga gi a L xs I u :=
  ⟨h.C.keep hb, h.M.keep hb, h.A.keep hb, h.B.keep hb, h.hb.trans (hb.mono h.hb.size), h.o1, h.o2, h.o3, h.o4, h.o5, h.o6⟩
theorem Eb.touch (h : Eb w0 c gc g gl cp ga gi a L xs I w) (M' : MemAt w0.heap.size u g c a' gl cp L') (T : Touch g gl w u) : Eb w0 c gc g gl cp ga gi a' L' xs I u :=
  have := h.o1
  have := h.o2
  have := h.o3
  have := h.o4
  have := h.o5
  have := h.o6
  ⟨T.bk h.C (by omega) (by omega), M', T.bk h.A (by omega) (by omega), T.bk h.B (by omega) (by omega), h.hb.trans (T.below (base := w0.heap.size) (by omega) (by omega) h.hb.size), h.o1, h.o2, h.o3, h.o4, h.o5, h.o6⟩
/-- A cell of a block apart. -/
theorem Eb.far (h : Eb w0 c gc g gl cp ga gi a L xs I w) {b : Nat} (hb : gi < b) (j : Nat) (v : Value) : Eb w0 c gc g gl cp ga gi a L xs I (w.setCell ⟨b, j, none⟩ v) :=
  have := h.o1
  have := h.o2
  have := h.o3
  have := h.o4
  have := h.o5
  have := h.o6
  ⟨h.C.setCell_far (a := ⟨b, j, none⟩) (by simp; omega) v, h.M.apart (g' := b) (gl' := b) ((Touch.refl b b w).setCell (.inl rfl) v) (by omega) (by omega) (by omega) (by omega), h.A.setCell_far (a := ⟨b, j, none⟩) (by simp; omega) v, h.B.setCell_far (a := ⟨b, j, none⟩) (by simp; omega) v, h.hb.setCell (p := ⟨b, j, none⟩) (by show w0.heap.size ≤ b; omega) v, h.o1, h.o2, h.o3, h.o4, h.o5, h.o6⟩
theorem Eb.setB (h : Eb w0 c gc g gl cp ga gi a L xs I w) (k : Nat) (b : Bool) : Eb w0 c gc g gl cp ga gi a L xs (I.set k b) (w.setCell ⟨gi, k, none⟩ (.bool b)) :=
  have := h.o1
  have := h.o2
  have := h.o3
  have := h.o4
  have := h.o5
  have := h.o6
  ⟨h.C.setCell_far (a := ⟨gi, k, none⟩) (by simp; omega) _, h.M.apart (g' := gi) (gl' := gi) ((Touch.refl gi gi w).setCell (.inl rfl) _) (by omega) (by omega) (by omega) (by omega), h.A.setCell_far (a := ⟨gi, k, none⟩) (by simp; omega) _, by have := h.B.setCell k (.bool b); rwa [bv_set] at this, h.hb.setCell (p := ⟨gi, k, none⟩) (by show w0.heap.size ≤ gi; omega) _, h.o1, h.o2, h.o3, h.o4, h.o5, h.o6⟩
theorem Eb.setA (h : Eb w0 c gc g gl cp ga gi a L xs I w) (xs' : List Wk) : Eb w0 c gc g gl cp ga gi a L xs' I (w.setRow ga (wcs xs')) :=
  have := h.o1
  have := h.o2
  have := h.o3
  have := h.o4
  have := h.o5
  have := h.o6
  ⟨h.C.setRow_far (by omega) _, h.M.apart (g' := ga) (gl' := ga) ((Touch.refl ga ga w).setRow _) (by omega) (by omega) (by omega) (by omega), h.A.setRow _, h.B.setRow_far (by omega) _, below_setRow h.hb (by omega) _, h.o1, h.o2, h.o3, h.o4, h.o5, h.o6⟩
end
/-- A state whose lists are empty: it lies wherever one looks. -/
def Emp (s : Wk) : Prop := ∀ w : World, Lies w s { zS with p := s.p }
theorem reads_free {w w' : World} {k : IntKind} {v : Value} (h : Reads w k v []) : Reads w' k v [] := by
  obtain ⟨ad, cap, e, h1, h2, _⟩ := h
  exact ⟨ad, cap, e, h1, h2, .inl rfl⟩
theorem Emp.of {B : Nat} {w : World} {s : Wk} {p p' : Pl} (A : Anew B w s { ({ zS with p := p } : St) with p := p' }) : Emp s ∧ s.p = p' :=
  ⟨fun w' => ⟨rfl, reads_free A.rk.reads, reads_free A.l0.reads, reads_free A.l1.reads, reads_free A.l2.reads, reads_free A.hl.reads, reads_free A.rd.reads⟩, A.p⟩
theorem Emp.plain {s : Wk} (h : Emp s) (p : Pl) (w : World) : Lies w { s with p := p } { zS with p := p } := liesPlain (h w) p
theorem emp_z : Emp wz := fun w => ⟨rfl, Reads.nil _ _, Reads.nil _ _, Reads.nil _ _, Reads.nil _ _, Reads.nil _ _, Reads.nil _ _⟩
theorem few_zz (p : Pl) : Few 1000 { zS with p := p } := ⟨Nat.zero_le _, Nat.zero_le _, Nat.zero_le _, Nat.zero_le _, Nat.zero_le _, Nat.zero_le _⟩
theorem map_p_get (xs : List Wk) (k : Nat) (h : k < xs.length) : pL (xs.map (·.p)) k = xs[k].p := by
  unfold pL
  rw [List.getD_eq_getElem?_getD, List.getElem?_map, List.getElem?_eq_getElem h]
  rfl
/-- The first words, and what is known at the start. -/
theorem eh_start : ∀ N : Nat, 1 ≤ N ∧ N ≤ 8 → 3 + N < (firstL (cEh N)).length ∧ (firstL (cEh N)).length ≤ 1000 ∧ (∀ x ∈ firstL (cEh N), 0 ≤ x ∧ x < 18446744073709551616) ∧ gL (firstL (cEh N)) = 2
  | 0, h => by omega
  | 1, _ => by decide
  | 2, _ => by decide
  | 3, _ => by decide
  | 4, _ => by decide
  | 5, _ => by decide
  | 6, _ => by decide
  | 7, _ => by decide
  | 8, _ => by decide
  | _ + 9, h => by omega
theorem pl_rep (N k : Nat) : pL ((List.replicate N wz).map (·.p)) k = pz := by
  unfold pL
  rw [List.getD_eq_getElem?_getD, List.getElem?_map, List.getElem?_replicate]
  split <;> rfl
theorem il_rep (N k : Nat) : iL (List.replicate N false) k = false := by
  unfold iL
  rw [List.getD_eq_getElem?_getD, List.getElem?_replicate]
  split <;> rfl
theorem ei_start {N : Nat} (h : 1 ≤ N ∧ N ≤ 8) : EI N 0 (firstL (cEh N)) ((List.replicate N wz).map (·.p)) (List.replicate N false) := by
  obtain ⟨h1, h2, h3, h4⟩ := eh_start N h
  refine ⟨h1, h2, h3, by simp, by simp, by rw [h4]; simp, ?_, ?_, ?_, ?_, ?_, ?_⟩
  · intro k hk
    rw [pl_rep]
    exact ⟨by constructor <;> decide, by rw [h4]; decide⟩
  · intro k hk
    rw [pl_rep]
    exact .inl rfl
  · intro k hk hi
    rw [il_rep] at hi
    cases hi
  · intro k hk hl
    rw [pl_rep] at hl
    cases hl
  · intro k hk hl
    rw [pl_rep] at hl
    cases hl
  · intro k hk hl
    rw [pl_rep] at hl
    cases hl
/-- A pick of a worker that is on its way. -/
theorem eh_on {N i w : Nat} {L : List Int} {P : List Pl} {I : List Bool} {a : Acc} (h : EI N i L P I) (hN : 1 ≤ N ∧ N ≤ 8) (hi : i ≤ 800) (hw : w < N) (hl : (pL P w).ln ≠ 0) :
    ∃ b', Eh N i w L P I (pL P w) a b' ∧ ((((epochLn (cEh N) a L (pL P w) w).fin).way = 1 ∧ (pL P w).ln = 3 ∧ b' = true) ∨ (((epochLn (cEh N) a L (pL P w) w).fin).way ≠ 1 ∧ b' = iL I w) ∨ (((epochLn (cEh N) a L (pL P w) w).fin).way = 1 ∧ (pL P w).ln ≠ 3 ∧ b' = iL I w)) := by
  rcases h.ln w hw with q | q | q | q | q
  · exact absurd q hl
  · have := eh2 (a := a) h hN hi hw q
    exact ⟨_, this.1, .inr (.inl ⟨by rw [this.2]; decide, rfl⟩)⟩
  · by_cases hs : gL L = (pL P w).ep
    · have := eh3y (a := a) h hN hw q hs
      exact ⟨_, this.1, .inl ⟨this.2, q, rfl⟩⟩
    · have := eh3n (a := a) h hN hw q hs
      exact ⟨_, this.1, .inr (.inl ⟨by rw [this.2]; decide, rfl⟩)⟩
  · have := eh71 (a := a) h hN hw q
    exact ⟨_, this.1, .inr (.inl ⟨this.2, rfl⟩)⟩
  · have := eh72 (a := a) h hN hi hw q
    by_cases hy : ((epochLn (cEh N) a L (pL P w) w).fin).way = 1
    · exact ⟨_, this, .inr (.inr ⟨hy, by omega, rfl⟩)⟩
    · exact ⟨_, this, .inr (.inl ⟨hy, rfl⟩)⟩
end Go.Proofs.Ytblkfbbdeodpjaa.Me

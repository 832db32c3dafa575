/- Inside the laws of the steps: both memories and the boxes of three states. -/
import Derived.Test.YtgpdkagmacpghaaBoth
import Derived.Test.YtgpdkagmacpghaaEnv
import Derived.Test.YtgpdkagmacpghaaStacks
namespace Go.Proofs.Ytgpdkagmacpghaa.Me
open Go Go.RowKit Go.Proofs.Ytgpdkagmacpghaa.Gro Go.Proofs.Ytgpdkagmacpghaa.Own Go.Proofs.Ytgpdkagmacpghaa.Wd Go.Proofs.Ytgpdkagmacpghaa.Ap Go.Proofs.Ytgpdkagmacpghaa.Pl Go.Proofs.Ytgpdkagmacpghaa.Wo
set_option linter.unusedVariables false
set_option linter.unusedSimpArgs false
theorem reads_touch {w w' : World} {k : IntKind} {y : Sl} {l : List Int} {a b : Nat} (h : Reads w k y.v l) (t : Touch a b w w') (h1 : l = [] ∨ ∀ d, y.ad = some d → d.block ≠ a) (h2 : l = [] ∨ ∀ d, y.ad = some d → d.block ≠ b) : Reads w' k y.v l := by
  obtain ⟨ad, cap, he, q1, q2, h3⟩ := h
  refine ⟨ad, cap, he, q1, q2, ?_⟩
  rcases h3 with h3 | ⟨c, off, rfl, hlt, h3⟩
  · exact .inl h3
  · rcases h1 with h1 | h1
    · exact .inl h1
    · rcases h2 with h2 | h2
      · exact .inl h2
      · simp only [Sl.v, Value.slice.injEq] at he
        exact .inr ⟨c, off, rfl, Nat.lt_of_lt_of_le hlt t.size, fun i hi => (World.cell?_of_block (t.block c hlt (h1 _ he.1) (h2 _ he.1))).trans (h3 i hi)⟩
theorem liesTouch {w w' : World} {s : Wk} {x : St} {a b : Nat} (h : Lies w s x) (t : Touch a b w w') (h1 : NoB a s x) (h2 : NoB b s x) : Lies w' s x :=
  ⟨h.p, reads_touch h.rk t h1.rk h2.rk, reads_touch h.l0 t h1.l0 h2.l0, reads_touch h.l1 t h1.l1 h2.l1, reads_touch h.l2 t h1.l2 h2.l2, reads_touch h.hl t h1.hl h2.hl, reads_touch h.rd t h1.rd h2.rd⟩
theorem noBPlain {g : Nat} {s : Wk} {x : St} (h : NoB g s x) (p p' : Pl) : NoB g { s with p := p } { x with p := p' } := ⟨h.rk, h.l0, h.l1, h.l2, h.hl, h.rd⟩
theorem liesPlain {w : World} {s : Wk} {x : St} (h : Lies w s x) (p : Pl) : Lies w { s with p := p } { x with p := p } := ⟨rfl, h.rk, h.l0, h.l1, h.l2, h.hl, h.rd⟩
theorem fewPlain {m : Nat} {x : St} (h : Few m x) (p : Pl) : Few m { x with p := p } := ⟨h.rk, h.l0, h.l1, h.l2, h.hl, h.rd⟩
theorem rdfTouch {w w' : World} {B : Nat} {k : IntKind} {y : Sl} {l : List Int} {a b : Nat} (h : RdF B w k y l) (t : Touch a b w w') (h1 : a < B) (h2 : b < B) : RdF B w' k y l :=
  ⟨reads_touch h.1 t (h.2.imp id fun q d hd => by have := q d hd; omega) (h.2.imp id fun q d hd => by have := q d hd; omega), h.2⟩
theorem liesFTouch {w w' : World} {B : Nat} {s : Wk} {x : St} {a b : Nat} (h : LiesF B w s x) (t : Touch a b w w') (h1 : a < B) (h2 : b < B) : LiesF B w' s x :=
  ⟨h.p, rdfTouch h.rk t h1 h2, rdfTouch h.l0 t h1 h2, rdfTouch h.l1 t h1 h2, rdfTouch h.l2 t h1 h2, rdfTouch h.hl t h1 h2, rdfTouch h.rd t h1 h2⟩
/-- The program's memory is a step ahead of the reference's. -/
structure Mid (w0 : World) (g gl cp g2 gl2 cp2 : Nat) (c : Cfg) (a : Acc) (L : List Int) (a' : Acc) (L' : List Int) (w : World) : Prop where
  M : MemAt w0.heap.size w g c a' gl cp L'
  R : RefMem w0.heap.size w g2 c a gl2 cp2 L
  h1 : g ≠ g2
  h2 : g ≠ gl2
  h3 : gl ≠ g2
  h4 : gl ≠ gl2
  below : Below w0.heap.size w0 w
section
variable {w0 w u : World} {g gl cp g2 gl2 cp2 : Nat} {c : Cfg} {a a' : Acc} {L L' : List Int}
theorem Both2.mid (h : Both2 w0 g gl cp g2 gl2 cp2 c a L w) (M : MemAt w0.heap.size u g c a' gl cp L') (t : Touch g gl w u) : Mid w0 g gl cp g2 gl2 cp2 c a L a' L' u :=
  ⟨M, h.R.apart t h.h1.symm h.h3.symm h.h2.symm h.h4.symm, h.h1, h.h2, h.h3, h.h4, h.below.trans (t.below h.M.g0 h.M.gl0 h.below.size)⟩
theorem Mid.keep (h : Mid w0 g gl cp g2 gl2 cp2 c a L a' L' w) (hb : Below w.heap.size w u) : Mid w0 g gl cp g2 gl2 cp2 c a L a' L' u :=
  ⟨h.M.keep hb, h.R.keep hb, h.h1, h.h2, h.h3, h.h4, h.below.trans (hb.mono h.below.size)⟩
theorem Mid.fin (h : Mid w0 g gl cp g2 gl2 cp2 c a L a' L' w) (R : RefMem w0.heap.size u g2 c a' gl2 cp2 L') (t : Touch g2 gl2 w u) : Both2 w0 g gl cp g2 gl2 cp2 c a' L' u :=
  ⟨h.M.apart t h.h1 h.h2 h.h3 h.h4, R, h.h1, h.h2, h.h3, h.h4, h.below.trans (t.below h.R.g0 h.R.gl0 h.below.size)⟩
end
/-- Three boxes of states; none of their lists lies in a block of K. -/
structure Sts (K : List Nat) (bx bz bY : Nat) (s t sy : Wk) (X Y : St) (w : World) : Prop where
  bX : Bk w bx (wc s) 43
  bZ : Bk w bz (wc t) 43
  bYy : Bk w bY (wc sy) 43
  lx : Lies w s X
  lz : Lies w t X
  ly : Lies w sy Y
  nx : ∀ k ∈ K, NoB k s X
  nz : ∀ k ∈ K, NoB k t X
  ny : ∀ k ∈ K, NoB k sy Y
section
variable {K : List Nat} {bx bz bY : Nat} {s t sy s' t' : Wk} {X Y : St} {w w' : World}
theorem Sts.keep (h : Sts K bx bz bY s t sy X Y w) (hb : Below w.heap.size w w') : Sts K bx bz bY s t sy X Y w' := ⟨h.bX.keep hb, h.bZ.keep hb, h.bYy.keep hb, h.lx.keep hb, h.lz.keep hb, h.ly.keep hb, h.nx, h.nz, h.ny⟩
theorem Sts.touch {a b : Nat} (h : Sts K bx bz bY s t sy X Y w) (T : Touch a b w w') (ha : a ∈ K) (hb : b ∈ K) (x1 : bx ≠ a) (x2 : bx ≠ b) (z1 : bz ≠ a) (z2 : bz ≠ b) (y1 : bY ≠ a) (y2 : bY ≠ b) : Sts K bx bz bY s t sy X Y w' :=
  ⟨T.bk h.bX x1 x2, T.bk h.bZ z1 z2, T.bk h.bYy y1 y2, liesTouch h.lx T (h.nx a ha) (h.nx b hb), liesTouch h.lz T (h.nz a ha) (h.nz b hb), liesTouch h.ly T (h.ny a ha) (h.ny b hb), h.nx, h.nz, h.ny⟩
/-- x, z = a, b. -/
theorem Sts.two (h : Sts K bx bz bY s t sy X Y w) {B : Nat} {p : Pl} (hs : LiesF B w s' { X with p := p }) (hK : ∀ k ∈ K, k < B) (kx : bx ∈ K) (kz : bz ∈ K) (xz : bx ≠ bz) (xy : bx ≠ bY) (zy : bz ≠ bY) :
    Sts K bx bz bY s' { t with p := p } sy { X with p := p } Y ((w.setRow bx (wc s')).setRow bz (wc { t with p := p })) ∧ Sts K bx bz bY s' { t with p := p } sy { X with p := p } Y ((w.setRow bz (wc { t with p := p })).setRow bx (wc s')) := by
  have n1 : ∀ k ∈ K, NoB k s' { X with p := p } := fun k hk => noB_far hs (hK k hk)
  have n2 : ∀ k ∈ K, NoB k { t with p := p } { X with p := p } := fun k hk => noBPlain (h.nz k hk) _ _
  constructor
  · exact ⟨(h.bX.setRow _).setRow_far xz _, (h.bZ.setRow_far (Ne.symm xz) _).setRow _, (h.bYy.setRow_far (Ne.symm xy) _).setRow_far (Ne.symm zy) _, (hs.lies.row (n1 bx kx) _).row (n1 bz kz) _, ((liesPlain h.lz p).row (n2 bx kx) _).row (n2 bz kz) _, (h.ly.row (h.ny bx kx) _).row (h.ny bz kz) _, n1, n2, h.ny⟩
  · exact ⟨(h.bX.setRow_far xz _).setRow _, (h.bZ.setRow _).setRow_far (Ne.symm xz) _, (h.bYy.setRow_far (Ne.symm zy) _).setRow_far (Ne.symm xy) _, (hs.lies.row (n1 bz kz) _).row (n1 bx kx) _, ((liesPlain h.lz p).row (n2 bz kz) _).row (n2 bx kx) _, (h.ly.row (h.ny bz kz) _).row (h.ny bx kx) _, n1, n2, h.ny⟩
end
theorem Both2.base {w0 w1 w : World} {g gl cp g2 gl2 cp2 : Nat} {c : Cfg} {a : Acc} {L : List Int} (h : Both2 w1 g gl cp g2 gl2 cp2 c a L w) (hb : Below w0.heap.size w0 w1) : Both2 w0 g gl cp g2 gl2 cp2 c a L w :=
  ⟨MemAt.base h.M hb.size, ⟨h.R.B, owns_base h.R.W hb.size, Nat.le_trans hb.size h.R.g0, h.R.ne⟩, h.h1, h.h2, h.h3, h.h4, hb.trans (h.below.mono hb.size)⟩
theorem Both2.row {w0 w : World} {g gl cp g2 gl2 cp2 : Nat} {c : Cfg} {a : Acc} {L : List Int} (h : Both2 w0 g gl cp g2 gl2 cp2 c a L w) {b : Nat} (hb : w0.heap.size ≤ b) (n1 : b ≠ g) (n2 : b ≠ gl) (n3 : b ≠ g2) (n4 : b ≠ gl2) (cs : Array Value) : Both2 w0 g gl cp g2 gl2 cp2 c a L (w.setRow b cs) :=
  have t := (Touch.refl b b w).setRow cs
  ⟨h.M.apart t n1.symm n1.symm n2.symm n2.symm, h.R.apart t n3.symm n3.symm n4.symm n4.symm, h.h1, h.h2, h.h3, h.h4, below_setRow h.below hb _⟩
theorem same_way {r : Res} : (r.way != r.way) = false ∧ (r.ok != r.ok) = false := ⟨by simp, by simp⟩
end Go.Proofs.Ytgpdkagmacpghaa.Me

/- Regions that draw their order and whose operations only read what was there, while their calls may make memory: one walk in the order of the text. -/
import Derived.Deep.Quiet
import Derived.Deep.QuietTactic
import Derived.BigQuiet
import Derived.Below
import Derived.StillTail
import Derived.Laws.Rows
import Derived.Laws.CopyOwn
import Derived.Laws.AppendOwn
import Derived.Laws.OwnMore
import Derived.ProofKit
import Derived.WalkKit
import Derived.LoopTactic
import Derived.Lib.Hide
import Derived.Outline
import Derived.Test.YticgpikpefgldaaRows
import Derived.Deep.Upon
namespace Go.Proofs.Yticgpikpefgldaa.Gro
open Go Go.RowKit

/-- A world in which all that was there is as it was. -/
def Gr (w : World) := {w' : World // Below w.heap.size w w'}
instance (w : World) : Nonempty (Gr w) := ⟨⟨w, Below.refl _ _⟩⟩

section
variable {P : Program} {id : Nat} {Q : Exit → Act → World → Prop} {a : Act} {w : World} {l : List Oper}
theorem wp_region_grown (hm : P.follows .mixedOrders = true) (hB : Region.lexB .any l.toArray = true)
    (h : wpQuiet P l.toArray (fun w' => ∃ n : Gr w, w' = n.1) (fun a' => ∀ w', (∃ n : Gr w, w' = n.1) → Q .normal a' w') l a) : (Code.region id l.toArray true).wp P Q a w :=
  wp_region_quiet (C := fun w' => ∃ n : Gr w, w' = n.1) hm hB ⟨⟨_, (Below.refl w.heap.size w).drew⟩, rfl⟩ (by simpa using h)
theorem grown_of {f : FuncId} {args : Array Value} {n : Gr w} {v : Value} (h : Calls P f args n.1 fun e w' => e = .returned v ∧ Below n.1.heap.size n.1 w') : Calls P f args n.1 fun e w'' => e = .returned v ∧ ∃ m : Gr w, w'' = m.1 :=
  h.mono fun _ w'' ⟨he, hb⟩ => ⟨he, ⟨w'', n.2.trans (hb.mono n.2.size)⟩, rfl⟩
theorem grown_same {f : FuncId} {args : Array Value} {n : Gr w} {v : Value} (h : Calls P f args n.1 fun e w' => e = .returned v ∧ n.1 = w') : Calls P f args n.1 fun e w'' => e = .returned v ∧ ∃ m : Gr w, w'' = m.1 :=
  h.mono fun _ _ ⟨he, hb⟩ => ⟨he, n, hb.symm⟩
end
theorem gro_drewN {B : Nat} {a w : World} (h : Below B a w) {n : Nat} : Below B a (w.drewN n) := ⟨h.os, h.tape, h.output, h.size, h.block⟩
theorem gcell {w : World} (n : Gr w) (b o : Nat) (h : b < w.heap.size) : n.1.cell? ⟨b, o, none⟩ = w.cell? ⟨b, o, none⟩ := n.2.cell (p := ⟨b, o, none⟩) h
theorem bcell {W w1 : World} (hb : Below W.heap.size W w1) : (∀ b o, b < W.heap.size → w1.cell? ⟨b, o, none⟩ = W.cell? ⟨b, o, none⟩) ∧ (∀ b o, b < W.heap.size → w1.frozen? ⟨b, o, none⟩ = W.frozen? ⟨b, o, none⟩) :=
  ⟨fun b o h => hb.cell (p := ⟨b, o, none⟩) h, fun b o h => hb.frozen (p := ⟨b, o, none⟩) h⟩
end Go.Proofs.Yticgpikpefgldaa.Gro

/- Regions that draw their order: first operations that only read and calls that may make memory, then a tail that waits for all of them and runs in the order of the text. -/
namespace Go.Proofs.Yticgpikpefgldaa.Gro
open Go Go.RowKit

section
variable {P : Program} {ops : Array Oper} {md : Region.Mode} {C : World → Prop}
/-- Whatever order is picked among the first 'n' operations; behind 'f' of them, L. -/
def anyC (P : Program) (md : Region.Mode) (ops : Array Oper) (C : World → Prop) (n : Nat) (L : Array Bool → Act → Prop) : Nat → Array Bool → Act → Prop
  | 0, listed, a => L listed a
  | f + 1, listed, a => Region.ready md ops listed ≠ [] ∧ ∀ i ∈ Region.ready md ops listed, i < n ∧ qOp P ops C i (anyC P md ops C n L f (listed.setIfInBounds i true)) a
theorem any_of_anyC {n g : Nat} {L : Array Bool → Act → Prop} {Q : Exit → Act → World → Prop} (hL : ∀ listed a w, C w → L listed a → wpAny P md ops Q g listed a w) :
    ∀ (f : Nat) (listed : Array Bool) (a : Act) (w : World), C w → anyC P md ops C n L f listed a → wpAny P md ops Q (f + g) listed a w := by
  intro f
  induction f with
  | zero => intro listed a w hw h; rw [Nat.zero_add]; exact hL _ _ _ hw h
  | succ f ih =>
    intro listed a w hw h
    rw [Nat.succ_add]
    exact ⟨fun h0 => absurd h0 h.1, fun i hi => wpOp_of_qOp hw (fun a' w' hw' h' => ih _ a' w' hw' h') (h.2 i hi).2⟩
theorem anyC_first {n i : Nat} {oi : Oper} {v : Value} {L : Array Bool → Act → Prop} (hi : ops[i]? = some oi) (hsel : ∀ (j : Nat) (o : Oper) cs b, ops[j]? = some o → o.op ≠ .select cs b)
    (hs : Region.sinkB md ops n = true) (hc : Region.chainB md ops n = true) (hn : n < ops.size) (hin : i < n) (hdone : ∀ listed a, L listed a → ∀ j ∈ Region.ready md ops listed, n ≤ j) :
    ∀ (f : Nat) (listed : Array Bool) (a : Act), HeadInv md ops n listed →
      (∀ j oj, ops[j]? = some oj → j ≠ i → listed.getD j true = false → (∀ e ∈ oj.after, Region.binds md e = true → e.on ≠ i) → oi.apart ops oj = true) →
      i ∈ Region.ready md ops listed → YieldsIn P ops C oi v a → anyC P md ops C n L f (listed.setIfInBounds i true) (a.put oi.dst v) → anyC P md ops C n L (f + 1) listed a := by
  intro f
  induction f with
  | zero =>
    intro listed a inv _ hr hy H
    have hun := (mem_ready.1 hr).1
    refine ⟨List.ne_nil_of_mem hr, fun j hj => ?_⟩
    have hjn : j < n := Nat.lt_of_not_le fun hge => tail_waits hs hc hn inv _ i rfl hin hun j hge hj
    refine ⟨hjn, ?_⟩
    by_cases hji : j = i
    · subst hji; exact hy.qOp hi H
    · have := hdone _ _ H j (ready_mono hj hji); omega
  | succ f ih =>
    intro listed a inv hfree hr hy H
    have hun := (mem_ready.1 hr).1
    refine ⟨List.ne_nil_of_mem hr, fun j hj => ?_⟩
    have hjn : j < n := Nat.lt_of_not_le fun hge => tail_waits hs hc hn inv _ i rfl hin hun j hge hj
    refine ⟨hjn, ?_⟩
    by_cases hji : j = i
    · subst hji; exact hy.qOp hi H
    · have h1 := (H.2 j (ready_mono hj hji)).2
      obtain ⟨hjun, oj, hoj, hall⟩ := mem_ready.1 hj
      have hnot : ∀ e ∈ oj.after, Region.binds md e = true → e.on ≠ i := fun e he hb heq => by
        have := hall e he hb
        rw [heq, getD_both hun] at this; cases this
      have h2 := qOp_put hoj (hfree j oj hoj hji hjun hnot) (fun cs b => hsel i oi cs b hi) (fun cs b => hsel j oj cs b hoj) hy h1
      refine qOp_mono (fun a' h3 => ih (listed.setIfInBounds j true) a' (inv.set hj hjn) (fun k ok hk hki hu hno => hfree k ok hk hki ?_ hno) (ready_mono hr (Ne.symm hji)) h3.1 ?_) h2
      · by_cases hjk : j = k
        · subst hjk; exact hjun
        · rw [getD_set_ne true hjk] at hu; exact hu
      · rw [Array.setIfInBounds_comm _ _ hji]; exact h3.2
theorem anyC_lex {n g : Nat} {Lq : Act → Prop} (hsel : Region.noSelect ops = true) (hs : Region.sinkB md ops n = true) (hc : Region.chainB md ops n = true) (hn : n < ops.size) :
    ∀ (l : List Oper) (k : Nat) (listed : Array Bool) (a : Act), (∀ j, j < l.length → l[j]? = ops[k + j]?) → k + l.length = n → HeadInv md ops n listed → Region.lexHead md ops g l.length k listed = true → wpQuiet P ops C Lq l a →
    anyC P md ops C n (fun listed' a' => Region.seqB md ops g n listed' = true ∧ Lq a') l.length listed a
  | [], k, listed, a, _, hk, _, hB, h => by
    obtain rfl : k = n := by simpa using hk
    exact ⟨by simpa [Region.lexHead] using hB, h⟩
  | o :: l, k, listed, a, hl, hk, inv, hB, h => by
    have h0 : ops[k]? = some o := by simpa using (hl 0 (by simp)).symm
    simp only [List.length_cons, Region.lexHead, Bool.and_eq_true] at hB hk
    obtain ⟨⟨hr, hf⟩, hB'⟩ := hB
    have hr' : k ∈ Region.ready md ops listed := by simpa using hr
    obtain ⟨v, hy, hK⟩ := yieldsIn_of_qOp (K := wpQuiet P ops C Lq l) h0 (by unfold qOp; simp only [h0]; exact h)
    exact anyC_first h0 (Region.noSelect_spec hsel) hs hc hn (by omega) (fun _ _ hL => seqB_ready hL.1) l.length listed a inv (Region.free_spec h0 hf) hr' hy
      (anyC_lex hsel hs hc hn l (k + 1) _ _ (fun j hj => by have := hl (j + 1) (by simp; omega); simpa [Nat.add_assoc, Nat.add_comm 1 j] using this) (by omega) (inv.set hr' (by omega)) hB' hK)
end
section
variable {P : Program} {id : Nat} {Q : Exit → Act → World → Prop} {a : Act} {w : World} {l : List Oper}
theorem wp_region_class_tail {C : World → Prop} (n : Nat) (hm : P.follows .mixedOrders = true) (hB : Region.lexTailB .any l.toArray n = true) (hC : C { w with drawn := w.drawn + 1 })
    (h : wpQuiet P l.toArray C (fun a' => ∀ w', C w' → wpList P l.toArray Q (l.drop n) a' w') (l.take n) a) : (Code.region id l.toArray true).wp P Q a w := by
  simp only [Region.lexTailB, Bool.and_eq_true, decide_eq_true_eq] at hB
  obtain ⟨⟨⟨⟨hsel, hn⟩, hs⟩, hc⟩, hlex⟩ := hB
  have hn' : n < l.length := by simpa using hn
  have htl : (l.take n).length = n := by simp; omega
  have hdl : (l.drop n).length = l.toArray.size - n := by simp
  have inv0 : HeadInv .any l.toArray n (Array.replicate l.toArray.size false) :=
    ⟨by simp, fun j oj _ hl => (by rw [getD_replicate_false] at hl; cases hl), fun t _ ht => getD_in (by simpa using ht) (getD_replicate_false _ _)⟩
  have H := anyC_lex (md := .any) (g := l.toArray.size - n) hsel hs hc hn (l.take n) 0 _ a (fun j hj => by simp [show j < n by omega]) (by omega) inv0 (by rw [htl]; exact hlex) h
  refine wp_region_any hm ?_
  have := any_of_anyC (Q := Q) (g := l.toArray.size - n) (fun listed a' w' hw' hL => by
    rw [← hdl]
    exact wpAny_of_seq (l.drop n) n listed a' w' (fun j => by simp) (by rw [hdl]; exact hL.1) (hL.2 w' hw')) (l.take n).length _ a _ hC H
  rw [htl, show n + (l.toArray.size - n) = l.toArray.size by simp; omega] at this
  exact this
theorem wp_region_grown_tail (n : Nat) (hm : P.follows .mixedOrders = true) (hB : Region.lexTailB .any l.toArray n = true)
    (h : wpQuiet P l.toArray (fun w' => ∃ m : Gr w, w' = m.1) (fun a' => ∀ w', (∃ m : Gr w, w' = m.1) → wpList P l.toArray Q (l.drop n) a' w') (l.take n) a) : (Code.region id l.toArray true).wp P Q a w :=
  wp_region_class_tail (C := fun w' => ∃ n : Gr w, w' = n.1) n hm hB ⟨⟨_, (Below.refl w.heap.size w).drew⟩, rfl⟩ h
end
end Go.Proofs.Yticgpikpefgldaa.Gro

/- A block that is known whole, and what keeps it. -/
namespace Go.Proofs.Yticgpikpefgldaa.Gro
open Go Go.RowKit
/-- Block g holds the cells cs, none of them frozen. -/
def Bk (w : World) (g : Nat) (cs : Array Value) (t : TypeId) : Prop := w.heap[g]? = some (.cells cs t (0, 0))
section
variable {w w' : World} {g : Nat} {cs : Array Value} {t : TypeId}
theorem Bk.lt (h : Bk w g cs t) : g < w.heap.size := (Array.getElem?_eq_some_iff.1 h).1
theorem Bk.cells (h : Bk w g cs t) : ∀ j, w.cell? ⟨g, j, none⟩ = cs[j]? := fun j => cell_of_row w g j cs t (0, 0) h
theorem Bk.frozen (h : Bk w g cs t) : ∀ j, w.frozen? ⟨g, j, none⟩ = false := fun j => frozen_of_row w g j cs t h
theorem Bk.keep (h : Bk w g cs t) (hb : Below w.heap.size w w') : Bk w' g cs t := (hb.block g h.lt).trans h
theorem Bk.keepB {B : Nat} (h : Bk w g cs t) (hb : Below B w w') (hg : g < B) : Bk w' g cs t := (hb.block g hg).trans h
theorem Bk.new (w : World) (cs : Array Value) (t : TypeId) : Bk (w.alloc (.cells cs t)) w.heap.size cs t := heap_alloc_new w _
theorem Bk.alloc (h : Bk w g cs t) (o : Obj) : Bk (w.alloc o) g cs t := (heap_alloc_old w o g h.lt).trans h
theorem Bk.setRow (h : Bk w g cs t) (cs' : Array Value) : Bk (w.setRow g cs') g cs' t := setRow_heap w g cs cs' t (0, 0) h
theorem Bk.setCell (h : Bk w g cs t) (i : Nat) (v : Value) : Bk (w.setCell ⟨g, i, none⟩ v) g (cs.setIfInBounds i v) t := heap_setCell_same w g i cs t v h
theorem Bk.setCell_far (h : Bk w g cs t) {a : Addr} (ha : g ≠ a.block) (v : Value) : Bk (w.setCell a v) g cs t := (heap_setCell_other w a g v ha).trans h
theorem Bk.setRow_far (h : Bk w g cs t) {g' : Nat} (ha : g ≠ g') (cs' : Array Value) : Bk (w.setRow g' cs') g cs t := (setRow_other w g' g cs' ha).trans h
end
end Go.Proofs.Yticgpikpefgldaa.Gro

/- Rows of the call's own that grow by append, the elements one or more cells wide: the law in the form of the walks here. -/
namespace Go.Proofs.Yticgpikpefgldaa.Own
open Go Go.RowKit
set_option linter.unusedVariables false

/-- What an element type's row of the table says. -/
structure Elem (P : Program) (t e : TypeId) (size bytes : Nat) : Prop where
  under : P.underlying t = some (.slice e)
  info : ∃ i z, P.info? e = some i ∧ i.zero = some z ∧ i.size = size ∧ i.bytes = bytes ∧ z.cells.size = size
  pos : 0 < size
  small : bytes ≤ 1024

theorem below_of_grown {w w' : World} {base : Nat} {e : TypeId} {size : Nat} {v : Value} {n : Nat} {xs : List Value} (h : w.ownsRow base e size v n xs) (hb : base ≤ w.heap.size) (hg : w.grownBy w' v.ownBlock) : Below base w w' :=
  (Below.refl base w).grown hg hb (fun k hk => by
    rcases h.2 with ⟨rfl, _⟩ | ⟨g, cap, cur, rfl, hge, _⟩
    · simp [Value.ownBlock] at hk
    · simp only [Value.ownBlock, Option.some.injEq] at hk; omega)
theorem owns_len {w : World} {base : Nat} {e : TypeId} {size : Nat} {v : Value} {n m : Nat} {xs ys : List Value} (h : w.ownsRow base e size v n xs) (hn : n = m) (hx : xs = ys) : w.ownsRow base e size v m ys := by subst hn; subst hx; exact h
theorem owns_below {w w' : World} {base B : Nat} {e : TypeId} {size : Nat} {v : Value} {n : Nat} {xs : List Value} (h : w.ownsRow base e size v n xs) (hb : Below B w w') (hv : ∀ g, v.ownBlock = some g → g < B) : w'.ownsRow base e size v n xs := by
  refine ⟨h.1, ?_⟩
  rcases h.2 with h0 | ⟨g, cap, cur, rfl, hge, hh, rest⟩
  · exact .inl h0
  · exact .inr ⟨g, cap, cur, rfl, hge, (hb.block g (hv g rfl)).trans hh, rest⟩
/-- The cells of an owned row. -/
theorem owns_cells {w : World} {base : Nat} {e : TypeId} {size : Nat} {v : Value} {n : Nat} {xs : List Value} (h : w.ownsRow base e size v n xs) (hn : 0 < n) :
    ∃ g cap, v = .slice (some ⟨g, 0, none⟩) n cap ∧ base ≤ g ∧ g < w.heap.size ∧ n ≤ cap ∧ cap ≤ maxLen ∧ ∀ j, j < xs.length → w.cell? ⟨g, j, none⟩ = xs[j]? := by
  rcases h.2 with ⟨_, rfl⟩ | ⟨g, cap, cur, rfl, hge, hh, h1, h2, h3, h4⟩
  · exact absurd hn (by omega)
  · refine ⟨g, cap, rfl, hge, (Array.getElem?_eq_some_iff.1 hh).1, h1, h2, fun j hj => ?_⟩
    rw [cell_of_row w g j cur e (0, 0) hh, ← h4, List.getElem?_take]
    have := h.1
    rw [if_pos (by omega)]
    simp

theorem new_cells (w : World) (cs : Array Value) (t : TypeId) : ∀ j, j < cs.toList.length → (w.alloc (.cells cs t)).cell? ⟨w.heap.size, j, none⟩ = cs.toList[j]? := fun j _ => by
  rw [cell_of_row _ _ _ cs t (0, 0) (heap_alloc_new w _)]; simp
section
variable {P : Program} {ops : Array Oper} {rest : List Oper} {o : Oper} {a : Act} {w : World} {Q : Exit → Act → World → Prop}
/-- append(v, news..): the new elements lie in a block of their own. -/
theorem append_row {t e : TypeId} {size bytes : Nat} (E : Elem P t e size bytes) (hgd : o.guard = none) (s x : Operand) (ho : o.op = .call { callee := .builtin .append, args := #[s, x], argTypes := #[t, t] })
    (base : Nat) (v : Value) (n : Nat) (xs : List Value) (hs : a.eval s = v) (hown : w.ownsRow base e size v n xs) (g m c : Nat) (news : List Value) (hx : a.eval x = .slice (some ⟨g, 0, none⟩) m c)
    (hl : news.length = m * size) (hnews : ∀ j, j < news.length → w.cell? ⟨g, j, none⟩ = news[j]?) (h1 : ∀ u ∈ news, u.oneCell' = true) (hm : 0 < m) (hn : n + m ≤ 1000000) (hbase : base ≤ w.heap.size)
    (h : ∀ v' w', w'.ownsRow base e size v' (n + m) (xs ++ news) → Below base w w' → wpList P ops Q rest (a.put o.dst v') w') : wpList P ops Q (o :: rest) a w := by
  obtain ⟨i, z, hi, hz, hsz, hby, hzs⟩ := E.info
  refine wpList_append_own w hgd s x t ho base e i z size bytes E.under hi hz hsz hby hzs E.pos v n xs hs hown ⟨g, 0, none⟩ m c news hx hl (fun j u hu => ?_) h1 (by unfold maxLen; omega) ?_ hbase (fun v' w' h2 h3 _ => h v' w' h2 (below_of_grown hown hbase h3))
  · have hj : j < news.length := (List.getElem?_eq_some_iff.1 hu).1
    have : (⟨g, 0, none⟩ : Addr).add j = ⟨g, j, none⟩ := by
      unfold Addr.add; split
      · subst_vars; rfl
      · simp
    rw [this, hnews j hj, hu]
  · have := E.small
    calc (n + m) * bytes ≤ 1000000 * 1024 := Nat.mul_le_mul hn this
      _ ≤ 140737488355328 := by decide
end
end Go.Proofs.Yticgpikpefgldaa.Own

/- Results that lie in memory as a whole row, beside one or two plain ones; whole rows under a name. -/
namespace Go.Proofs.Yticgpikpefgldaa.Rw
open Go Go.RowKit
section
variable {P : Program}
theorem results_cell_slot {fn : Func} {p q : Tmp} {ty : TypeId} (h : fn.results = #[.cell p ty, .tmp q]) (tmps : Array Value) (w : World) (g : Nat) (t : TypeId) (cs : Array Value) (fr : Nat × Nat) (d : TypeDesc)
    (hp : tmps.getD p undef = .pointer (some ⟨g, 0, none⟩)) (hg : w.heap[g]? = some (.cells cs t fr))
    (hu : P.underlying ty = some d) (hd : (match d with | .struct _ | .array _ _ => true | _ => false) = true) (hi : (P.info? ty).map (·.size) = some cs.size) :
    (results fn tmps).run P w = .ok (.tuple #[.agg cs, tmps.getD q undef]) w := by
  have hp' : tmps[p]?.getD undef = .pointer (some ⟨g, 0, none⟩) := by simpa using hp
  simp [results, h, hp', asAddr, run_loadVar_row w g t ty cs fr d hg hu hd hi]
theorem results_cell_slot2 {fn : Func} {p q r : Tmp} {ty : TypeId} (h : fn.results = #[.cell p ty, .tmp q, .tmp r]) (tmps : Array Value) (w : World) (g : Nat) (t : TypeId) (cs : Array Value) (fr : Nat × Nat) (d : TypeDesc)
    (hp : tmps.getD p undef = .pointer (some ⟨g, 0, none⟩)) (hg : w.heap[g]? = some (.cells cs t fr))
    (hu : P.underlying ty = some d) (hd : (match d with | .struct _ | .array _ _ => true | _ => false) = true) (hi : (P.info? ty).map (·.size) = some cs.size) :
    (results fn tmps).run P w = .ok (.tuple #[.agg cs, tmps.getD q undef, tmps.getD r undef]) w := by
  have hp' : tmps[p]?.getD undef = .pointer (some ⟨g, 0, none⟩) := by simpa using hp
  simp [results, h, hp', asAddr, run_loadVar_row w g t ty cs fr d hg hu hd hi]
end
end Go.Proofs.Yticgpikpefgldaa.Rw

/- Slices of integers that read as lists; a block of integers; equality of two lists, as the reference tests it. -/
namespace Go.Proofs.Yticgpikpefgldaa.Wd
open Go Go.RowKit Go.Proofs.Yticgpikpefgldaa.Gro Go.Proofs.Yticgpikpefgldaa.Own
set_option linter.unusedVariables false
set_option linter.unusedSimpArgs false

def iv (k : IntKind) (l : List Int) : Array Value := (l.map (Value.int k)).toArray
theorem iv_size (k : IntKind) (l : List Int) : (iv k l).size = l.length := by simp [iv]
theorem iv_get {k : IntKind} {l : List Int} {i : Nat} (h : i < l.length) : (iv k l)[i]? = some (.int k l[i]) := by simp [iv, h]
theorem iv_set (k : IntKind) (l : List Int) (i : Nat) (x : Int) : (iv k l).setIfInBounds i (.int k x) = iv k (l.set i x) := by
  simp [iv]
theorem iv_replicate (k : IntKind) (n : Nat) (x : Int) : iv k (List.replicate n x) = Array.replicate n (.int k x) := by simp [iv]
theorem iv_toList (k : IntKind) (l : List Int) : (iv k l).toList = l.map (Value.int k) := by simp [iv]

/-- The slice value reads as the list, in whatever memory it lies. -/
def Reads (w : World) (k : IntKind) (v : Value) (l : List Int) : Prop :=
  ∃ ad cap, v = .slice ad l.length cap ∧ l.length ≤ cap ∧ cap ≤ maxLen ∧ (l = [] ∨ ∃ b off, ad = some ⟨b, off, none⟩ ∧ b < w.heap.size ∧ ∀ i (h : i < l.length), w.cell? ⟨b, off + i, none⟩ = some (.int k l[i]))
theorem Reads.keep {w w' : World} {k : IntKind} {v : Value} {l : List Int} (h : Reads w k v l) (hb : Below w.heap.size w w') : Reads w' k v l := by
  obtain ⟨ad, cap, rfl, h1, h2, h3⟩ := h
  refine ⟨ad, cap, rfl, h1, h2, ?_⟩
  rcases h3 with h3 | ⟨b, off, rfl, hl, hc⟩
  · exact .inl h3
  · exact .inr ⟨b, off, rfl, Nat.lt_of_lt_of_le hl hb.size, fun i hi => (hb.cell (p := ⟨b, off + i, none⟩) hl).trans (hc i hi)⟩
theorem Reads.nil (w : World) (k : IntKind) : Reads w k (.slice none 0 0) [] := ⟨none, 0, rfl, Nat.le_refl _, Nat.zero_le _, .inl rfl⟩
theorem Reads.of_bk {w : World} {k : IntKind} {g : Nat} {l : List Int} {t : TypeId} (h : Bk w g (iv k l) t) (hl : l.length ≤ maxLen) : Reads w k (.slice (some ⟨g, 0, none⟩) l.length l.length) l :=
  ⟨_, _, rfl, Nat.le_refl _, hl, .inr ⟨g, 0, rfl, h.lt, fun i hi => by rw [Nat.zero_add, h.cells i, iv_get hi]⟩⟩
theorem Reads.of_own {w : World} {k : IntKind} {base n : Nat} {e : TypeId} {v : Value} {l : List Int} (h : w.ownsRow base e 1 v n (l.map (Value.int k))) (hn : n = l.length) : Reads w k v l := by
  subst hn
  by_cases h0 : 0 < l.length
  · obtain ⟨g, cap, rfl, _, hlt, h1, h2, hc⟩ := owns_cells h h0
    refine ⟨_, _, rfl, h1, h2, .inr ⟨g, 0, rfl, hlt, fun i hi => ?_⟩⟩
    rw [Nat.zero_add, hc i (by simpa using hi)]
    simp [hi]
  · have e : l = [] := List.eq_nil_of_length_eq_zero (by omega)
    subst e
    rcases h.2 with ⟨rfl, _⟩ | ⟨g, cap, cur, rfl, _, _, h1, h2, _⟩
    · exact Reads.nil w k
    · exact ⟨_, _, rfl, h1, h2, .inl rfl⟩
theorem ret_bool {a b : Bool} (h : a = b) : Ending.returned (.bool a) = .returned (.bool b) := by rw [h]
theorem eq_upto {l1 l2 : List Int} (hlen : l1.length = l2.length) (h : ∀ i (h1 : i < l1.length), l1[i] = l2[i]'(by omega)) : l1 = l2 := List.ext_getElem hlen fun i h1 _ => h i h1

theorem same_ne (a1 a2 : Option Addr) (n1 n2 c1 c2 : Nat) (h : n1 ≠ n2) (w : World) : Calls Try.prog 17 #[.slice a1 n1 c1, .slice a2 n2 c2] w fun e w' => e = .returned (.bool false) ∧ Below w.heap.size w w' := by
  have hne : ((n1 : Int) != (n2 : Int)) = true := by simp; omega
  go_enter Try.func17, Try.ntmps17
  go_wp2
  go_ret
  exact ⟨rfl, Below.refl _ _⟩
theorem same_zero (a1 a2 : Option Addr) (c1 c2 : Nat) (w : World) : Calls Try.prog 17 #[.slice a1 0 c1, .slice a2 0 c2] w fun e w' => e = .returned (.bool true) ∧ Below w.heap.size w w' := by
  go_enter Try.func17, Try.ntmps17
  go_wp2
  refine wp_loop_rounds 1 ?_
  rw [rounds_succ]
  go_wp2
  go_ret
  exact ⟨rfl, Below.refl _ _⟩
set_option maxHeartbeats 400000 in
theorem same_pos (b1 o1 b2 o2 c1 c2 : Nat) (l1 l2 : List Int) (hlen : l1.length = l2.length) (w : World) (hm : l1.length ≤ maxLen)
    (h1 : ∀ i (h : i < l1.length), w.cell? ⟨b1, o1 + i, none⟩ = some (.int .u64 l1[i])) (h2 : ∀ i (h : i < l2.length), w.cell? ⟨b2, o2 + i, none⟩ = some (.int .u64 l2[i])) :
    Calls Try.prog 17 #[.slice (some ⟨b1, o1, none⟩) l1.length c1, .slice (some ⟨b2, o2, none⟩) l1.length c2] w fun e w' => e = .returned (.bool (decide (l1 = l2))) ∧ Below w.heap.size w w' := by
  unfold maxLen at hm
  have H1 := Lib.hid h1
  have H2 := Lib.hid h2
  have HL := Lib.hid hlen
  clear h1 h2 hlen
  go_enter Try.func17, Try.ntmps17
  go_wp2
  go_loopw [5] (fun i wr => ∃ k : Nat, k ≤ l1.length ∧ i = .int .i64 k ∧ (∀ j (h : j < k) (h1 : j < l1.length), l1[j] = l2[j]'(by have := HL.out; omega)) ∧ ∃ n, wr = w.drewN n) (fun i _ => l1.length - (intOf i).toNat)
  case atStart => exact ⟨0, Nat.zero_le _, rfl, fun j h => by omega, 0, rfl⟩
  case round =>
    obtain ⟨k, hk, rfl, hall, n, rfl⟩ := hrel
    have HA := Lib.hid hall
    clear hall
    by_cases hlt : k < l1.length
    · have hlt2 : k < l2.length := by have := HL.out; omega
      have q1 := H1.out k hlt
      have q2 := H2.out k hlt2
      by_cases he : l1[k] = l2[k]
      · have hb : (l1[k] != l2[k]) = false := by simp [he]
        have HE := Lib.hid he
        clear he
        go_wp2
        go_quiet (fail)
        go_wp2
        go_roundw
        case rel => exact ⟨k + 1, by omega, by go_num, fun j h h1 => by rcases Nat.lt_succ_iff_lt_or_eq.1 h with h | rfl; exact HA.out j h h1; exact HE.out, _, rfl⟩
        case measure => simp [intOf]; omega
      · have hb : (l1[k] != l2[k]) = true := by simp [he]
        have HE : RowKit.Hid (decide (l1 = l2) = false) := Lib.hid (decide_eq_false (fun e => he (by subst e; rfl)))
        clear he
        go_wp2
        go_quiet (fail)
        go_wp2
        go_ret
        exact ⟨ret_bool HE.out.symm, gro_drewN (gro_drewN (Below.refl _ _))⟩
    · obtain rfl : k = l1.length := by omega
      have HE : RowKit.Hid (decide (l1 = l2) = true) := Lib.hid (decide_eq_true (eq_upto HL.out (fun i h => HA.out i h h)))
      go_wp2
      go_ret
      exact ⟨ret_bool HE.out.symm, gro_drewN (Below.refl _ _)⟩
theorem same {w : World} {v1 v2 : Value} {l1 l2 : List Int} (h1 : Reads w .u64 v1 l1) (h2 : Reads w .u64 v2 l2) : Calls Try.prog 17 #[v1, v2] w fun e w' => e = .returned (.bool (decide (l1 = l2))) ∧ Below w.heap.size w w' := by
  obtain ⟨a1, c1, rfl, hc1, hm1, h1⟩ := h1
  obtain ⟨a2, c2, rfl, hc2, hm2, h2⟩ := h2
  by_cases hlen : l1.length = l2.length
  · rcases h1 with rfl | ⟨b1, o1, rfl, _, h1⟩
    · have : l2 = [] := List.eq_nil_of_length_eq_zero (by simpa using hlen.symm)
      subst this
      exact same_zero a1 a2 c1 c2 w
    · rcases h2 with rfl | ⟨b2, o2, rfl, _, h2⟩
      · have : l1 = [] := List.eq_nil_of_length_eq_zero (by simpa using hlen)
        subst this
        exact same_zero _ a2 c1 c2 w
      · rw [← hlen]
        exact same_pos b1 o1 b2 o2 c1 c2 l1 l2 hlen w (by omega) h1 h2
  · have hd : decide (l1 = l2) = false := decide_eq_false (fun e => hlen (by rw [e]))
    rw [hd]
    exact same_ne a1 a2 _ _ c1 c2 hlen w

theorem ints_ne (a1 a2 : Option Addr) (n1 n2 c1 c2 : Nat) (h : n1 ≠ n2) (w : World) : Calls Try.prog 23 #[.slice a1 n1 c1, .slice a2 n2 c2] w fun e w' => e = .returned (.bool false) ∧ Below w.heap.size w w' := by
  have hne : ((n1 : Int) != (n2 : Int)) = true := by simp; omega
  go_enter Try.func23, Try.ntmps23
  go_wp2
  go_ret
  exact ⟨rfl, Below.refl _ _⟩
theorem ints_zero (a1 a2 : Option Addr) (c1 c2 : Nat) (w : World) : Calls Try.prog 23 #[.slice a1 0 c1, .slice a2 0 c2] w fun e w' => e = .returned (.bool true) ∧ Below w.heap.size w w' := by
  go_enter Try.func23, Try.ntmps23
  go_wp2
  refine wp_loop_rounds 1 ?_
  rw [rounds_succ]
  go_wp2
  go_ret
  exact ⟨rfl, Below.refl _ _⟩
set_option maxHeartbeats 400000 in
theorem ints_pos (b1 o1 b2 o2 c1 c2 : Nat) (l1 l2 : List Int) (hlen : l1.length = l2.length) (w : World) (hm : l1.length ≤ maxLen)
    (h1 : ∀ i (h : i < l1.length), w.cell? ⟨b1, o1 + i, none⟩ = some (.int .i64 l1[i])) (h2 : ∀ i (h : i < l2.length), w.cell? ⟨b2, o2 + i, none⟩ = some (.int .i64 l2[i])) :
    Calls Try.prog 23 #[.slice (some ⟨b1, o1, none⟩) l1.length c1, .slice (some ⟨b2, o2, none⟩) l1.length c2] w fun e w' => e = .returned (.bool (decide (l1 = l2))) ∧ Below w.heap.size w w' := by
  unfold maxLen at hm
  have H1 := Lib.hid h1
  have H2 := Lib.hid h2
  have HL := Lib.hid hlen
  clear h1 h2 hlen
  go_enter Try.func23, Try.ntmps23
  go_wp2
  go_loopw [5] (fun i wr => ∃ k : Nat, k ≤ l1.length ∧ i = .int .i64 k ∧ (∀ j (h : j < k) (h1 : j < l1.length), l1[j] = l2[j]'(by have := HL.out; omega)) ∧ ∃ n, wr = w.drewN n) (fun i _ => l1.length - (intOf i).toNat)
  case atStart => exact ⟨0, Nat.zero_le _, rfl, fun j h => by omega, 0, rfl⟩
  case round =>
    obtain ⟨k, hk, rfl, hall, n, rfl⟩ := hrel
    have HA := Lib.hid hall
    clear hall
    by_cases hlt : k < l1.length
    · have hlt2 : k < l2.length := by have := HL.out; omega
      have q1 := H1.out k hlt
      have q2 := H2.out k hlt2
      by_cases he : l1[k] = l2[k]
      · have hb : (l1[k] != l2[k]) = false := by simp [he]
        have HE := Lib.hid he
        clear he
        go_wp2
        go_quiet (fail)
        go_wp2
        go_roundw
        case rel => exact ⟨k + 1, by omega, by go_num, fun j h h1 => by rcases Nat.lt_succ_iff_lt_or_eq.1 h with h | rfl; exact HA.out j h h1; exact HE.out, _, rfl⟩
        case measure => simp [intOf]; omega
      · have hb : (l1[k] != l2[k]) = true := by simp [he]
        have HE : RowKit.Hid (decide (l1 = l2) = false) := Lib.hid (decide_eq_false (fun e => he (by subst e; rfl)))
        clear he
        go_wp2
        go_quiet (fail)
        go_wp2
        go_ret
        exact ⟨ret_bool HE.out.symm, gro_drewN (gro_drewN (Below.refl _ _))⟩
    · obtain rfl : k = l1.length := by omega
      have HE : RowKit.Hid (decide (l1 = l2) = true) := Lib.hid (decide_eq_true (eq_upto HL.out (fun i h => HA.out i h h)))
      go_wp2
      go_ret
      exact ⟨ret_bool HE.out.symm, gro_drewN (Below.refl _ _)⟩
theorem ints {w : World} {v1 v2 : Value} {l1 l2 : List Int} (h1 : Reads w .i64 v1 l1) (h2 : Reads w .i64 v2 l2) : Calls Try.prog 23 #[v1, v2] w fun e w' => e = .returned (.bool (decide (l1 = l2))) ∧ Below w.heap.size w w' := by
  obtain ⟨a1, c1, rfl, hc1, hm1, h1⟩ := h1
  obtain ⟨a2, c2, rfl, hc2, hm2, h2⟩ := h2
  by_cases hlen : l1.length = l2.length
  · rcases h1 with rfl | ⟨b1, o1, rfl, _, h1⟩
    · have : l2 = [] := List.eq_nil_of_length_eq_zero (by simpa using hlen.symm)
      subst this
      exact ints_zero a1 a2 c1 c2 w
    · rcases h2 with rfl | ⟨b2, o2, rfl, _, h2⟩
      · have : l1 = [] := List.eq_nil_of_length_eq_zero (by simpa using hlen)
        subst this
        exact ints_zero _ a2 c1 c2 w
      · rw [← hlen]
        exact ints_pos b1 o1 b2 o2 c1 c2 l1 l2 hlen w (by omega) h1 h2
  · have hd : decide (l1 = l2) = false := decide_eq_false (fun e => hlen (by rw [e]))
    rw [hd]
    exact ints_ne a1 a2 _ _ c1 c2 hlen w
/-- make([]T, n) of one-cell elements: a new block of zeros. -/
theorem make_row {P : Program} {ops : Array Oper} {rest : List Oper} {o : Oper} {a : Act} {w : World} {Q : Exit → Act → World → Prop} {t e : TypeId} {bytes : Nat} {k : IntKind}
    (E : P.underlying t = some (.slice e)) (hE : ∃ i, P.info? e = some i ∧ i.zero = some (.int k 0) ∧ i.size = 1 ∧ i.bytes = bytes) (hby : bytes ≤ 1024) (hg : o.guard = none) (l c : Operand) (ho : o.op = .makeSlice t l c)
    (n : Nat) (hl : a.eval l = .int .i64 (n : Int)) (hc : a.eval c = .int .i64 (n : Int)) (hn : n ≤ 1000000)
    (h : wpList P ops Q rest (a.put o.dst (.slice (some ⟨w.heap.size, 0, none⟩) n n)) (w.alloc (.cells (iv k (List.replicate n 0)) e))) : wpList P ops Q (o :: rest) a w := by
  obtain ⟨i, hi, hz, hs, hb⟩ := hE
  have hr := run_make (P := P) w t e i (.int k 0) E hi hz .i64 .i64 (n : Int) (n : Int) (by omega) (Int.le_refl _) (by
    rw [hb]
    have : bytes * n ≤ 1024 * 1000000 := Nat.mul_le_mul hby hn
    have h2 : ((bytes * n : Nat) : Int) ≤ 1024000000 := by omega
    rw [Int.natCast_mul] at h2; omega) (by omega)
  simp only [Int.toNat_natCast, hs, Nat.mul_one] at hr
  have hm : madeCells (Value.cells (.int k 0)) n = iv k (List.replicate n 0) := by
    rw [iv_replicate]
    apply Array.ext
    · simp [madeCells]
    · intro j h1 h2
      simp [madeCells, Value.cells, Nat.mod_one]
  rw [hm] at hr
  refine wpList_plain hg fun K hK' => ?_
  unfold Oper.wp
  simp [execOp, ho, hl, hc, hr, Result.andThen]
  exact hK' _ _ h
end Go.Proofs.Yticgpikpefgldaa.Wd

/- Slices that read as lists, under append: laws for the walk, whatever the source (nil, empty, cut). -/
namespace Go.Proofs.Yticgpikpefgldaa.Ap
open Go Go.RowKit Go.Proofs.Yticgpikpefgldaa.Gro Go.Proofs.Yticgpikpefgldaa.Own Go.Proofs.Yticgpikpefgldaa.Wd
set_option linter.unusedVariables false

/-- A slice value, in parts. -/
structure Sl where
  (ad : Option Addr) (len cap : Nat)
abbrev Sl.v (x : Sl) : Value := .slice x.ad x.len x.cap
def nilS : Sl := ⟨none, 0, 0⟩
theorem reads_len {w : World} {k : IntKind} {x : Sl} {l : List Int} (h : Reads w k x.v l) : x.len = l.length := by
  obtain ⟨ad, cap, he, _⟩ := h
  simp only [Sl.v, Value.slice.injEq] at he
  exact he.2.1
theorem reads_le {w : World} {k : IntKind} {x : Sl} {l : List Int} (h : Reads w k x.v l) : x.len ≤ x.cap ∧ x.cap ≤ maxLen := by
  obtain ⟨ad, cap, he, h1, h2, _⟩ := h
  simp only [Sl.v, Value.slice.injEq] at he
  exact ⟨by omega, by omega⟩
theorem reads_at {w : World} {k : IntKind} {x : Sl} {l : List Int} (h : Reads w k x.v l) {i : Nat} (hi : i < l.length) : ∃ b off, x.ad = some ⟨b, off, none⟩ ∧ w.cell? ⟨b, off + i, none⟩ = some (.int k l[i]) := by
  obtain ⟨ad, cap, he, _, _, h3⟩ := h
  simp only [Sl.v, Value.slice.injEq] at he
  rcases h3 with rfl | ⟨b, off, rfl, _, hc⟩
  · simp at hi
  · exact ⟨b, off, he.1, hc i hi⟩
theorem reads_src {P : Program} {t e' : TypeId} {k : IntKind} {x : Value} {M : List Int} {w : World} (hk : P.underlying t = some (.slice e')) (h : Reads w k x M) : Src P 1 t x M.length (M.map (.int k)) w := by
  obtain ⟨ad, cap, rfl, h1, h2, h3⟩ := h
  rcases h3 with rfl | ⟨b, off, rfl, _, hc⟩
  · cases ad with
    | none => exact Src.ofNil w hk cap
    | some a => exact Src.ofSlice w hk a 0 cap [] rfl (fun j u hu => by simp at hu) (fun u hu => by cases hu)
  · refine Src.ofSlice w hk ⟨b, off, none⟩ M.length cap _ (by simp) (fun j u hu => ?_) (fun u hu => ?_)
    · rw [Addr.add_lit]
      rw [List.getElem?_map] at hu
      obtain ⟨x, hx, rfl⟩ := Option.map_eq_some_iff.1 hu
      obtain ⟨hj, rfl⟩ := List.getElem?_eq_some_iff.1 hx
      exact hc j hj
    · obtain ⟨_, _, rfl⟩ := List.mem_map.1 hu
      rfl
theorem own_sl {w : World} {base n : Nat} {e : TypeId} {size : Nat} {v : Value} {xs : List Value} (h : w.ownsRow base e size v n xs) : ∃ y : Sl, v = y.v := by
  rcases h.2 with ⟨rfl, _⟩ | ⟨g, cap, cur, rfl, _⟩
  · exact ⟨⟨none, 0, 0⟩, rfl⟩
  · exact ⟨⟨some ⟨g, 0, none⟩, n, cap⟩, rfl⟩
section
variable {P : Program} {ops : Array Oper} {rest : List Oper} {o : Oper} {a : Act} {w : World} {Q : Exit → Act → World → Prop}
/-- append(v, x..), v a row of the call's own. -/
theorem append_any {t e : TypeId} {bytes : Nat} {k : IntKind} (E : Elem P t e 1 bytes) (hgd : o.guard = none) (s x : Operand) (ho : o.op = .call { callee := .builtin .append, args := #[s, x], argTypes := #[t, t] })
    (base : Nat) (v : Value) (n : Nat) (L : List Int) (hs : a.eval s = v) (hown : w.ownsRow base e 1 v n (L.map (.int k))) (xv : Value) (M : List Int) (hx : a.eval x = xv) (hr : Reads w k xv M)
    (hn : n + M.length ≤ 1000000) (hbase : base ≤ w.heap.size)
    (h : ∀ (y : Sl) w', w'.ownsRow base e 1 y.v (n + M.length) ((L ++ M).map (.int k)) → Below base w w' → wpList P ops Q rest (a.put o.dst y.v) w') : wpList P ops Q (o :: rest) a w := by
  obtain ⟨i, z, hi, hz, hsz, hby, hzs⟩ := E.info
  by_cases hM : M = []
  · subst hM
    have hsrc := reads_src E.under hr
    obtain ⟨y, rfl⟩ := own_sl hown
    have hle : y.len ≤ y.cap := by
      rcases hown.2 with ⟨he, _⟩ | ⟨g, cap, cur, he, _, _, h1, _⟩
      · simp only [Sl.v, Value.slice.injEq] at he; omega
      · simp only [Sl.v, Value.slice.injEq] at he; omega
    have hrun := run_append_nothing (P := P) w t t o.type e i E.under hi y.ad y.len y.cap hle xv (by rw [hsz]; exact hsrc)
    refine wpList_plain hgd fun K hK' => ?_
    unfold Oper.wp
    simp [execOp, ho, resolve, invoke, builtin, hs, hx, hrun, Result.andThen]
    exact hK' _ _ (h y w (by simpa using hown) (Below.refl _ _))
  · have hr' := hr
    obtain ⟨ad, cap, rfl, h1, h2, h3⟩ := hr
    rcases h3 with rfl | ⟨b, off, rfl, _, hc⟩
    · exact absurd rfl hM
    refine wpList_append_own w hgd s x t ho base e i z 1 bytes E.under hi hz hsz hby hzs (by decide) v n _ hs hown ⟨b, off, none⟩ M.length cap (M.map (.int k)) hx (by simp) (fun j u hu => ?_) (fun u hu => ?_) (by unfold maxLen; omega) ?_ hbase (fun v' w' h2 h3 _ => ?_)
    · rw [Addr.add_lit]
      rw [List.getElem?_map] at hu
      obtain ⟨x, hx, rfl⟩ := Option.map_eq_some_iff.1 hu
      obtain ⟨hj, rfl⟩ := List.getElem?_eq_some_iff.1 hx
      exact hc j hj
    · obtain ⟨_, _, rfl⟩ := List.mem_map.1 hu
      rfl
    · have := E.small
      calc (n + M.length) * bytes ≤ 1000000 * 1024 := Nat.mul_le_mul hn this
        _ ≤ 140737488355328 := by decide
    · obtain ⟨y, rfl⟩ := own_sl h2
      exact h y w' (by rw [List.map_append]; exact h2) (below_of_grown hown hbase h3)
/-- append(v, x..), v the call's own without room to spare: what was there is as it was. -/
theorem append_tight {t e : TypeId} {bytes : Nat} {k : IntKind} (E : Elem P t e 1 bytes) (hgd : o.guard = none) (s x : Operand) (ho : o.op = .call { callee := .builtin .append, args := #[s, x], argTypes := #[t, t] })
    (base : Nat) (d : Sl) (L : List Int) (hs : a.eval s = d.v) (hd : w.ownsRow base e 1 d.v L.length (L.map (.int k))) (ht : d.cap = d.len) (xv : Value) (M : List Int) (hx : a.eval x = xv) (hr : Reads w k xv M)
    (hn : L.length + M.length ≤ 1000000) (hbase : base ≤ w.heap.size)
    (h : ∀ (y : Sl) w', w'.ownsRow base e 1 y.v (L ++ M).length ((L ++ M).map (.int k)) → Below w.heap.size w w' → wpList P ops Q rest (a.put o.dst y.v) w') : wpList P ops Q (o :: rest) a w := by
  obtain ⟨i, z, hi, hz, hsz, hby, hzs⟩ := E.info
  have hdr : Reads w k d.v L := Reads.of_own hd rfl
  have hlen := reads_len hdr
  have hsrc := reads_src E.under hr
  refine wpList_plain hgd fun K hK' => ?_
  by_cases hM : M = []
  · subst hM
    have hrun := run_append_nothing (P := P) w t t o.type e i E.under hi d.ad d.len d.cap (by omega) xv (by rw [hsz]; exact hsrc)
    unfold Oper.wp
    simp [execOp, ho, resolve, invoke, builtin, hs, hx, hrun, Result.andThen]
    exact hK' _ _ (h d w (by simpa using hd) (Below.refl _ _))
  · have hpos : 0 < M.length := List.length_pos_iff.2 hM
    have hmx : d.len + M.length ≤ maxLen := by unfold maxLen; omega
    have hrun := run_append_grow_src (P := P) w t t o.type e i z E.under hi hz d.ad d.len d.cap (L.map (.int k)) (by rw [hsz, hlen]; have := (reads_src E.under hdr).cellsD; rw [← hlen] at this; exact hlen ▸ this) xv M.length (M.map (.int k)) (by rw [hsz]; exact hsrc) (by omega) (by unfold maxLen at hmx; omega) (growslice_fits (by omega) (by
      have := E.small
      rw [hby, hlen]
      calc (L.length + M.length) * bytes ≤ 1000000 * 1024 := Nat.mul_le_mul hn this
        _ ≤ 140737488355328 := by decide))
    unfold Oper.wp
    simp [execOp, ho, resolve, invoke, builtin, hs, hx, hrun, Result.andThen]
    have hge := grownCap_ge w (d.len + M.length) d.cap e
    have hcm := grownCap_le_maxLen w (d.len + M.length) d.cap e hmx
    refine hK' _ _ (h ⟨some ⟨w.heap.size, 0, none⟩, d.len + M.length, grownCap w (d.len + M.length) d.cap e⟩ _ ?_ ?_)
    · refine ⟨by simp, .inr ⟨w.heap.size, grownCap w (d.len + M.length) d.cap e, _, by simp only [Sl.v, List.length_append, hlen], hbase, heap_alloc_new w.drew _, by rw [List.length_append, ← hlen]; exact hge, hcm, ?_, ?_⟩⟩
      · rw [Array.size_append, size_zeroCells, hzs]
        simp only [List.size_toArray, List.length_append, List.length_map]
        omega
      · rw [Array.toList_append, List.map_append]
        exact List.take_left' (by simp)
    · exact ((Below.refl w.heap.size w).drew).alloc (Nat.le_refl _) _
end
end Go.Proofs.Yticgpikpefgldaa.Ap

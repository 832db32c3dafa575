/- Layer 21: strings.Cut, append onto a row with its place told, the reader's method do (made by genscdo.py). -/
import Derived.Test.YtpmcedfeiconfaaGreatDoorScRdMs
import Derived.Test.YtpmcedfeiconfaaGreatDoorOprs
namespace Go.Proofs.YtpmcedfeiconfaaGreatDoor.Scw
open Go Go.RowKit Go.ChangeMaps Go.Proofs.YtpmcedfeiconfaaGreatDoor.Gro Go.Proofs.YtpmcedfeiconfaaGreatDoor.Own Go.Proofs.YtpmcedfeiconfaaGreatDoor.Mr Go.Proofs.YtpmcedfeiconfaaGreatDoor.Opn Go.Proofs.YtpmcedfeiconfaaGreatDoor.Opw Go.Proofs.YtpmcedfeiconfaaGreatDoor.Pl Go.Proofs.YtpmcedfeiconfaaGreatDoor.Scr Go.Proofs.YtpmcedfeiconfaaGreatDoor.Wd
set_option linter.unusedVariables false
set_option linter.unusedSimpArgs false
section
variable {P : Program} {ops : Array Oper} {rest : List Oper} {o : Oper} {a : Act} {w : World} {Q : Exit → Act → World → Prop} {K : Act → World → Prop} {E : Prop}
theorem add_lit0 (g j : Nat) : (⟨g, 0, none⟩ : Addr).add j = ⟨g, j, none⟩ := by rw [Addr.add_lit, Nat.zero_add]
/-- append(v, news..), v a row of the call's own: where the new row lies. -/
theorem append_g {t e : TypeId} {size bytes : Nat} (E : Elem P t e size bytes) (hgd : o.guard = none) (s x : Operand) (ho : o.op = .call { callee := .builtin .append, args := #[s, x], argTypes := #[t, t] })
    (base : Nat) (v : Value) (n : Nat) (xs : List Value) (hs : a.eval s = v) (hown : w.ownsRow base e size v n xs) (g m c : Nat) (news : List Value) (hx : a.eval x = .slice (some ⟨g, 0, none⟩) m c)
    (hl : news.length = m * size) (hnews : ∀ j, j < news.length → w.cell? ⟨g, j, none⟩ = news[j]?) (h1 : ∀ u ∈ news, u.oneCell' = true) (hn : n + m ≤ 1000000) (hbase : base ≤ w.heap.size)
    (h : ∀ v' w', w'.ownsRow base e size v' (n + m) (xs ++ news) → w.grownBy w' v.ownBlock → (v'.ownBlock = v.ownBlock ∨ v'.ownBlock = some w.heap.size) → wpList P ops Q rest (a.put o.dst v') w') : wpList P ops Q (o :: rest) a w := by
  obtain ⟨i, z, hi, hz, hsz, hby, hzs⟩ := E.info
  refine wpList_append_own_at w hgd s x t ho base e i z size bytes E.under hi hz hsz hby hzs E.pos v n xs hs hown ⟨g, 0, none⟩ m c news hx hl (fun j u hu => ?_) h1 (by unfold maxLen; omega) ?_ hbase (fun v' w' h2 h3 _ h4 => h v' w' h2 h3 h4)
  · have hj : j < news.length := (List.getElem?_eq_some_iff.1 hu).1
    rw [add_lit0, hnews j hj, hu]
  · have := E.small
    calc (n + m) * bytes ≤ 1000000 * 1024 := Nat.mul_le_mul hn this
      _ ≤ 140737488355328 := by decide
/-- The same where the operation stands in a region that draws its order. -/
theorem step_append {t e : TypeId} {size bytes : Nat} (El : Elem P t e size bytes) (hgd : o.guard = none) (s x : Operand) (ho : o.op = .call { callee := .builtin .append, args := #[s, x], argTypes := #[t, t] })
    (base : Nat) (v : Value) (n : Nat) (xs : List Value) (hs : a.eval s = v) (hown : w.ownsRow base e size v n xs) (g m c : Nat) (news : List Value) (hx : a.eval x = .slice (some ⟨g, 0, none⟩) m c)
    (hl : news.length = m * size) (hnews : ∀ j, j < news.length → w.cell? ⟨g, j, none⟩ = news[j]?) (h1 : ∀ u ∈ news, u.oneCell' = true) (hn : n + m ≤ 1000000) (hbase : base ≤ w.heap.size)
    (h : ∀ v' w', w'.ownsRow base e size v' (n + m) (xs ++ news) → w.grownBy w' v.ownBlock → (v'.ownBlock = v.ownBlock ∨ v'.ownBlock = some w.heap.size) → K (a.put o.dst v') w') : if Region.wanted o (yielded ops a.tmps) = true then Oper.wp P o a w K Q else E := by
  rw [if_pos (by simp [Region.wanted, hgd])]
  obtain ⟨i, z, hi, hz, hsz, hby, hzs⟩ := El.info
  obtain ⟨v', w', hr, h2, h3, _, h4⟩ := run_append_own_at (P := P) w base t o.type e i z size bytes El.under hi hz hsz hby hzs El.pos v n xs hown ⟨g, 0, none⟩ m c news hl (fun j u hu => by
    have hj : j < news.length := (List.getElem?_eq_some_iff.1 hu).1
    rw [add_lit0, hnews j hj, hu]) h1 (by unfold maxLen; omega) (by
    have := El.small
    calc (n + m) * bytes ≤ 1000000 * 1024 := Nat.mul_le_mul hn this
      _ ≤ 140737488355328 := by decide) hbase
  unfold Oper.wp execOp
  simp only [ho, resolve, invoke, builtin, Sem.run_bind, Sem.run_pure, Result.andThen_ok, List.map_toArray, List.map_cons, List.map_nil, hs, hx, hr]
  exact h v' w' h2 h3 h4
end
theorem fCut (l : List UInt8) (c : UInt8) (hl : l.length ≤ 1000000) (w : World) (L : Lb w) : Calls Tryz.prog 33 #[strV l, .string ⟨#[c]⟩] w fun e w' =>
    e = .returned (.tuple #[strV (Lib.cut l [c]).1, strV (Lib.cut l [c]).2.1, .bool (Lib.cut l [c]).2.2]) ∧ Below w.heap.size w w' := by
  obtain ⟨m, hm⟩ := L.mx
  exact (Tryz.strings_Cut ⟨l.toArray⟩ ⟨#[c]⟩ m w (by show l.length < _; omega) hm).mono fun e w' ⟨h1, n, h2⟩ => ⟨h1, by rw [h2]; exact below_drewN (Below.refl _ _) n⟩
theorem cut_len (l : List UInt8) (c : UInt8) : (Lib.cut l [c]).1.length ≤ l.length ∧ (Lib.cut l [c]).2.1.length ≤ l.length := by
  cases h : (Lib.cut l [c]).2.2 with
  | true =>
    have := congrArg List.length (cut_parts l c h).1
    simp at this
    omega
  | false =>
    rw [cut_false c h]
    by_cases hm : c ∈ l
    · obtain ⟨a, r, rfl, ha⟩ := List.eq_append_cons_of_mem hm
      rw [cut_hit ha] at h
      cases h
    · rw [cut_none hm]; simp
theorem run_alloc_op0 (w : World) : (Instr.alloc 50 true (.tuple #[])).run Tryz.prog w = .ok (.pointer (some ⟨w.heap.size, 0, none⟩)) (w.alloc (.cells (opC OpD.zero) 50)) := by kernel_rfl
theorem wpList_alloc_op0 {ops : Array Oper} {rest : List Oper} {o : Oper} {a : Act} {w : World} {Q : Exit → Act → World → Prop} (hg : o.guard = none) (ho : o.op = .alloc 50)
    (h : wpList Tryz.prog ops Q rest (a.put o.dst (.pointer (some ⟨w.heap.size, 0, none⟩))) (w.alloc (.cells (opC OpD.zero) 50))) : wpList Tryz.prog ops Q (o :: rest) a w := by
  refine wpList_plain hg fun K hK => ?_
  unfold Oper.wp
  simp [execOp, ho, run_alloc_op0, Result.andThen]
  exact hK _ _ h
theorem boxO (w : World) (o : OpD) : Bk ((w.alloc (.cells (opC OpD.zero) 50)).setRow w.heap.size (opC o)) w.heap.size (opC o) 50 := (Bk.new w (opC OpD.zero) 50).setRow _
theorem boxO_below (w : World) (o : OpD) : Below w.heap.size w ((w.alloc (.cells (opC OpD.zero) 50)).setRow w.heap.size (opC o)) := below_setRow ((Below.refl _ _).alloc (Nat.le_refl _) _) (Nat.le_refl _) _
/-- The rounds that fill up with empty programs. -/
def fillP (p : List (List OpD)) (j : Nat) : List (List OpD) := p ++ List.replicate j []
def fillU (U : List Value) (j : Nat) : List Value := U ++ List.replicate j nilV
theorem fillP_succ (p : List (List OpD)) (j : Nat) : fillP p j ++ [[]] = fillP p (j + 1) := by unfold fillP; rw [List.append_assoc, List.replicate_succ']
theorem fillU_succ (U : List Value) (j : Nat) : fillU U j ++ [nilV] = fillU U (j + 1) := by unfold fillU; rw [List.append_assoc, List.replicate_succ']
theorem fillP_len (p : List (List OpD)) (j : Nat) : (fillP p j).length = p.length + j := by simp [fillP]
theorem fillP_get (p : List (List OpD)) (j i : Nat) : (fillP p j).getD i [] = p.getD i [] := by
  unfold fillP
  by_cases h : i < p.length
  · simp [List.getD_eq_getElem?_getD, List.getElem?_append_left h]
  · rw [List.getD_eq_getElem?_getD, List.getD_eq_getElem?_getD, List.getElem?_append_right (by omega), List.getElem?_eq_none (l := p) (by omega), List.getElem?_replicate]
    split <;> rfl
theorem fill_add (p : List (List OpD)) (k : Nat) (o : OpD) (h : p.length ≤ k + 1) : (fillP p (k + 1 - p.length)).set k ((fillP p (k + 1 - p.length)).getD k [] ++ [o]) = addOp p k o := by
  rw [fillP_get]
  unfold addOp fillP
  by_cases hk : k + 1 = p.length
  · rw [if_pos hk, hk, Nat.sub_self]
    simp only [List.replicate_zero, List.append_nil]
    rw [List.set_eq_take_append_cons_drop, if_pos (by omega), hk]
    simp
  · rw [if_neg hk]
    have e : k + 1 - p.length = (k - p.length) + 1 := by omega
    rw [e, List.replicate_succ', ← List.append_assoc, List.set_append_right _ _ (by simp; omega)]
    have e2 : p.getD k [] = [] := by rw [List.getD_eq_getElem?_getD, List.getElem?_eq_none (by omega)]; rfl
    have e3 : k - (p ++ List.replicate (k - p.length) ([] : List OpD)).length = 0 := by simp; omega
    rw [e2, e3]
    simp
/-- What a row's world keeps but for two rows. -/
structure G2 (r1 r2 : Option Nat) (w w' : World) : Prop where
  os : w'.os = w.os
  tape : w'.tape = w.tape
  output : w'.output = w.output
  size : w.heap.size ≤ w'.heap.size
  block : ∀ k, k < w.heap.size → some k ≠ r1 → some k ≠ r2 → w'.heap[k]? = w.heap[k]?
theorem G2.drew (r1 r2 : Option Nat) (w : World) : G2 r1 r2 w w.drew := ⟨rfl, rfl, rfl, Nat.le_refl _, fun _ _ _ _ => rfl⟩
theorem G2.alloc {r1 r2 : Option Nat} {w w' : World} (h : G2 r1 r2 w w') (o : Obj) : G2 r1 r2 w (w'.alloc o) :=
  ⟨h.os, h.tape, h.output, by simp; have := h.size; omega, fun k hk h1 h2 => (Below.heap_alloc w' o k (Nat.lt_of_lt_of_le hk h.size)).trans (h.block k hk h1 h2)⟩
theorem G2.grown {r1 r2 : Option Nat} {w w' w2 : World} (h : G2 r1 r2 w w') (g : w'.grownBy w2 r1) : G2 r1 r2 w w2 :=
  ⟨g.os.trans h.os, g.tape.trans h.tape, g.output.trans h.output, Nat.le_trans h.size g.size, fun k hk h1 h2 => (g.block k (Nat.lt_of_lt_of_le hk h.size) h1).trans (h.block k hk h1 h2)⟩
theorem G2.grown2 {r1 r2 : Option Nat} {w w' w2 : World} (h : G2 r1 r2 w w') (g : w'.grownBy w2 r2) : G2 r1 r2 w w2 :=
  ⟨g.os.trans h.os, g.tape.trans h.tape, g.output.trans h.output, Nat.le_trans h.size g.size, fun k hk h1 h2 => (g.block k (Nat.lt_of_lt_of_le hk h.size) h2).trans (h.block k hk h1 h2)⟩
theorem G2.bk {r1 r2 : Option Nat} {w w' : World} (h : G2 r1 r2 w w') {g : Nat} {cs : Array Value} {t : TypeId} (hb : Bk w g cs t) (h1 : some g ≠ r1) (h2 : some g ≠ r2) : Bk w' g cs t := (h.block g hb.lt h1 h2).trans hb
theorem G2.far {r1 r2 : Option Nat} {B b : Nat} {w w' : World} (h : G2 r1 r2 w w') (hB : B ≤ w.heap.size) (h1 : ∀ k, r1 = some k → B ≤ k) (h2 : ∀ k, r2 = some k → B ≤ k) : Far B b w w' :=
  ⟨h.os, h.tape, h.output, h.size, fun k hk _ => h.block k (Nat.lt_of_lt_of_le hk hB) (fun e => by have := h1 k e.symm; omega) (fun e => by have := h2 k e.symm; omega)⟩
def lenV : Value → Nat | .slice _ n _ => n | _ => 0
theorem fillU_get (U : List Value) (j i : Nat) : (fillU U j).getD i nilV = U.getD i nilV := by
  unfold fillU
  by_cases h : i < U.length
  · simp [List.getD_eq_getElem?_getD, List.getElem?_append_left h]
  · rw [List.getD_eq_getElem?_getD, List.getD_eq_getElem?_getD, List.getElem?_append_right (by omega), List.getElem?_eq_none (l := U) (by omega), List.getElem?_replicate]
    split <;> rfl
def DoOut (B b m : Nat) (st : RdS) (x : Bool) (w' : World) : Option Nat → Option OpD → Prop
  | some k, some o => if (k : Int) < st.s.c.ww ∧ st.s.p.length ≤ k + 1 then x = decide (((addOp st.s.p k o).getD k []).length ≤ 200) ∧ RdW B b m { st with s := { st.s with p := addOp st.s.p k o } } w' else x = false
  | _, _ => x = false
theorem doOut_no {B b m : Nat} {st : RdS} {w' : World} {k : Nat} {o : OpD} (h : ¬ ((k : Int) < st.s.c.ww ∧ st.s.p.length ≤ k + 1)) : DoOut B b m st false w' (some k) (some o) := by
  show (if _ then _ else _)
  rw [if_neg h]
theorem doOut_yes {B b m : Nat} {st : RdS} {x : Bool} {w' : World} {k : Nat} {o : OpD} (h : (k : Int) < st.s.c.ww ∧ st.s.p.length ≤ k + 1) (h1 : x = decide (((addOp st.s.p k o).getD k []).length ≤ 200)) (h2 : RdW B b m { st with s := { st.s with p := addOp st.s.p k o } } w') : DoOut B b m st x w' (some k) (some o) := by
  show (if _ then _ else _)
  rw [if_pos h]
  exact ⟨h1, h2⟩
theorem opC_one (o : OpD) : ∀ u ∈ (opC o).toList, u.oneCell' = true := by
  intro u hu
  simp only [List.mem_cons, List.not_mem_nil, or_false] at hu
  rcases hu with rfl | rfl | rfl | rfl | rfl | rfl | rfl <;> rfl
def DoP (B b m : Nat) (st : RdS) (W1 T1 : List UInt8) (w : World) (e : Ending) (w' : World) : Prop :=
  ∃ x : Bool, e = .returned (.bool x) ∧ Far B b w w' ∧ DoOut B b m st x w' (rdW W1) (parseL T1)
/-- What do does. -/
def DoPost (B b m : Nat) (st : RdS) (l : List UInt8) (w : World) (e : Ending) (w' : World) : Prop := DoP B b m st (Lib.cut l [32]).1 (Lib.cut l [32]).2.1 w e w'
end Go.Proofs.YtpmcedfeiconfaaGreatDoor.Scw

/- order.copyOf and isRead; append onto a row of answers. -/
import Derived.Test.YtgpdkagmacpghaaOrdWhole
import Derived.Test.YtgpdkagmacpghaaMems
namespace Go.Proofs.Ytgpdkagmacpghaa.Od
open Go Go.RowKit Go.Proofs.Ytgpdkagmacpghaa.Gro Go.Proofs.Ytgpdkagmacpghaa.Own Go.Proofs.Ytgpdkagmacpghaa.Wd Go.Proofs.Ytgpdkagmacpghaa.Ap Go.Proofs.Ytgpdkagmacpghaa.Pl Go.Proofs.Ytgpdkagmacpghaa.Wo Go.Proofs.Ytgpdkagmacpghaa.Shp Go.Proofs.Ytgpdkagmacpghaa.Mr Go.ChangeMaps
set_option linter.unusedVariables false
set_option linter.unusedSimpArgs false
/-- The cells of an answer: those of the event, but for its words. -/
def ac (e : Shp.Ev) (y : Sl) : Array Value := #[.int .i64 e.o0, .int .u64 e.o1, .int .u64 e.o2, .int .i64 e.o3, .bool e.o4, .int .i64 e.o5, .int .i64 e.o6, .int .u64 e.t, .int .i64 e.rt, y.v]
theorem ac_set (e : Shp.Ev) (y z : Sl) : (ac e y).setIfInBounds 9 z.v = ac e z := rfl
theorem ac_mid {w : World} {b off : Nat} {s : Shp.Ev} (h : w.rangeAt b off (ec s).toList) : w.rangeAt b (off + 4) (ac s s.rd).toList := fun j v hv => by
  have hj : j < 10 := (List.getElem?_eq_some_iff.1 hv).1
  have e : (ec s).toList[4 + j]? = some v := by
    rw [← hv]
    match j, hj with
    | 0, _ | 1, _ | 2, _ | 3, _ | 4, _ | 5, _ | 6, _ | 7, _ | 8, _ | 9, _ => rfl
  rw [Nat.add_assoc]
  exact h (4 + j) v e
theorem bk_range {w : World} {g : Nat} {cs : Array Value} {t : TypeId} (h : Bk w g cs t) : w.rangeAt g 0 cs.toList := fun j v hv => by
  rw [h.cells]
  simpa using hv
theorem run_alloc_az (w : World) : (Instr.alloc 57 true (.tuple #[])).run Try.prog w = .ok (.pointer (some ⟨w.heap.size, 0, none⟩)) (w.alloc (.cells (ac ez nilS) 57)) := by kernel_rfl
theorem wpList_alloc_az {ops : Array Oper} {rest : List Oper} {o : Oper} {a : Act} {w : World} {Q : Exit → Act → World → Prop} (hg : o.guard = none) (ho : o.op = .alloc 57)
    (h : wpList Try.prog ops Q rest (a.put o.dst (.pointer (some ⟨w.heap.size, 0, none⟩))) (w.alloc (.cells (ac ez nilS) 57))) : wpList Try.prog ops Q (o :: rest) a w := by
  refine wpList_plain hg fun K hK => ?_
  unfold Oper.wp
  simp [execOp, ho, run_alloc_az, Result.andThen]
  exact hK _ _ h
set_option maxRecDepth 10000 in
theorem copyOf (e : Shp.Ev) (x : Sl) (xs : List Int) (hx : xs.length ≤ 1000) (w : World) (h : Reads w .u64 x.v xs) :
    Calls Try.prog 54 #[.agg (ac e x)] w fun en w' => ∃ y : Sl, en = .returned (.agg (ac e y)) ∧ Owned w.heap.size w' .u64 22 y xs ∧ Below w.heap.size w w' := by
  have X0 := Bk.new w (ac e x) 57
  have hw0 : Below w.heap.size w (w.alloc (.cells (ac e x) 57)) := (Below.refl _ _).alloc (Nat.le_refl _) _
  have X1 := X0.alloc (.cells (ac ez nilS) 57)
  have Y1 := Bk.new (w.alloc (.cells (ac e x) 57)) (ac ez nilS) 57
  rw [World.size_alloc] at Y1
  have hw1 : Below w.heap.size w ((w.alloc (.cells (ac e x) 57)).alloc (.cells (ac ez nilS) 57)) := hw0.alloc (by rw [World.size_alloc]; omega) _
  have hc := Me.clone hx (h.keep hw1)
  have x9 := X1.cells 9
  rw [show (ac e x)[9]? = some (.slice x.ad x.len x.cap) from rfl] at x9
  have lx := X1.lt
  obtain ⟨w1, hw⟩ : ∃ u, u = (w.alloc (.cells (ac e x) 57)).alloc (.cells (ac ez nilS) 57) := ⟨_, rfl⟩
  have hs1 : w1.heap.size = w.heap.size + 2 := by rw [hw]; simp
  rw [← hw] at X1 Y1 hw1 hc x9 lx
  have HC := Lib.hid hc
  clear X0 hw0 hc h
  go_enter Try.func54, Try.ntmps54
  go_wp2_with (refine wpList_alloc_az rfl rfl ?_; rw [← hw]; clear hw)
  refine HC.out.mono ?_
  rintro en w2 ⟨y, rfl, OY, hb2⟩
  have X2 := X1.keep hb2
  have Y2 := Y1.keep hb2
  have hw2 := hw1.trans (hb2.mono hw1.size)
  have x2 := X2.cells
  have z2 := X2.frozen
  have s2 := hb2.size
  have a9 : (ac e x)[9]? = some (.slice x.ad x.len x.cap) := rfl
  have OY2 : Owned (w.heap.size + 2) w2 .u64 22 y xs := by rw [← hs1]; exact OY
  have X3 := X2.setCell 9 y.v
  rw [ac_set] at X3
  have Y3 := Y2.setCell_far (a := ⟨w.heap.size, 9, none⟩) (by simp) y.v
  have OY3 := OY2.setCell (g := w.heap.size) (by omega) 9 y.v
  have hw3 : Below w.heap.size w (w2.setCell ⟨w.heap.size, 9, none⟩ y.v) := hw2.setCell (by simp) _
  clear X1 Y1 x9
  go_wp2_with (first | (refine wpList_load_row rfl 57 _ rfl w.heap.size rfl _ (ac e y) (0, 0) _ (by exact X3) Try.underlying57 rfl (by kernel_rfl) ?_) | (refine wpList_store_row rfl 57 _ _ rfl (w.heap.size + 1) (ac e y) rfl rfl _ _ (by exact Y3) (by kernel_rfl) (by kernel_rfl) (by kernel_rfl) ?_))
  have Y4 := Y3.setRow (ac e y)
  refine bodyPost_ret (v := .agg (ac e y)) ?_ rfl ⟨y, rfl, (OY3.setRow (g := w.heap.size + 1) (by omega) _).base (by omega), below_setRow hw3 (by omega) _⟩
  exact results_cell_row (p := 2) (ty := 57) Try.results54 _ _ (w.heap.size + 1) 57 _ (0, 0) _ rfl Y4 Try.underlying57 rfl (by kernel_rfl)
def isRd (e : Shp.Ev) : Bool := (e.o0 == 6 || e.o0 == 7) && e.rt == 0
set_option maxRecDepth 10000 in
theorem isRead (e : Shp.Ev) (x : Sl) (w : World) : Calls Try.prog 55 #[.agg (ac e x)] w fun en w' => en = .returned (.bool (isRd e)) ∧ Below w.heap.size w w' := by
  have X0 := Bk.new w (ac e x) 57
  have hw0 : Below w.heap.size w (w.alloc (.cells (ac e x) 57)) := (Below.refl _ _).alloc (Nat.le_refl _) _
  have x0 := X0.cells
  have a0 : (ac e x)[0]? = some (.int .i64 e.o0) := rfl
  have a8 : (ac e x)[8]? = some (.int .i64 e.rt) := rfl
  have lx := X0.lt
  clear X0
  by_cases h6 : e.o0 = 6
  · have t6 : (e.o0 == 6) = true := by simp [h6]
    have hr : isRd e = (e.rt == 0) := by simp [isRd, h6]
    rw [hr]
    clear hr h6
    go_enter Try.func55, Try.ntmps55
    go_wp2
    go_ret
    exact ⟨rfl, hw0⟩
  · have t6 : (e.o0 == 6) = false := by simp [h6]
    by_cases h7 : e.o0 = 7
    · have t7 : (e.o0 == 7) = true := by simp [h7]
      have hr : isRd e = (e.rt == 0) := by simp [isRd, h7]
      rw [hr]
      clear hr h6 h7
      go_enter Try.func55, Try.ntmps55
      go_wp2
      go_ret
      exact ⟨rfl, hw0⟩
    · have t7 : (e.o0 == 7) = false := by simp [h7]
      have hr : isRd e = false := by simp [isRd, h6, h7]
      rw [hr]
      clear hr h6 h7
      go_enter Try.func55, Try.ntmps55
      go_wp2
      go_ret
      exact ⟨rfl, hw0⟩
theorem run_one (e : Shp.Ev) (y : Sl) (w : World) : (Instr.buildSlice 54 1 #[(0, .agg (ac e y))]).run Try.prog w = .ok (.slice (some ⟨w.heap.size, 0, none⟩) 1 1) (w.alloc (.cells (ac e y) 57)) := by kernel_rfl
theorem wpList_one {ops : Array Oper} {rest : List Oper} {o : Oper} {a : Act} {w : World} {Q : Exit → Act → World → Prop} (hg : o.guard = none) (x : Operand) (ho : o.op = .buildSlice 54 1 #[(0, x)]) (e : Shp.Ev) (y : Sl) (hx : a.eval x = .agg (ac e y))
    (h : wpList Try.prog ops Q rest (a.put o.dst (.slice (some ⟨w.heap.size, 0, none⟩) 1 1)) (w.alloc (.cells (ac e y) 57))) : wpList Try.prog ops Q (o :: rest) a w := by
  refine wpList_plain hg fun K hK => ?_
  unfold Oper.wp
  simp [execOp, ho, hx, run_one, Result.andThen]
  exact hK _ _ h
theorem infoA : ∃ i, Try.prog.info? 57 = some i ∧ i.zero = some (.agg (ac ez nilS)) ∧ i.size = 10 ∧ i.bytes = 96 := by
  have h : (Try.prog.info? 57).map (fun i => (i.zero, i.size, i.bytes)) = some (some (.agg (ac ez nilS)), 10, 96) := by kernel_rfl
  exact info_parts h
theorem elemA : Elem Try.prog 54 57 10 96 := ⟨Try.underlying54, by
  obtain ⟨i, h1, h2, h3, h4⟩ := infoA
  exact ⟨i, _, h1, h2, h3, h4, rfl⟩, by decide, by decide⟩
section
variable {P : Program} {ops : Array Oper} {rest : List Oper} {o : Oper} {a : Act} {w : World} {Q : Exit → Act → World → Prop}
/-- append(v, news..), as append_row: the blocks of other element types are as they were. -/
theorem append_rowT {t e : TypeId} {size bytes : Nat} (E : Elem P t e size bytes) (hgd : o.guard = none) (s x : Operand) (ho : o.op = .call { callee := .builtin .append, args := #[s, x], argTypes := #[t, t] })
    (base : Nat) (v : Value) (n : Nat) (xs : List Value) (hs : a.eval s = v) (hown : w.ownsRow base e size v n xs) (g m c : Nat) (news : List Value) (hx : a.eval x = .slice (some ⟨g, 0, none⟩) m c)
    (hl : news.length = m * size) (hnews : ∀ j, j < news.length → w.cell? ⟨g, j, none⟩ = news[j]?) (h1 : ∀ u ∈ news, u.oneCell' = true) (hm : 0 < m) (hn : n + m ≤ 1000000) (hbase : base ≤ w.heap.size)
    (h : ∀ (y : Sl) w', w'.ownsRow base e size y.v (n + m) (xs ++ news) → Below base w w' → (∀ g cs t', t' ≠ e → Bk w g cs t' → Bk w' g cs t') → wpList P ops Q rest (a.put o.dst y.v) w') : wpList P ops Q (o :: rest) a w := by
  obtain ⟨i, z, hi, hz, hsz, hby, hzs⟩ := E.info
  refine wpList_append_own w hgd s x t ho base e i z size bytes E.under hi hz hsz hby hzs E.pos v n xs hs hown ⟨g, 0, none⟩ m c news hx hl (fun j u hu => ?_) h1 (by unfold maxLen; omega) ?_ hbase (fun v' w' h2 h3 _ => ?_)
  · have hj : j < news.length := (List.getElem?_eq_some_iff.1 hu).1
    have : (⟨g, 0, none⟩ : Addr).add j = ⟨g, j, none⟩ := by
      unfold Addr.add; split
      · subst_vars; rfl
      · simp
    rw [this, hnews j hj, hu]
  · have := E.small
    calc (n + m) * bytes ≤ 1000000 * 1024 := Nat.mul_le_mul hn this
      _ ≤ 140737488355328 := by decide
  · obtain ⟨y, rfl⟩ := own_sl h2
    refine h y w' h2 (below_of_grown hown hbase h3) (fun g cs t' ht hg => ?_)
    refine (h3.block g hg.lt (fun e' => ?_)).trans hg
    rcases hown.2 with ⟨h0, _⟩ | ⟨g', cap, cur, h0, _, hh, _⟩
    · rw [h0] at e'
      simp [Value.ownBlock] at e'
    · rw [h0] at e'
      simp only [Value.ownBlock, Option.some.injEq] at e'
      subst e'
      have := hg.symm.trans hh
      simp only [Option.some.injEq, Obj.cells.injEq] at this
      exact ht this.2.1
end
theorem Owned.other {B : Nat} {w w' : World} {k : IntKind} {t e : TypeId} {y : Sl} {l : List Int} (h : Owned B w k t y l) (ht : t ≠ e) (hk : ∀ g cs t', t' ≠ e → Bk w g cs t' → Bk w' g cs t') : Owned B w' k t y l := by
  refine ⟨h.1, ?_⟩
  rcases h.2 with h0 | ⟨g, cap, cur, he, hge, hh, rest⟩
  · exact .inl h0
  · exact .inr ⟨g, cap, cur, he, hge, hk g cur t ht hh, rest⟩
end Go.Proofs.Ytgpdkagmacpghaa.Od

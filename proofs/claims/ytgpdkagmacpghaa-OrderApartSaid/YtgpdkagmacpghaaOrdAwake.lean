/- The example of layer 16; what great says. -/
import Derived.Test.YtgpdkagmacpghaaOrdFits
namespace Go.Proofs.Ytgpdkagmacpghaa.Od
open Go Go.RowKit Go.Proofs.Ytgpdkagmacpghaa.Gro Go.Proofs.Ytgpdkagmacpghaa.Own Go.Proofs.Ytgpdkagmacpghaa.Wd Go.Proofs.Ytgpdkagmacpghaa.Ap Go.Proofs.Ytgpdkagmacpghaa.Pl Go.Proofs.Ytgpdkagmacpghaa.Wo Go.Proofs.Ytgpdkagmacpghaa.Shp Go.Proofs.Ytgpdkagmacpghaa.Mr Go.ChangeMaps Go.Proofs.Ytgpdkagmacpghaa.Idl
set_option linter.unusedVariables false
set_option linter.unusedSimpArgs false
def ecs (es : List Shp.Ev) : List Value := es.flatMap fun e => (ec e).toList
theorem ecs_get : ∀ (es : List Shp.Ev) (i : Nat) (h : i < es.length) (j : Nat), j < 20 → (ecs es)[i * 20 + j]? = (ec es[i]).toList[j]?
  | [], i, h, _, _ => by simp at h
  | o :: r, 0, _, j, hj => by
    unfold ecs
    rw [List.flatMap_cons, Nat.zero_mul, Nat.zero_add, List.getElem?_append_left (by show j < 20; exact hj)]
    rfl
  | o :: r, i + 1, h, j, hj => by
    have ih := ecs_get r i (by simpa using h) j hj
    unfold ecs at ih ⊢
    rw [List.flatMap_cons, List.getElem?_append_right (by show 20 ≤ _; omega)]
    rw [show (i + 1) * 20 + j - (ec o).toList.length = i * 20 + j by show _ - 20 = _; omega, ih]
    rfl
theorem ecs_range {w : World} {g : Nat} {es : List Shp.Ev} {t : TypeId} (h : Bk w g (ecs es).toArray t) {i : Nat} (hi : i < es.length) : w.rangeAt g (i * 20) (ec es[i]).toList := fun j v hv => by
  have hj : j < 20 := (List.getElem?_eq_some_iff.1 hv).1
  rw [h.cells]
  have := ecs_get es i hi j hj
  simpa using this.trans hv
def E0 : Shp.Ev := { ez with kd := 1 }
def E1 : Shp.Ev := { ez with wo := 1, kd := 1 }
def E2 : Shp.Ev := { ez with kd := 3, o0 := 3, o2 := 5, t := 65537 }
def E3 : Shp.Ev := { ez with wo := 1, kd := 3, o0 := 4, t := 65537 }
def E4 : Shp.Ev := { E3 with kd := 4 }
def E5 : Shp.Ev := { E2 with kd := 4 }
def es6 : List Shp.Ev := [E0, E1, E2, E3, E4, E5]
def xs6 : List (List Int) := [[], [], [], [], [], []]
theorem whole6 : wholeF (es6.map evo) (fun _ => 0) = true := by decide +kernel
theorem whole4 : wholeF ((es6.drop 2).map evo) (fun _ => 0) = false := by decide +kernel
theorem keeps6 : keepsF (ptF (es6.map evo)) (es6.map evo) (fun _ => false) 0 = true := by decide +kernel
theorem of6 : ofF (es6.map evo) (rdF es6) 6 = [5, 4] := by decide +kernel
theorem ofP6 : ofP es6 xs6 6 = [(E5, []), (E4, [])] := by
  unfold ofP
  rw [of6]
  rfl
theorem fit6 : fitF (cl 1) [] [] [(E5, []), (E4, [])] = 2 := by decide +kernel
theorem ex_of {w : World} {g : Nat} {t : TypeId} (h : Bk w g (ecs es6).toArray t) : EX w (.slice (some ⟨g, 0, none⟩) 6 6) es6 xs6 :=
  ⟨⟨_, _, rfl, Nat.le_refl _, by decide, .inr ⟨g, 0, rfl, h.lt, fun i hi => by rw [Nat.zero_add]; exact ecs_range h hi⟩⟩, rfl, fun i h1 h2 => by
    have h3 : i < 6 := h1
    match i, h3 with
    | 0, _ | 1, _ | 2, _ | 3, _ | 4, _ | 5, _ => exact Reads.nil _ _⟩
theorem ex_tail {w : World} {g : Nat} {t : TypeId} (h : Bk w g (ecs es6).toArray t) : EReads w (.slice (some ⟨g, 40, none⟩) 4 4) (es6.drop 2) :=
  ⟨_, _, rfl, Nat.le_refl _, by decide, .inr ⟨g, 40, rfl, h.lt, fun i hi => by
    have h3 : i < 4 := hi
    have := ecs_range h (i := i + 2) (by show i + 2 < 6; omega)
    rw [show (i + 2) * 20 = 40 + i * 20 by omega] at this
    simpa [Nat.add_comm] using this⟩⟩
theorem xs6_le : ∀ l ∈ xs6, l.length ≤ 1000 := by
  intro l hl
  simp [xs6] at hl
  subst hl
  decide
section
variable {w : World} {g : Nat} {t : TypeId}
theorem six_fits (h : Bk w g (ecs es6).toArray t) : Calls Try.prog 50 #[.int .i64 1, .slice (some ⟨g, 0, none⟩) 6 6] w fun e w' => e = .returned (.int .i64 2) ∧ Below w.heap.size w w' := by
  have hf := orderFits 1 (ex_of h) (by decide) xs6_le
  have e : fitF (cl 1) [] [] (ofP es6 xs6 es6.length) = 2 := by
    rw [show ofP es6 xs6 es6.length = [(E5, []), (E4, [])] from ofP6]
    exact fit6
  rw [e] at hf
  exact hf
theorem six_whole (h : Bk w g (ecs es6).toArray t) : Calls Try.prog 18 #[.slice (some ⟨g, 0, none⟩) 6 6] w fun e w' => e = .returned (.bool true) ∧ Below w.heap.size w w' := by
  have hf := whole (ex_of h).rd
  rw [whole6] at hf
  exact hf
theorem six_keeps (h : Bk w g (ecs es6).toArray t) : Calls Try.prog 19 #[.slice (some ⟨g, 0, none⟩) 6 6] w fun e w' => e = .returned (.bool true) ∧ Below w.heap.size w w' := by
  have hf := keeps (ex_of h).rd (by decide)
  rw [keeps6] at hf
  exact hf
theorem six_tail (h : Bk w g (ecs es6).toArray t) : Calls Try.prog 18 #[.slice (some ⟨g, 40, none⟩) 4 4] w fun e w' => e = .returned (.bool false) ∧ Below w.heap.size w w' := by
  have hf := whole (ex_tail h)
  rw [whole4] at hf
  exact hf
end
theorem run_op1 (w : World) : (Instr.build 37 #[(0, .int .i64 3), (2, .int .u64 5)]).run Try.prog w = .ok (.agg #[.int .i64 3, .int .u64 0, .int .u64 5, .int .i64 0, .bool false, .int .i64 0, .int .i64 0]) w := run_build w _ _ _ (by kernel_rfl)
theorem run_op2 (w : World) : (Instr.build 37 #[(0, .int .i64 4)]).run Try.prog w = .ok (.agg #[.int .i64 4, .int .u64 0, .int .u64 0, .int .i64 0, .bool false, .int .i64 0, .int .i64 0]) w := run_build w _ _ _ (by kernel_rfl)
theorem run_an1 (w : World) : (Instr.build 57 #[(0, .agg #[.int .i64 3, .int .u64 0, .int .u64 5, .int .i64 0, .bool false, .int .i64 0, .int .i64 0]), (1, .int .u64 65537)]).run Try.prog w = .ok (.agg (ac E2 nilS)) w := run_build w _ _ _ (by kernel_rfl)
theorem run_an2 (w : World) : (Instr.build 57 #[(0, .agg #[.int .i64 4, .int .u64 0, .int .u64 0, .int .i64 0, .bool false, .int .i64 0, .int .i64 0]), (1, .int .u64 65537)]).run Try.prog w = .ok (.agg (ac E3 nilS)) w := run_build w _ _ _ (by kernel_rfl)
theorem run_e0 (w : World) : (Instr.build 99 #[(3, .int .i64 1)]).run Try.prog w = .ok (.agg (ec E0)) w := run_build w _ _ _ (by kernel_rfl)
theorem run_e1 (w : World) : (Instr.build 99 #[(1, .int .i64 1), (3, .int .i64 1)]).run Try.prog w = .ok (.agg (ec E1)) w := run_build w _ _ _ (by kernel_rfl)
theorem run_e2 (w : World) : (Instr.build 99 #[(3, .int .i64 3), (4, .agg (ac E2 nilS))]).run Try.prog w = .ok (.agg (ec E2)) w := run_build w _ _ _ (by kernel_rfl)
theorem run_e3 (w : World) : (Instr.build 99 #[(1, .int .i64 1), (3, .int .i64 3), (4, .agg (ac E3 nilS))]).run Try.prog w = .ok (.agg (ec E3)) w := run_build w _ _ _ (by kernel_rfl)
theorem run_e4 (w : World) : (Instr.build 99 #[(1, .int .i64 1), (3, .int .i64 4), (4, .agg (ac E3 nilS))]).run Try.prog w = .ok (.agg (ec E4)) w := run_build w _ _ _ (by kernel_rfl)
theorem run_e5 (w : World) : (Instr.build 99 #[(3, .int .i64 4), (4, .agg (ac E2 nilS))]).run Try.prog w = .ok (.agg (ec E5)) w := run_build w _ _ _ (by kernel_rfl)
theorem run_six (w : World) : (Instr.buildSlice 52 6 #[(0, .agg (ec E0)), (1, .agg (ec E1)), (2, .agg (ec E2)), (3, .agg (ec E3)), (4, .agg (ec E4)), (5, .agg (ec E5))]).run Try.prog w = .ok (.slice (some ⟨w.heap.size, 0, none⟩) 6 6) (w.alloc (.cells (ecs es6).toArray 99)) := by kernel_rfl
section
variable {ops : Array Oper} {rest : List Oper} {o : Oper} {a : Act} {w : World} {Q : Exit → Act → World → Prop}
/-- An operation whose run is known. -/
theorem wpList_known (hg : o.guard = none) (t : TypeId) (ps : Array (Nat × Operand)) (ho : o.op = .build t ps) (qs : Array (Nat × Value)) (hq : (ps.map fun (i, x) => (i, a.eval x)) = qs) (v : Value) (hr : ∀ w, (Instr.build t qs).run Try.prog w = .ok v w)
    (h : wpList Try.prog ops Q rest (a.put o.dst v) w) : wpList Try.prog ops Q (o :: rest) a w := by
  refine wpList_plain hg fun K hK => ?_
  unfold Oper.wp execOp
  simp only [ho, hq, hr, Sem.run_bind, Sem.run_pure, Result.andThen_ok]
  exact hK _ _ h
theorem wpList_six (hg : o.guard = none) (x0 x1 x2 x3 x4 x5 : Operand) (ho : o.op = .buildSlice 52 6 #[(0, x0), (1, x1), (2, x2), (3, x3), (4, x4), (5, x5)]) (e0 : a.eval x0 = .agg (ec E0)) (e1 : a.eval x1 = .agg (ec E1)) (e2 : a.eval x2 = .agg (ec E2)) (e3 : a.eval x3 = .agg (ec E3)) (e4 : a.eval x4 = .agg (ec E4)) (e5 : a.eval x5 = .agg (ec E5))
    (h : wpList Try.prog ops Q rest (a.put o.dst (.slice (some ⟨w.heap.size, 0, none⟩) 6 6)) (w.alloc (.cells (ecs es6).toArray 99))) : wpList Try.prog ops Q (o :: rest) a w := by
  refine wpList_plain hg fun K hK => ?_
  unfold Oper.wp execOp
  simp only [ho, List.map_toArray, List.map_cons, List.map_nil, e0, e1, e2, e3, e4, e5, run_six, Sem.run_bind, Sem.run_pure, Result.andThen_ok]
  exact hK _ _ h
end
set_option maxRecDepth 100000 in
set_option maxHeartbeats 4000000 in
theorem awake16 (w : World) : Calls Try.prog 16 #[] w fun e w' => e = .returned (.bool true) ∧ Below w.heap.size w w' := by
  have Z0 := Bk.new w (ac ez nilS) 57
  have X0 := Z0.setRow (ac E2 nilS)
  have hw0 : Below w.heap.size w ((w.alloc (.cells (ac ez nilS) 57)).setRow w.heap.size (ac E2 nilS)) := below_setRow ((Below.refl _ _).alloc (Nat.le_refl _) _) (Nat.le_refl _) _
  obtain ⟨w1, hw1⟩ : ∃ u, u = (w.alloc (.cells (ac ez nilS) 57)).setRow w.heap.size (ac E2 nilS) := ⟨_, rfl⟩
  rw [← hw1] at X0 hw0
  have Z1 := Bk.new w1 (ac ez nilS) 57
  have X1 := Z1.setRow (ac E3 nilS)
  have hb1 : Below w1.heap.size w1 ((w1.alloc (.cells (ac ez nilS) 57)).setRow w1.heap.size (ac E3 nilS)) := below_setRow ((Below.refl _ _).alloc (Nat.le_refl _) _) (Nat.le_refl _) _
  obtain ⟨w2, hw2⟩ : ∃ u, u = (w1.alloc (.cells (ac ez nilS) 57)).setRow w1.heap.size (ac E3 nilS) := ⟨_, rfl⟩
  rw [← hw2] at X1 hb1
  have X2 := X0.keep hb1
  have S2 := Bk.new w2 (ecs es6).toArray 99
  have hw3 := (hw0.trans (hb1.mono hw0.size)).alloc (hw0.trans (hb1.mono hw0.size)).size (.cells (ecs es6).toArray 99)
  obtain ⟨w3, hw3'⟩ : ∃ u, u = w2.alloc (.cells (ecs es6).toArray 99) := ⟨_, rfl⟩
  rw [← hw3'] at S2 hw3
  have HF := Lib.hid (orderOf (ex_of S2) (by decide) xs6_le)
  clear hw0 hb1
  go_enter Try.func16, Try.ntmps16
  go_wp2_with (first | (refine wpList_known rfl 37 #[(0, .const (.int .i64 3)), (2, .const (.int .u64 5))] rfl #[(0, .int .i64 3), (2, .int .u64 5)] rfl _ run_op1 ?_) | (refine wpList_known rfl 37 #[(0, .const (.int .i64 4))] rfl #[(0, .int .i64 4)] rfl _ run_op2 ?_) | (refine wpList_known rfl 57 #[(0, .tmp 5), (1, .const (.int .u64 65537))] rfl #[(0, .agg #[.int .i64 3, .int .u64 0, .int .u64 5, .int .i64 0, .bool false, .int .i64 0, .int .i64 0]), (1, .int .u64 65537)] rfl _ run_an1 ?_) | (refine wpList_known rfl 57 #[(0, .tmp 7), (1, .const (.int .u64 65537))] rfl #[(0, .agg #[.int .i64 4, .int .u64 0, .int .u64 0, .int .i64 0, .bool false, .int .i64 0, .int .i64 0]), (1, .int .u64 65537)] rfl _ run_an2 ?_) | (refine wpList_known rfl 99 #[(3, .const (.int .i64 1))] rfl #[(3, .int .i64 1)] rfl _ run_e0 ?_) | (refine wpList_known rfl 99 #[(1, .const (.int .i64 1)), (3, .const (.int .i64 1))] rfl #[(1, .int .i64 1), (3, .int .i64 1)] rfl _ run_e1 ?_) | (refine wpList_known rfl 99 #[(3, .const (.int .i64 3)), (4, .tmp 11)] rfl #[(3, .int .i64 3), (4, .agg (ac E2 nilS))] rfl _ run_e2 ?_) | (refine wpList_known rfl 99 #[(1, .const (.int .i64 1)), (3, .const (.int .i64 3)), (4, .tmp 13)] rfl #[(1, .int .i64 1), (3, .int .i64 3), (4, .agg (ac E3 nilS))] rfl _ run_e3 ?_) | (refine wpList_known rfl 99 #[(1, .const (.int .i64 1)), (3, .const (.int .i64 4)), (4, .tmp 15)] rfl #[(1, .int .i64 1), (3, .int .i64 4), (4, .agg (ac E3 nilS))] rfl _ run_e4 ?_) | (refine wpList_known rfl 99 #[(3, .const (.int .i64 4)), (4, .tmp 17)] rfl #[(3, .int .i64 4), (4, .agg (ac E2 nilS))] rfl _ run_e5 ?_) | (refine wpList_six rfl (.tmp 9) (.tmp 10) (.tmp 12) (.tmp 14) (.tmp 16) (.tmp 18) rfl rfl rfl rfl rfl rfl rfl ?_; rw [← hw3']; clear hw3') | (refine wpList_alloc_az rfl rfl ?_) | (refine wpList_store_row rfl 57 _ _ rfl (w.heap.size) (ac E2 nilS) rfl rfl _ _ (by exact Z0) (by kernel_rfl) (by kernel_rfl) (by kernel_rfl) ?_; rw [← hw1]; clear hw1 Z0) | (refine wpList_store_row rfl 57 _ _ rfl (w1.heap.size) (ac E3 nilS) rfl rfl _ _ (by exact Z1) (by kernel_rfl) (by kernel_rfl) (by kernel_rfl) ?_; rw [← hw2]; clear hw2 Z1) | (refine wpList_load_row rfl 57 _ rfl (w.heap.size) rfl _ (ac E2 nilS) (0, 0) _ (by exact X2) Try.underlying57 rfl (by kernel_rfl) ?_) | (refine wpList_load_row rfl 57 _ rfl (w1.heap.size) rfl _ (ac E3 nilS) (0, 0) _ (by exact X1) Try.underlying57 rfl (by kernel_rfl) ?_))
  refine HF.out.mono ?_
  rintro e w4 ⟨y, O, rfl, hA, hO, hb4⟩
  have hO' : O.map fA = [(E5, []), (E4, [])] := hO.trans ofP6
  have hlen : O.length = 2 := by have := congrArg List.length hO'; simpa using this
  have k0 : O[0].1 = E5 := by
    have := congrArg (fun l : List (Shp.Ev × List Int) => (l[0]?).map (·.1)) hO'
    simpa [List.getElem?_eq_getElem (show 0 < O.length by omega)] using this
  have k1 : O[1].1 = E4 := by
    have := congrArg (fun l : List (Shp.Ev × List Int) => (l[1]?).map (·.1)) hO'
    simpa [List.getElem?_eq_getElem (show 1 < O.length by omega)] using this
  obtain ⟨g, ha, hyl, _, hgl, hr0⟩ := hA.at (i := 0) (by omega)
  obtain ⟨g', ha', -, -, -, hr1⟩ := hA.at (i := 1) (by omega)
  obtain rfl : g' = g := by
    rw [ha] at ha'
    simp only [Option.some.injEq, Addr.mk.injEq, and_true] at ha'
    exact ha'.symm
  obtain ⟨yad, yln, ycp⟩ := y
  simp only at ha hyl
  subst ha
  obtain rfl : yln = 2 := hyl.trans hlen
  have c0 : w4.cell? ⟨g', 0, none⟩ = some (.int .i64 3) := by
    have := hr0 0 (.int .i64 3) (by rw [k0]; rfl)
    simpa using this
  have c1 : w4.cell? ⟨g', 10, none⟩ = some (.int .i64 4) := by
    have := hr1 0 (.int .i64 4) (by rw [k1]; rfl)
    simpa using this
  have S4 := S2.keep hb4
  have hw4 := hw3.trans (hb4.mono hw3.size)
  have HFT := Lib.hid (six_fits S4)
  have HWH := Lib.hid (fun (w5 : World) (h : Below w4.heap.size w4 w5) => six_whole (S4.keep h))
  have HKP := Lib.hid (fun (w5 : World) (h : Below w4.heap.size w4 w5) => six_keeps (S4.keep h))
  have HWT := Lib.hid (fun (w5 : World) (h : Below w4.heap.size w4 w5) => six_tail (S4.keep h))
  clear hO hO' k0 k1 hr0 hr1 ha' hlen hA S2 S4 hb4 X0 X1 X2 HF hw3 hyl
  simp only [Sl.v]
  go_wp2_with fail
  refine HFT.out.mono ?_
  rintro e w5 ⟨rfl, hb5⟩
  go_wp2_with fail
  refine (HWH.out _ hb5).mono ?_
  rintro e w6 ⟨rfl, hb6⟩
  have hb56 := hb5.trans (hb6.mono hb5.size)
  go_wp2_with fail
  refine (HKP.out _ hb56).mono ?_
  rintro e w7 ⟨rfl, hb7⟩
  have hb57 := hb56.trans (hb7.mono hb56.size)
  go_wp2_with fail
  refine (HWT.out _ hb57).mono ?_
  rintro e w8 ⟨rfl, hb8⟩
  have hb58 := hb57.trans (hb8.mono hb57.size)
  go_wp2
  go_ret
  exact ⟨rfl, hw4.trans (hb58.mono hw4.size)⟩
end Go.Proofs.Ytgpdkagmacpghaa.Od

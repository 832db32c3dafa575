/- What the listed variables (seven) and the world's shape give the walks of layer 21; an operation as an argument. -/
import Derived.Test.YtpmcedfeiconfaaGreatDoorRows
import Derived.Test.YtpmcedfeiconfaaGreatDoorScLaws
import Derived.Test.YtpmcedfeiconfaaGreatDoorShape
import Derived.Test.YtpmcedfeiconfaaGreatDoorLaw
import Derived.HandedShaped
import Derived.Lay
import Derived.Stop.LaidErr
import Derived.LaidMore
import Derived.ProofKit
import Derived.OpenShut
import Derived.WideShapes
import Derived.ChangeShapes
namespace Go.Proofs.YtpmcedfeiconfaaGreatDoor.Opw
open Go Go.ChangeShapes Go.WideShapes Go.ChangeAt Go.RowKit Go.Proofs.YtpmcedfeiconfaaGreatDoor.Opn
set_option linter.unusedVariables false
set_option linter.unusedSimpArgs false
section
variable {H : Type} {enc : TypeId × Value → H}
/-- The form's wrap with a condition on the world beside the arguments; the world's shape is handed on. -/
theorem handed_laid {a : Assume} {C : Checked} {os : Os} {f : FuncId} {fn : Func} {s : ChangeSpec} {conds : List PathCond} {apart fresh handsOn again : Bool} {X : World → Array Value → Prop}
    (hX : ∀ (w w' : World) (args : Array Value), w.heap = w'.heap → X w args → X w' args)
    (own : ownKnob C.prog.godebug = none) (started : os.Started) (noInit : C.prog.inits.idxOf? f = none) (hfn : C.prog.funcs[f]? = some fn)
    (witness : ∃ (w : World) (tape : Tape) (i : Input), w.os = os ∧ (w.forCall tape i).Shaped C.prog ∧ i.vars = [] ∧ Input.okWide C.prog (w.forCall tape i) .any w.heap.size f i ∧
      ((s.pre enc C.prog fn conds apart (w.forCall tape i).memory i.args ∧ X (w.forCall tape i).memory i.args) ∧ sizedMet enc C.prog fn (OpenSpec.ofChange s) apart (w.forCall tape i).memory i.args) ∧ a.holds C.prog (lone (Frame.enter C.prog f i.args .normal) [] (w.forCall tape i)))
    (contract : ∀ (W : World) (base : Nat) (args : Array Value) (ds gs : List (DataW H)) (before : List MemPlace),
      (∀ (j : Nat) t v, fn.params[j]? = some t → args[j]? = some v → Value.okWide C.prog W .any base t v) →
      DataW.Whole enc C.prog fn.params.toList s.vars apart W args.toList ds gs before → X W args → W.ShapedOpen C.prog →
      Calls C.prog f args W fun e W' => ∃ v, e = .returned v ∧ s.post enc C.prog fn apart fresh handsOn again W args v W') :
    ReturnsInHanded a C os f .any (fun w args => (s.pre enc C.prog fn conds apart w args ∧ X w args) ∧ sizedMet enc C.prog fn (OpenSpec.ofChange s) apart w args) (s.post enc C.prog fn apart fresh handsOn again) := by
  refine returnsInHanded_of_calls own started noInit witness ?_
  intro w tape i _ hsh _ hok hpre hholds
  obtain ⟨_, _, _, fn', hfn', _, _, _, _, hval⟩ := hok
  obtain rfl : fn' = fn := Option.some.inj (hfn'.symm.trans hfn)
  obtain ⟨⟨⟨ds, gs, before, hw, hc⟩, hx⟩, hz⟩ := hpre
  have hw' := DataW.Whole.of_heap (w' := w.forCall tape i) (by rfl) hw
  refine (contract (w.forCall tape i) w.heap.size i.args ds gs before hval hw' (hX _ _ _ (by rfl) hx) hsh).mono fun e W' ⟨v, he, hp⟩ => ?_
  subst he
  exact ChangeSpec.post_blind hp
end
/-! ### the variables -/
abbrev LD : List (String × DataW Unit) := Rows.scriptOneRow.laid
theorem door_met (os : Os) (args : Array Value) : laidMetH Tryz.prog LD ((World.laidAll Tryz.prog os LD).forCall (fun _ _ => 0) ⟨#[], args, []⟩).memory := by
  rw [MakeChecks.laidMetH_plain _ _ _ (by kernel_rfl)]
  exact laidMet_laidAll _ (by kernel_rfl) (by kernel_rfl)
theorem gTabT : (Tryz.prog.globals[1]?).map (·.type) = some 134 := by kernel_rfl
theorem gSyn : Tryz.prog.globalNamed "strconv.ErrSyntax" = some 4 := by kernel_rfl
theorem gSynT : (Tryz.prog.globals[4]?).map (·.type) = some 79 := by kernel_rfl
theorem gRng : Tryz.prog.globalNamed "strconv.ErrRange" = some 5 := by kernel_rfl
theorem gRngT : (Tryz.prog.globals[5]?).map (·.type) = some 79 := by kernel_rfl
theorem starE : "*" ++ "errors.errorString" = "*errors.errorString" := by decide
theorem rowE (u : TypeId) (h : Tryz.prog.typeName? 3 u = some "*errors.errorString") : u = 169 :=
  typeName_ptr_named (nm := "errors.errorString") (by rw [starE]; kernel_rfl) (by kernel_rfl) (by decide) u (by rw [starE]; exact h)
theorem cellsE : Tryz.prog.cellsOf 171 = 1 := by kernel_rfl
theorem cellsS : Tryz.prog.cellsOf 9 = 1 := by kernel_rfl
theorem cellsU : Tryz.prog.cellsOf 22 = 1 := by kernel_rfl
theorem cellsT : Tryz.prog.cellsOf 134 = 20 := by kernel_rfl
theorem tabEq : (Rows.laid_internal_strconv_uint64pow10 : DataW Unit) = Lib.tabData .u64 Lib.pow10Tab := by rfl
theorem lb_of {W : World} (h : laidMetH Tryz.prog LD W) (hs : W.ShapedOpen Tryz.prog) : Lb W := by
  rw [MakeChecks.laidMetH_plain _ _ _ (by kernel_rfl)] at h
  have h3 : laidMet Tryz.prog [("internal/strconv.uint64pow10", Lib.tabData .u64 Lib.pow10Tab), ("unicode/utf8.acceptRanges", Rows.laid_unicode_utf8_acceptRanges), ("strconv.ErrRange", Rows.laid_strconv_ErrRange), ("strconv.ErrSyntax", Rows.laid_strconv_ErrSyntax), ("unicode/utf8.first", Rows.laid_unicode_utf8_first)] W := by
    rw [← tabEq]
    exact (laidMet.tail (laidMet.tail h))
  have hT := Lib.tabIs_of_head gTab gTabT Tryz.underlying134 Tryz.underlying22 cellsU cellsT h3
  have h4 := laidMet.tail (laidMet.tail h3)
  obtain ⟨a1, s1, hv1, _⟩ := laid_sentinel h4 gRng gRngT Tryz.underlying79 rowE Tryz.underlying169 Tryz.underlying171 rfl rfl Tryz.underlying9 cellsE cellsS
  obtain ⟨a2, s2, hv2, _⟩ := laid_sentinel (laidMet.tail h4) gSyn gSynT Tryz.underlying79 rowE Tryz.underlying169 Tryz.underlying171 rfl rfl Tryz.underlying9 cellsE cellsS
  have c2 : W.cell? ⟨4, 0, none⟩ = some (.iface 169 (.pointer (some a2))) := by
    have := World.var?_cell gSyn hv2 0
    simpa using this
  have c1 : W.cell? ⟨5, 0, none⟩ = some (.iface 169 (.pointer (some a1))) := by
    have := World.var?_cell gRng hv1 0
    simpa using this
  exact ⟨hT, Tryz.laysM143.s1_3 W hs, ⟨_, c2, .inr ⟨_, _, rfl⟩⟩, ⟨_, c1, .inr ⟨_, _, rfl⟩⟩⟩
/-! ### an operation as an argument -/
theorem wf_u64 {n : Int} (h : (Lit.int .u64 n).wf = true) : 0 ≤ n ∧ n ≤ 18446744073709551615 := by
  simp only [Lit.wf, Bool.and_eq_true, decide_eq_true_eq] at h
  have h1 : IntKind.u64.min = 0 := by decide
  have h2 : IntKind.u64.max = 18446744073709551615 := by decide
  omega
theorem wf_i64 {n : Int} (h : (Lit.int .i64 n).wf = true) : -9223372036854775808 ≤ n ∧ n ≤ 9223372036854775807 := by
  simp only [Lit.wf, Bool.and_eq_true, decide_eq_true_eq] at h
  have h1 : IntKind.i64.min = -9223372036854775808 := by decide
  have h2 : IntKind.i64.max = 9223372036854775807 := by decide
  omega
section
open Go.Proofs.YtpmcedfeiconfaaGreatDoor.Shp
variable {H : Type} {enc : TypeId × Value → H} {W : World}
theorem op_shapes : Shp.shapes Tryz.prog 3 50 = some [.int .i64, .int .u64, .int .u64, .int .i64, .bool, .int .i64, .int .i64] := by kernel_rfl
theorem okl_opw {cs : List Value} (h : Shape.okl W [.int .i64, .int .u64, .int .u64, .int .i64, .bool, .int .i64, .int .i64] cs) : ∃ o : OpD, cs = [.int .i64 o.k, .int .u64 o.t, .int .u64 o.x, .int .i64 o.s, .bool o.u, .int .i64 o.b, .int .i64 o.n] ∧ o.Fits := by
  obtain ⟨n0, _, rfl, f0, h⟩ := okl_int h
  obtain ⟨n1, _, rfl, f1, h⟩ := okl_int h
  obtain ⟨n2, _, rfl, f2, h⟩ := okl_int h
  obtain ⟨n3, _, rfl, f3, h⟩ := okl_int h
  obtain ⟨n4, _, e4, h1⟩ := okl_bool h
  subst e4
  have h := h1
  clear h1
  obtain ⟨n5, _, rfl, f5, h⟩ := okl_int h
  obtain ⟨n6, _, rfl, f6, h⟩ := okl_int h
  obtain rfl := okl_nil h
  exact ⟨⟨n0, n1, n2, n3, n4, n5, n6⟩, rfl, ⟨wf_i64 f0, wf_u64 f1, wf_u64 f2, wf_i64 f3, wf_i64 f5, wf_i64 f6⟩⟩
set_option maxRecDepth 100000 in
theorem open_op {r : Reach} {b0 : Nat} {v : Value} {d : DataW H} {p : List MemPlace} (hv : Value.okWide Tryz.prog W r b0 50 v) (h : DataW.Trod enc Tryz.prog W 0 (fun _ => true) true 50 v d p) : ∃ o : OpD, v = opV o ∧ o.Fits := by
  obtain ⟨cs, rfl, _⟩ := okWide_struct Tryz.underlying50 hv
  obtain ⟨fuel, hf⟩ := h
  obtain ⟨o, eq, hF⟩ := okl_opw (open_shapes 3 _ _ op_shapes fuel _ _ hf (by kernel_rfl))
  obtain ⟨l⟩ := cs
  simp only [Value.cells] at eq
  exact ⟨o, by rw [eq], hF⟩
end
end Go.Proofs.YtpmcedfeiconfaaGreatDoor.Opw

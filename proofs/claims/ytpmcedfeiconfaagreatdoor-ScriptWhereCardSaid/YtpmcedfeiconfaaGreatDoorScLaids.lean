/- What the listed variables (seven) and the world's shape give the walks of layer 21; an operation as an argument. -/
import Derived.Test.YtpmcedfeiconfaaGreatDoorRows
import Derived.Test.YtpmcedfeiconfaaGreatDoorScLaws
import Derived.Test.YtpmcedfeiconfaaGreatDoorShape
import Derived.Test.YtpmcedfeiconfaaGreatDoorLaw
import Derived.HandedShaped
import Derived.Lay
import Derived.Stop.LaidErr
import Derived.LaidMore
import Derived.ProofKit
import Derived.OpenShut
import Derived.WideShapes
import Derived.ChangeShapes
import Derived.Test.YtpmcedfeiconfaaGreatDoorScRight
namespace Go.Proofs.YtpmcedfeiconfaaGreatDoor.Opw
open Go Go.ChangeShapes Go.WideShapes Go.ChangeAt Go.RowKit Go.Proofs.YtpmcedfeiconfaaGreatDoor.Opn
set_option linter.unusedVariables false
set_option linter.unusedSimpArgs false
section
variable {H : Type} {enc : TypeId × Value → H}
/-- The form's wrap with a condition on the world beside the arguments; the world's shape is handed on. -/
theorem handed_laid {a : Assume} {C : Checked} {os : Os} {f : FuncId} {fn : Func} {s : ChangeSpec} {conds : List PathCond} {apart fresh handsOn again : Bool} {X : World → Array Value → Prop}
    (hX : ∀ (w w' : World) (args : Array Value), w.heap = w'.heap → X w args → X w' args)
    (own : ownKnob C.prog.godebug = none) (started : os.Started) (noInit : C.prog.inits.idxOf? f = none) (hfn : C.prog.funcs[f]? = some fn)
    (witness : ∃ (w : World) (tape : Tape) (i : Input), w.os = os ∧ (w.forCall tape i).Shaped C.prog ∧ i.vars = [] ∧ Input.okWide C.prog (w.forCall tape i) .any w.heap.size f i ∧
      ((s.pre enc C.prog fn conds apart (w.forCall tape i).memory i.args ∧ X (w.forCall tape i).memory i.args) ∧ sizedMet enc C.prog fn (OpenSpec.ofChange s) apart (w.forCall tape i).memory i.args) ∧ a.holds C.prog (lone (Frame.enter C.prog f i.args .normal) [] (w.forCall tape i)))
    (contract : ∀ (W : World) (base : Nat) (args : Array Value) (ds gs : List (DataW H)) (before : List MemPlace),
      (∀ (j : Nat) t v, fn.params[j]? = some t → args[j]? = some v → Value.okWide C.prog W .any base t v) →
      DataW.Whole enc C.prog fn.params.toList s.vars apart W args.toList ds gs before → X W args → W.ShapedOpen C.prog →
      Calls C.prog f args W fun e W' => ∃ v, e = .returned v ∧ s.post enc C.prog fn apart fresh handsOn again W args v W') :
    ReturnsInHanded a C os f .any (fun w args => (s.pre enc C.prog fn conds apart w args ∧ X w args) ∧ sizedMet enc C.prog fn (OpenSpec.ofChange s) apart w args) (s.post enc C.prog fn apart fresh handsOn again) := by
  refine returnsInHanded_of_calls own started noInit witness ?_
  intro w tape i _ hsh _ hok hpre hholds
  obtain ⟨_, _, _, fn', hfn', _, _, _, _, hval⟩ := hok
  obtain rfl : fn' = fn := Option.some.inj (hfn'.symm.trans hfn)
  obtain ⟨⟨⟨ds, gs, before, hw, hc⟩, hx⟩, hz⟩ := hpre
  have hw' := DataW.Whole.of_heap (w' := w.forCall tape i) (by rfl) hw
  refine (contract (w.forCall tape i) w.heap.size i.args ds gs before hval hw' (hX _ _ _ (by rfl) hx) hsh).mono fun e W' ⟨v, he, hp⟩ => ?_
  subst he
  exact ChangeSpec.post_blind hp
end
/-! ### the variables -/
abbrev LD : List (String × DataW Unit) := Rows.scriptOneRow.laid
theorem door_met (os : Os) (args : Array Value) : laidMetH Tryz.prog LD ((World.laidAll Tryz.prog os LD).forCall (fun _ _ => 0) ⟨#[], args, []⟩).memory := by
  rw [MakeChecks.laidMetH_plain _ _ _ (by kernel_rfl)]
  exact laidMet_laidAll _ (by kernel_rfl) (by kernel_rfl)
theorem gTabT : (Tryz.prog.globals[1]?).map (·.type) = some 134 := by kernel_rfl
theorem gSyn : Tryz.prog.globalNamed "strconv.ErrSyntax" = some 4 := by kernel_rfl
theorem gSynT : (Tryz.prog.globals[4]?).map (·.type) = some 79 := by kernel_rfl
theorem gRng : Tryz.prog.globalNamed "strconv.ErrRange" = some 5 := by kernel_rfl
theorem gRngT : (Tryz.prog.globals[5]?).map (·.type) = some 79 := by kernel_rfl
theorem starE : "*" ++ "errors.errorString" = "*errors.errorString" := by decide
theorem rowE (u : TypeId) (h : Tryz.prog.typeName? 3 u = some "*errors.errorString") : u = 169 :=
  typeName_ptr_named (nm := "errors.errorString") (by rw [starE]; kernel_rfl) (by kernel_rfl) (by decide) u (by rw [starE]; exact h)
theorem cellsE : Tryz.prog.cellsOf 171 = 1 := by kernel_rfl
theorem cellsS : Tryz.prog.cellsOf 9 = 1 := by kernel_rfl
theorem cellsU : Tryz.prog.cellsOf 22 = 1 := by kernel_rfl
theorem cellsT : Tryz.prog.cellsOf 134 = 20 := by kernel_rfl
theorem tabEq : (Rows.laid_internal_strconv_uint64pow10 : DataW Unit) = Lib.tabData .u64 Lib.pow10Tab := by rfl
theorem lb_of {W : World} (h : laidMetH Tryz.prog LD W) (hs : W.ShapedOpen Tryz.prog) : Lb W := by
  rw [MakeChecks.laidMetH_plain _ _ _ (by kernel_rfl)] at h
  have h3 : laidMet Tryz.prog [("internal/strconv.uint64pow10", Lib.tabData .u64 Lib.pow10Tab), ("unicode/utf8.acceptRanges", Rows.laid_unicode_utf8_acceptRanges), ("strconv.ErrRange", Rows.laid_strconv_ErrRange), ("strconv.ErrSyntax", Rows.laid_strconv_ErrSyntax), ("unicode/utf8.first", Rows.laid_unicode_utf8_first)] W := by
    rw [← tabEq]
    exact (laidMet.tail (laidMet.tail h))
  have hT := Lib.tabIs_of_head gTab gTabT Tryz.underlying134 Tryz.underlying22 cellsU cellsT h3
  have h4 := laidMet.tail (laidMet.tail h3)
  obtain ⟨a1, s1, hv1, _⟩ := laid_sentinel h4 gRng gRngT Tryz.underlying79 rowE Tryz.underlying169 Tryz.underlying171 rfl rfl Tryz.underlying9 cellsE cellsS
  obtain ⟨a2, s2, hv2, _⟩ := laid_sentinel (laidMet.tail h4) gSyn gSynT Tryz.underlying79 rowE Tryz.underlying169 Tryz.underlying171 rfl rfl Tryz.underlying9 cellsE cellsS
  have c2 : W.cell? ⟨4, 0, none⟩ = some (.iface 169 (.pointer (some a2))) := by
    have := World.var?_cell gSyn hv2 0
    simpa using this
  have c1 : W.cell? ⟨5, 0, none⟩ = some (.iface 169 (.pointer (some a1))) := by
    have := World.var?_cell gRng hv1 0
    simpa using this
  exact ⟨hT, Tryz.laysM143.s1_3 W hs, ⟨_, c2, .inr ⟨_, _, rfl⟩⟩, ⟨_, c1, .inr ⟨_, _, rfl⟩⟩⟩
/-! ### an operation as an argument -/
theorem wf_u64 {n : Int} (h : (Lit.int .u64 n).wf = true) : 0 ≤ n ∧ n ≤ 18446744073709551615 := by
  simp only [Lit.wf, Bool.and_eq_true, decide_eq_true_eq] at h
  have h1 : IntKind.u64.min = 0 := by decide
  have h2 : IntKind.u64.max = 18446744073709551615 := by decide
  omega
theorem wf_i64 {n : Int} (h : (Lit.int .i64 n).wf = true) : -9223372036854775808 ≤ n ∧ n ≤ 9223372036854775807 := by
  simp only [Lit.wf, Bool.and_eq_true, decide_eq_true_eq] at h
  have h1 : IntKind.i64.min = -9223372036854775808 := by decide
  have h2 : IntKind.i64.max = 9223372036854775807 := by decide
  omega
section
open Go.Proofs.YtpmcedfeiconfaaGreatDoor.Shp
variable {H : Type} {enc : TypeId × Value → H} {W : World}
theorem op_shapes : Shp.shapes Tryz.prog 3 50 = some [.int .i64, .int .u64, .int .u64, .int .i64, .bool, .int .i64, .int .i64] := by kernel_rfl
theorem okl_opw {cs : List Value} (h : Shape.okl W [.int .i64, .int .u64, .int .u64, .int .i64, .bool, .int .i64, .int .i64] cs) : ∃ o : OpD, cs = [.int .i64 o.k, .int .u64 o.t, .int .u64 o.x, .int .i64 o.s, .bool o.u, .int .i64 o.b, .int .i64 o.n] ∧ o.Fits := by
  obtain ⟨n0, _, rfl, f0, h⟩ := okl_int h
  obtain ⟨n1, _, rfl, f1, h⟩ := okl_int h
  obtain ⟨n2, _, rfl, f2, h⟩ := okl_int h
  obtain ⟨n3, _, rfl, f3, h⟩ := okl_int h
  obtain ⟨n4, _, e4, h1⟩ := okl_bool h
  subst e4
  have h := h1
  clear h1
  obtain ⟨n5, _, rfl, f5, h⟩ := okl_int h
  obtain ⟨n6, _, rfl, f6, h⟩ := okl_int h
  obtain rfl := okl_nil h
  exact ⟨⟨n0, n1, n2, n3, n4, n5, n6⟩, rfl, ⟨wf_i64 f0, wf_u64 f1, wf_u64 f2, wf_i64 f3, wf_i64 f5, wf_i64 f6⟩⟩
set_option maxRecDepth 100000 in
theorem open_op {r : Reach} {b0 : Nat} {v : Value} {d : DataW H} {p : List MemPlace} (hv : Value.okWide Tryz.prog W r b0 50 v) (h : DataW.Trod enc Tryz.prog W 0 (fun _ => true) true 50 v d p) : ∃ o : OpD, v = opV o ∧ o.Fits := by
  obtain ⟨cs, rfl, _⟩ := okWide_struct Tryz.underlying50 hv
  obtain ⟨fuel, hf⟩ := h
  obtain ⟨o, eq, hF⟩ := okl_opw (open_shapes 3 _ _ op_shapes fuel _ _ hf (by kernel_rfl))
  obtain ⟨l⟩ := cs
  simp only [Value.cells] at eq
  exact ⟨o, by rw [eq], hF⟩
end
end Go.Proofs.YtpmcedfeiconfaaGreatDoor.Opw

/- Layer 21: a script as an argument. -/
namespace Go.Proofs.YtpmcedfeiconfaaGreatDoor.Opw
open Go Go.ChangeShapes Go.WideShapes Go.ChangeAt Go.RowKit Go.Proofs.YtpmcedfeiconfaaGreatDoor.Opn Go.Proofs.YtpmcedfeiconfaaGreatDoor.Shp Go.Proofs.YtpmcedfeiconfaaGreatDoor.Scr Go.Proofs.YtpmcedfeiconfaaGreatDoor.Scw Go.Proofs.YtpmcedfeiconfaaGreatDoor.Wd Go.Proofs.YtpmcedfeiconfaaGreatDoor.Pl
set_option linter.unusedVariables false
set_option linter.unusedSimpArgs false
theorem list_ofG {α : Type} {Q : Nat → α → Prop} : ∀ (n : Nat), (∀ i, i < n → ∃ z, Q i z) → ∃ L : List α, L.length = n ∧ ∀ i (h : i < L.length), Q i L[i]
  | 0, _ => ⟨[], rfl, fun i h => by cases h⟩
  | n + 1, h => by
    obtain ⟨L, h1, h2⟩ := list_ofG n (fun i hi => h i (by omega))
    obtain ⟨z, hz⟩ := h n (by omega)
    refine ⟨L ++ [z], by simp [h1], fun i hi => ?_⟩
    by_cases hn : i < L.length
    · rw [List.getElem_append_left hn]; exact h2 i hn
    · have e : i = n := by simp at hi; omega
      subst e
      rw [List.getElem_append_right (by omega)]
      simpa [h1] using hz
theorem oks_cells {W : World} : ∀ (es : List Shape) (b o : Nat), Shape.oks W es b o → ∃ cs, Shape.okl W es cs ∧ W.rangeAt b o cs
  | [], b, o, _ => ⟨[], trivial, fun j v hv => by simp at hv⟩
  | s :: r, b, o, h => by
    rw [Shape.oks] at h
    obtain ⟨⟨v, hv, hok⟩, hr⟩ := h
    obtain ⟨cs, h1, h2⟩ := oks_cells r b (o + 1) hr
    refine ⟨v :: cs, ⟨hok, h1⟩, fun j u hu => ?_⟩
    cases j with
    | zero =>
      simp only [List.getElem?_cons_zero, Option.some.injEq] at hu
      subst hu
      exact hv
    | succ j =>
      have := h2 j u (by simpa using hu)
      rw [show o + (j + 1) = o + 1 + j by omega]
      exact this
abbrev opSh : List Shape := [.int .i64, .int .u64, .int .u64, .int .i64, .bool, .int .i64, .int .i64]
theorem ops_of_ok {W : World} {v : Value} (h : Shape.ok W (.slice opSh) v) : ∃ l : List OpD, ReadsO W v l ∧ ∀ o ∈ l, o.Fits := by
  rw [Shape.ok] at h
  obtain ⟨ad, n, cap, rfl, h1, h2, h3⟩ := h
  rcases h3 with rfl | ⟨b, off, rfl, hb, hc⟩
  · exact ⟨[], ⟨ad, cap, rfl, Nat.zero_le _, h2, .inl rfl⟩, fun o ho => by cases ho⟩
  obtain ⟨L, hL, hQ⟩ := list_ofG (Q := fun i (o : OpD) => W.rangeAt b (off + i * 7) (opC o).toList ∧ o.Fits) n (fun i hi => by
    obtain ⟨cs, e1, e2⟩ := oks_cells opSh b _ (hc i hi)
    obtain ⟨o, rfl, hF⟩ := okl_opw e1
    exact ⟨o, e2, hF⟩)
  subst hL
  refine ⟨L, ⟨_, cap, rfl, h1, h2, .inr ⟨b, off, rfl, hb (by simp), fun i hi => (hQ i hi).1⟩⟩, fun o ho => ?_⟩
  obtain ⟨i, hi, rfl⟩ := List.mem_iff_getElem.1 ho
  exact (hQ i hi).2
theorem progs_of_ok {W : World} {v : Value} (h : Shape.ok W (.slice [.slice opSh]) v) : ∃ p : List (List OpD), ReadsP W v p ∧ ∀ l ∈ p, ∀ o ∈ l, o.Fits := by
  rw [Shape.ok] at h
  obtain ⟨ad, n, cap, rfl, h1, h2, h3⟩ := h
  rcases h3 with rfl | ⟨b, off, rfl, hb, hc⟩
  · exact ⟨[], ⟨ad, cap, rfl, Nat.zero_le _, h2, .inl rfl⟩, fun o ho => by cases ho⟩
  obtain ⟨L, hL, hQ⟩ := list_ofG (Q := fun i (l : List OpD) => (∃ u, W.cell? ⟨b, off + i, none⟩ = some u ∧ ReadsO W u l) ∧ ∀ o ∈ l, o.Fits) n (fun i hi => by
    have h4 := hc i hi
    rw [Shape.oks] at h4
    obtain ⟨⟨u, hu, hok⟩, _⟩ := h4
    obtain ⟨l, h5, h6⟩ := ops_of_ok hok
    have e : off + i * [Shape.slice opSh].length = off + i := by simp
    rw [e] at hu
    exact ⟨l, ⟨u, hu, h5⟩, h6⟩)
  subst hL
  refine ⟨L, ⟨_, cap, rfl, h1, h2, .inr ⟨b, off, rfl, hb (by simp), fun i hi => (hQ i hi).1⟩⟩, fun l hl => ?_⟩
  obtain ⟨i, hi, rfl⟩ := List.mem_iff_getElem.1 hl
  exact (hQ i hi).2
theorem picks_of_ok {W : World} {v : Value} (h : Shape.ok W (.slice [.int .i64]) v) : ∃ k : List Int, Reads W .i64 v k := by
  rw [Shape.ok] at h
  obtain ⟨ad, n, cap, rfl, h1, h2, h3⟩ := h
  rcases h3 with rfl | ⟨b, off, rfl, hb, hc⟩
  · exact ⟨[], ⟨ad, cap, rfl, Nat.zero_le _, h2, .inl rfl⟩⟩
  obtain ⟨L, hL, hQ⟩ := list_ofG (Q := fun i (z : Int) => W.cell? ⟨b, off + i, none⟩ = some (.int .i64 z)) n (fun i hi => by
    have h4 := hc i hi
    rw [Shape.oks] at h4
    obtain ⟨⟨u, hu, hok⟩, _⟩ := h4
    obtain ⟨z, rfl, _⟩ := ok_int hok
    have e : off + i * [Shape.int .i64].length = off + i := by simp
    rw [e] at hu
    exact ⟨z, hu⟩)
  subst hL
  exact ⟨L, ⟨_, cap, rfl, h1, h2, .inr ⟨b, off, rfl, hb (by simp), fun i hi => hQ i hi⟩⟩⟩
structure ScA where
  s : ScD
  ap : Option Addr
  cp : Nat
  ak : Option Addr
  ck : Nat
theorem scr_shapes : Shp.shapes Tryz.prog 6 28 = some [.int .i64, .int .i64, .int .i64, .int .i64, .int .i64, .int .i64, .int .i64, .int .u64, .slice [.slice opSh], .slice [.int .i64]] := by kernel_rfl
section
variable {H : Type} {enc : TypeId × Value → H} {W : World}
set_option maxRecDepth 100000 in
theorem open_scr {r : Reach} {b0 : Nat} {v : Value} {d : DataW H} {p : List MemPlace} (hv : Value.okWide Tryz.prog W r b0 28 v) (h : DataW.Trod enc Tryz.prog W 0 (fun _ => true) true 28 v d p) :
    ∃ x : ScA, v = sV x.s.c (.slice x.ap x.s.p.length x.cp) (.slice x.ak x.s.k.length x.ck) ∧ x.s.c.Wf ∧ FitS x.s ∧ ReadsP W (.slice x.ap x.s.p.length x.cp) x.s.p ∧ Reads W .i64 (.slice x.ak x.s.k.length x.ck) x.s.k := by
  obtain ⟨cs, rfl, _⟩ := okWide_struct Tryz.underlying28 hv
  obtain ⟨fuel, hf⟩ := h
  have hk := open_shapes 6 _ _ scr_shapes fuel _ _ hf (by kernel_rfl)
  obtain ⟨l⟩ := cs
  simp only [Value.cells] at hk
  obtain ⟨n0, _, rfl, f0, hk⟩ := okl_int hk
  obtain ⟨n1, _, rfl, f1, hk⟩ := okl_int hk
  obtain ⟨n2, _, rfl, f2, hk⟩ := okl_int hk
  obtain ⟨n3, _, rfl, f3, hk⟩ := okl_int hk
  obtain ⟨n4, _, rfl, f4, hk⟩ := okl_int hk
  obtain ⟨n5, _, rfl, f5, hk⟩ := okl_int hk
  obtain ⟨n6, _, rfl, f6, hk⟩ := okl_int hk
  obtain ⟨n7, _, rfl, f7, hk⟩ := okl_int hk
  obtain ⟨v8, _, rfl, g8, hk⟩ := okl_cons hk
  obtain ⟨v9, _, rfl, g9, hk⟩ := okl_cons hk
  obtain rfl := okl_nil hk
  obtain ⟨p, hp, hF⟩ := progs_of_ok g8
  obtain ⟨k, hk9⟩ := picks_of_ok g9
  have hp0 := hp
  have hk0 := hk9
  obtain ⟨ap, cp, rfl, _⟩ := hp0
  obtain ⟨ak, ck, rfl, _⟩ := hk0
  have h7 : 0 ≤ n7 ∧ n7 < 18446744073709551616 := by have := wf_u64 f7; omega
  exact ⟨⟨⟨⟨n0, n1, n2, n3, n4, n5, n6, n7⟩, p, k⟩, ap, cp, ak, ck⟩, rfl, ⟨h7.1, h7.2⟩, hF, hp, hk9⟩
end
end Go.Proofs.YtpmcedfeiconfaaGreatDoor.Opw

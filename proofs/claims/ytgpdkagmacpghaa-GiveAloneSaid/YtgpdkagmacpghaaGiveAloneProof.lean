/- The law GiveAlone holds for every input: a worker alone releases every held block within four steps, into the rack while there is room, then onto the free list in order, and blocks of draining slabs are parked; the law returns true and leaves its arguments as they were. No conditions. -/
import Derived.Test.YtgpdkagmacpghaaRows
import Derived.Test.YtgpdkagmacpghaaGiveAlones
import Derived.Test.YtgpdkagmacpghaaLaw
import Derived.Test.YtgpdkagmacpghaaOpens
import Derived.ChangeArms
import Derived.ChangeShapes
namespace Go.Proofs.Ytgpdkagmacpghaa.giveAlone
open Go Go.ChangeShapes Go.WideShapes Go.ChangeAt Go.RowKit
set_option linter.unusedVariables false

theorem own : ownKnob Try.prog.godebug = none := by kernel_rfl
set_option maxRecDepth 100000 in
theorem lifted (os : Os) (started : os.Started) (H : Type) (enc : TypeId × Value → H) :
    ReturnsInHanded {} Try.checked os 3 .any (Rows.giveAloneSpec.pre6 enc Try.prog Try.f3 Rows.giveAloneRow.domain false) (Rows.giveAloneSpec.post enc Try.prog Try.f3 false true false false) := by
  refine returnsInHanded_of_change (C := Try.checked) own started (by kernel_rfl) Try.func3
    (ChangeSpec.witness6 (enc := enc) (C := Try.checked) false ⟨#[], #[.agg #[.int .i64 0, .int .i64 0, .int .i64 0, .int .i64 0, .int .i64 0, .int .i64 0, .int .i64 0, .int .u64 0], .slice none 0 0, .slice none 0 0], []⟩ 8 (by kernel_rfl) (by kernel_rfl) (by kernel_rfl) (by kernel_rfl)) ?_
  intro W base args ds gs before hval0 hW hcnd _
  have hval : ∀ (j : Nat) t v, Try.f3.params[j]? = some t → args[j]? = some v → Value.okWide Try.prog W .any base t v := hval0
  have hW' := hW
  obtain ⟨p, q, hA0, hV, rfl, hfz, hnd⟩ := hW
  have hA : DataW.TrodAll enc Try.prog W 0 (fun _ => true) true Try.f3.params.toList args.toList ds p := hA0
  rw [Try.params3] at hA hval
  obtain ⟨v0, vs0, d0, ds0, p0, q0, hargs, rfl, rfl, h0, r0⟩ := trodAll_cons hA
  obtain ⟨v1, vs1, d1, ds1, p1, q1, rfl, rfl, rfl, h1, r1⟩ := trodAll_cons r0
  obtain ⟨v2, vs2, d2, ds2, p2, q2, rfl, rfl, rfl, h2, r2⟩ := trodAll_cons r1
  obtain ⟨rfl, rfl, rfl⟩ := trodAll_nil r2
  obtain rfl : args = #[v0, v1, v2] := by cases args; simp_all
  obtain ⟨rfl, rfl⟩ := trodVars_none hV
  obtain ⟨c0, rfl, k0⟩ := Shp.open_cfg (hval 0 24 v0 rfl rfl) h0
  obtain ⟨x1, rfl, k1⟩ := Shp.open_words (hval 1 25 v1 rfl rfl) h1
  obtain ⟨x2, rfl, k2⟩ := Shp.open_ints (hval 2 26 v2 rfl rfl) h2
  have key : Calls Try.prog 3 _ W fun e w' => e = .returned (.bool true) ∧ Below W.heap.size W w' := (k1.elim fun L hr => k2.elim fun H hh => Me.giveAlone c0 k0 x1 x2 L H W hr.1 (fun x hx => Shp.wf_u64 (hr.2 x hx)) hh.1)
  refine key.mono fun e W' ⟨he, hb⟩ => ?_
  subst he
  exact ⟨_, rfl, Law.law_post (tb := 4) (by kernel_rfl) rfl Try.underlying4 rfl ⟨rfl, rfl, rfl⟩ hW' hb⟩

theorem over : Rows.giveAloneRow.holds Try.pinned (OpenSpec.ofChange Rows.giveAloneSpec) :=
  OpenClaim.holds_of_wide 3 Try.f3 rfl rfl rfl rfl rfl rfl rfl ⟨rfl, rfl, rfl, rfl, rfl⟩ rfl rfl rfl rfl rfl (by kernel_rfl) Try.func3 (by kernel_rfl)
    (of_decide_eq_true (by kernel_rfl)) (by unfold Func.isWrapper; first | (rw [if_pos (by decide +kernel)]; kernel_rfl) | (rw [if_neg (by decide +kernel)]; exact ⟨rfl, rfl⟩))
    (fun os started H enc _ => lifted os started H enc)

theorem proved : Rows.GiveAloneSaid := over
#print axioms proved
end Go.Proofs.Ytgpdkagmacpghaa.giveAlone

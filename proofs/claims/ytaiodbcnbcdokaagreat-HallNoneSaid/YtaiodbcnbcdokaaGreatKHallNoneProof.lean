/- The law HallNone holds for every input: it returns true and leaves its arguments as they were. No conditions. The walk lies in HallNoneWalk. -/
import Derived.Test.YtaiodbcnbcdokaaGreatKHallNoneWalk
import Derived.Test.YtaiodbcnbcdokaaGreatKLaw
set_option linter.unusedVariables false
set_option linter.unusedSimpArgs false
set_option linter.unusedSectionVars false
set_option maxRecDepth 100000
set_option maxHeartbeats 16000000
namespace Go.Proofs.YtaiodbcnbcdokaaGreat.hallNone
open Go Go.ChangeShapes Go.WideShapes Go.ChangeAt Go.RowKit
theorem own : ownKnob Tryz.prog.godebug = none := ah
theorem lifted (os : Os) (started : os.Started) (H : Type) (enc : TypeId × Value → H) :
  ReturnsInHanded {} Tryz.checked os 4 .any (Rows.hallNoneSpec.pre6 enc Tryz.prog Tryz.f4 Rows.hallNoneRow.domain false) (Rows.hallNoneSpec.post enc Tryz.prog Tryz.f4 false true false false) := by
 refine returnsInHanded_of_change (C := Tryz.checked) own started ah Tryz.func4
  (ChangeSpec.witness6 (enc := enc) (C := Tryz.checked) false ⟨#[], #[.agg #[.int .i64 0, .int .i64 0, .int .i64 0, .int .i64 0, .int .i64 0, .int .i64 0, .int .i64 0, .int .u64 0], .int .i64 0], []⟩ 8 ah ah ah ah) ?_
 intro W base args ds gs before hval0 hW hcnd _
 have hval : ∀ (j : Nat) t v, Tryz.f4.params[j]? = some t → args[j]? = some v → Value.okWide Tryz.prog W .any base t v := hval0
 have hW' := hW
 obtain ⟨p, q, hA0, hV, rfl, hfz, hnd⟩ := hW
 have hA : DataW.TrodAll enc Tryz.prog W 0 (fun _ => true) true Tryz.f4.params.toList args.toList ds p := hA0
 rw [Tryz.params4] at hA hval
 obtain ⟨v0, vs0, d0, ds0, p0, q0, hargs, rfl, rfl, h0, r0⟩ := trodAll_cons hA
 obtain ⟨v1, vs1, d1, ds1, p1, q1, rfl, rfl, rfl, h1, r1⟩ := trodAll_cons r0
 obtain ⟨rfl, rfl, rfl⟩ := trodAll_nil r1
 obtain rfl : args = #[v0, v1] := by cases args; simp_all
 obtain ⟨rfl, rfl⟩ := trodVars_none hV
 obtain ⟨c0, rfl, k0⟩ := Shp.open_cfg (hval 0 24 v0 rfl rfl) h0
 obtain ⟨n1, rfl, _, _, k1⟩ := open_int Tryz.underlying3 (hval 1 3 v1 rfl rfl) h1
 have key : Calls Tryz.prog 4 _ W fun e w' => e = .returned (.bool true) ∧ Below W.heap.size W w' := (Ha.hallNone c0 k0 n1 W)
 refine key.mono fun e W' ⟨he, hb⟩ => ?_
 subst he
 exact ⟨_, rfl, Law.law_post (tb := 4) ah rfl Tryz.underlying4 rfl ⟨rfl, rfl, rfl⟩ hW' hb⟩
theorem over : Rows.hallNoneRow.holds Tryz.pinned (OpenSpec.ofChange Rows.hallNoneSpec) :=
 OpenClaim.holds_of_wide 4 Tryz.f4 rfl rfl rfl rfl rfl rfl rfl ⟨rfl, rfl, rfl, rfl, rfl⟩ rfl rfl rfl rfl rfl ah Tryz.func4 ah
  (of_decide_eq_true ah) (by unfold Func.isWrapper; first | (rw [if_pos qa7u]; kernel_rfl) | (rw [if_neg qa7u]; exact ⟨rfl, rfl⟩))
  (fun os started H enc _ => lifted os started H enc)
theorem proved : Rows.HallNoneSaid := over
#print axioms proved
end Go.Proofs.YtaiodbcnbcdokaaGreat.hallNone

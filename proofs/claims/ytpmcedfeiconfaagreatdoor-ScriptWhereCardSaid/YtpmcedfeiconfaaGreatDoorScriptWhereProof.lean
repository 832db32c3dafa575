/- The law ScriptWhere holds for every input: it returns true and leaves its arguments as they were (the tied card: the seven listed variables of the library hold what the program's text lays). No other conditions. The walk lies in ScWh. -/
import Derived.Test.YtpmcedfeiconfaaGreatDoorRows
import Derived.Test.YtpmcedfeiconfaaGreatDoorCards
import Derived.Test.YtpmcedfeiconfaaGreatDoorTie
import Derived.Test.YtpmcedfeiconfaaGreatDoorScTxs
import Derived.Test.YtpmcedfeiconfaaGreatDoorScLaids
import Derived.SevenTiedAt
namespace Go.Proofs.YtpmcedfeiconfaaGreatDoor.scriptWhere
open Go Go.ChangeShapes Go.WideShapes Go.ChangeAt Go.RowKit
set_option linter.unusedVariables false

theorem own : ownKnob Tryz.prog.godebug = none := by kernel_rfl
set_option maxRecDepth 100000 in
theorem lifted (os : Os) (started : os.Started) (H : Type) (enc : TypeId × Value → H) :
    ReturnsInHanded {} Tryz.checked os 6 .any (fun w args => (Rows.scriptWhereSpec.pre enc Tryz.prog Tryz.f6 [] false w args ∧ laidMetH Tryz.prog Opw.LD w) ∧ sizedMet enc Tryz.prog Tryz.f6 (OpenSpec.ofChange Rows.scriptWhereSpec) false w args)
      (Rows.scriptWhereSpec.post enc Tryz.prog Tryz.f6 false true false false) := by
  refine Opw.handed_laid (C := Tryz.checked) (X := fun w _ => laidMetH Tryz.prog Opw.LD w) (fun _ _ _ hh h => h.of_heap hh) own started (by kernel_rfl) Tryz.func6
    (ChangeSpec.witness_shaped (enc := enc) (C := Tryz.checked) (os := os) (X := fun w _ => laidMetH Tryz.prog Opw.LD w) false (World.laidAll Tryz.prog os Opw.LD) #[.agg #[.int .i64 0, .int .i64 0, .int .i64 0, .int .i64 0, .int .i64 0, .int .i64 0, .int .i64 0, .int .u64 0, .slice none 0 0, .slice none 0 0], .int .u16 0] 8 (World.laidAll_os _ _ _) (World.shaped_of_ZipB (by kernel_rfl) (by kernel_rfl)) (by kernel_rfl) (by kernel_rfl) (by kernel_rfl) (Opw.door_met os _)) ?_
  intro W base args ds gs before hval0 hW hL hsh
  have hval : ∀ (j : Nat) t v, Tryz.f6.params[j]? = some t → args[j]? = some v → Value.okWide Tryz.prog W .any base t v := hval0
  have hW' := hW
  obtain ⟨p, q, hA0, hV, rfl, hfz, hnd⟩ := hW
  have hA : DataW.TrodAll enc Tryz.prog W 0 (fun _ => true) true Tryz.f6.params.toList args.toList ds p := hA0
  rw [Tryz.params6] at hA hval
  obtain ⟨v0, vs0, d0, ds0, p0, q0, hargs, rfl, rfl, h0, r0⟩ := trodAll_cons hA
  obtain ⟨v1, vs1, d1, ds1, p1, q1, rfl, rfl, rfl, h1, r1⟩ := trodAll_cons r0
  obtain ⟨rfl, rfl, rfl⟩ := trodAll_nil r1
  obtain rfl : args = #[v0, v1] := by cases args; simp_all
  obtain ⟨rfl, rfl⟩ := trodVars_none hV
  obtain ⟨x0, rfl, k0⟩ := Opw.open_scr (hval 0 28 v0 rfl rfl) h0
  obtain ⟨n1, rfl, _, _, k1⟩ := open_int Tryz.underlying44 (hval 1 44 v1 rfl rfl) h1
  have LBW := Opw.lb_of hL hsh
  have key : Calls Tryz.prog 6 _ W fun e w' => e = .returned (.bool true) ∧ Below W.heap.size W w' := Scw.scriptWhereN x0.s k0.1 k0.2.1 x0.ap x0.ak x0.cp x0.ck n1 (Scw.wf_u16 k1) W LBW k0.2.2.2 k0.2.2.1
  refine key.mono fun e W' ⟨he, hb⟩ => ?_
  subst he
  exact ⟨_, rfl, Law.law_post (tb := 4) (by kernel_rfl) rfl Tryz.underlying4 rfl ⟨rfl, rfl, rfl⟩ hW' hb⟩
theorem over : Rows.scriptWhereRow.holds Tryz.pinned (OpenSpec.ofChange Rows.scriptWhereSpec) :=
  OpenClaim.holds_of_wide 6 Tryz.f6 rfl rfl rfl rfl rfl rfl rfl ⟨rfl, rfl, rfl, rfl, rfl⟩ rfl rfl rfl rfl rfl (by kernel_rfl) Tryz.func6 (by kernel_rfl)
    (of_decide_eq_true (by kernel_rfl)) (by unfold Func.isWrapper; first | (rw [if_pos (by decide +kernel)]; kernel_rfl) | (rw [if_neg (by decide +kernel)]; exact ⟨rfl, rfl⟩))
    (fun os started H enc _ => lifted os started H enc)
theorem proved : Rows.ScriptWhereCardSaid :=
  Claim7.holds_tied_plain_at .later [] [.data, .data, .data, .data, .sentinel, .sentinel, .pinned] true (true, "68ae5cdb36967c9cdb9caac8a280d6651cd1f3985f0375f7ad95bd6cc4b26d54") true
    over (fun _ h => by cases h) (by kernel_rfl) (fun _ h => by cases h) scriptWhere_row_tie rfl ⟨rfl, rfl⟩ (by kernel_rfl) rfl
    (fun f fn hf hfn => by
      obtain rfl : f = 6 := Option.some.inj ((show Tryz.prog.funcNamed "coatcheck/coatchecklaw21.ScriptWhere" = some 6 by kernel_rfl).symm.trans hf) |>.symm
      obtain rfl : fn = Tryz.f6 := (Option.some.inj (Tryz.func6.symm.trans hfn)).symm
      exact ⟨by kernel_rfl, fun j t ht => by
        rw [Tryz.params6] at ht
        have hm : t ∈ [28, 44] := by simpa using Array.mem_of_getElem? ht
        have hall : ([28, 44].all fun u => !Tryz.prog.wantsStandIn u) = true := by kernel_rfl
        exact (show Tryz.prog.wantsStandIn t = false by simpa using List.all_eq_true.1 hall t hm)⟩)
    (by kernel_rfl)
#print axioms proved
end Go.Proofs.YtpmcedfeiconfaaGreatDoor.scriptWhere

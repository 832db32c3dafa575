/- The contract of ideal.rules: a new map that holds the fourteen rows of the table, whatever order they are inserted in. -/
import Derived.Test.YtgpdkagmacpghaaRows
import Derived.Test.YtgpdkagmacpghaaMapRaw
import Derived.Test.YtgpdkagmacpghaaRegionPerm
import Derived.WalkKit
import Derived.ProofKit
import Derived.OpenShut
import Derived.Outline
import Derived.Maps.OwnSet
import Derived.Lib.Hide
namespace Go.Proofs.Ytgpdkagmacpghaa.Idl
open Go Go.RowKit Go.Proofs.Ytgpdkagmacpghaa.Mr Go.ChangeMaps
set_option linter.unusedVariables false
set_option linter.unusedSimpArgs false

def rv (n d : Int) : Value := .agg #[.int .i64 n, .int .i64 d]
def tbl : List ((Int × Int) × Value) := [((3, 0), rv 1 1), ((3, 5), rv 0 0), ((4, 0), rv 2 2), ((4, 6), rv 2 0), ((4, 7), rv 4 0), ((4, 8), rv 4 0), ((5, 0), rv 2 3), ((5, 5), rv 0 0), ((5, 6), rv 2 0), ((5, 7), rv 4 0), ((5, 8), rv 4 0), ((6, 0), rv 3 0), ((6, 7), rv 4 0), ((6, 8), rv 4 0)]
def J : List Nat := [3, 6, 9, 12, 15, 18, 21, 24, 27, 30, 33, 36, 39, 42]
def kvOf (i : Nat) : (Int × Int) × Value := tbl.getD (i / 3 - 1) ((0, 0), rv 0 0)
theorem J_map : J.map kvOf = tbl := by rfl
theorem J_inj : ∀ i ∈ J, ∀ j ∈ J, i ≠ j → (kvOf i).1 ≠ (kvOf j).1 := by decide

theorem upd_new {k : Int × Int} {v : Value} : ∀ {L : List ((Int × Int) × Value)}, (∀ p ∈ L, p.1 ≠ k) → upd k v L = L ++ [(k, v)]
  | [], _ => rfl
  | p :: r, h => by
    have h1 : ¬ k = p.1 := fun e => h p List.mem_cons_self e.symm
    simp [upd, h1, upd_new (fun q hq => h q (List.mem_cons_of_mem _ hq))]

theorem key_eq (a b c d : Int) (w : World) : (Op.equal 183 (pairV (a, b)) (pairV (c, d))).run Try.prog w = .ok (a == c && b == d) w := by
  have h1 : Try.prog.underlying 183 = some (.struct (Try.prog.fieldsOf 183)) := by kernel_rfl
  have h2 : Try.prog.stoodInHeld 183 = false := by kernel_rfl
  unfold Op.equal Op.maxDepth pairV
  rw [run_equalIn_struct w 9999 183 _ _ h1 h2]
  clear h1 h2
  go_simp
  by_cases h : a = c
  · by_cases h' : b = d
    · simp [h, h']
    · have : (b == d) = false := by simpa using h'
      simp [h, h', this]
  · have : (a == c) = false := by simpa using h
    simp [h, this]
theorem ck (b : Bool) (n : Nat) (x y : Int) (w : World) : (Instr.checkKey b (n + 2) 183 (.agg #[.int .i64 x, .int .i64 y])).run Try.prog w = .ok () w := by
  have hk3 := fun w : World => MapKept.run_checkKey (P := Try.prog) (w := w) (k := .int .i64 x) Try.underlying3 (by simp [MapKept.IsKey]) b n
  have hk48 := fun w : World => MapKept.run_checkKey (P := Try.prog) (w := w) (k := .int .i64 y) Try.underlying41 (by simp [MapKept.IsKey]) b n
  unfold Instr.checkKey
  simp only [Sem.run_bind, run_underlying Try.underlying183, Result.andThen_ok]
  rw [← Array.forIn_toList]
  simp only [List.forIn_cons, List.forIn_nil]
  go_simp
theorem key_check (w : World) (b : Bool) (k : Int × Int) : (Instr.checkKey b 10000 183 (pairV k)).run Try.prog w = .ok () w := ck b 9998 k.1 k.2 w
theorem ruleKeys : Keys Try.prog 183 pairV := pair_keys Try.underlying183 key_eq key_check

theorem setBlock_alloc (w : World) (o o' : Obj) : setBlock (w.alloc o) w.heap.size o' = w.alloc o' := by
  have e : (w.heap.push o).setIfInBounds w.heap.size o' = w.heap.push o' := by
    apply Array.ext_getElem?
    intro i
    by_cases h : w.heap.size = i
    · subst h; simp
    · rw [Array.getElem?_setIfInBounds_ne h, Array.getElem?_push, Array.getElem?_push, if_neg (Ne.symm h), if_neg (Ne.symm h)]
  show World.mk ((w.heap.push o).setIfInBounds w.heap.size o') w.tape w.drawn w.os w.output = World.mk (w.heap.push o') w.tape w.drawn w.os w.output
  rw [e]

theorem wpAny_at {P : Program} {md : Region.Mode} {ops : Array Oper} {Q : Exit → Act → World → Prop} {n : Nat} {l l' : Array Bool} {a a' : Act} {w : World} (hl : l' = l) (ha : a' = a) (h : wpAny P md ops Q n l a w) : wpAny P md ops Q n l' a' w := by
  subst hl; subst ha; exact h

def Ins (w : World) (done : List Nat) (w' : World) : Prop := ∃ es c, w' = w.drew.alloc (.map es c) ∧ es.toList.map kv = (done.reverse.map kvOf).map (pr pairV)

theorem ins_step (w : World) {done : List Nat} {w' : World} {i : Nat} (h : Ins w done w') (hi : i ∈ J) (hn : i ∉ done) (hs : ∀ x ∈ done, x ∈ J) :
    ∃ w'', (Instr.mapUpdate 180 (.map (some w.heap.size)) (pairV (kvOf i).1) (kvOf i).2).run Try.prog w' = .ok () w'' ∧ Ins w (i :: done) w'' := by
  obtain ⟨es, c, rfl, hL⟩ := h
  have hm : MapAt (w.drew.alloc (.map es c)) w.heap.size pairV (done.reverse.map kvOf) := ⟨es, c, by show (w.heap.push _)[w.heap.size]? = _; simp, hL⟩
  obtain ⟨es', c', hr, hL'⟩ := run_upd ruleKeys Try.underlying180 hm (kvOf i).1 (kvOf i).2
  refine ⟨_, hr, es', c', setBlock_alloc w.drew _ _, ?_⟩
  rw [hL', upd_new, List.reverse_cons, List.map_append, List.map_append, List.map_append]
  · rfl
  · intro p hp
    obtain ⟨j, hj, rfl⟩ := List.mem_map.1 hp
    have hj' : j ∈ done := List.mem_reverse.1 hj
    exact J_inj j (hs j hj') i hi (fun e => hn (e ▸ hj'))

set_option maxRecDepth 100000 in
set_option maxHeartbeats 2000000 in
theorem rules (w : World) : Calls Try.prog 130 #[] w fun e w' => ∃ L, L.Perm tbl ∧ e = .returned (.map (some w.heap.size)) ∧ MapAt w' w.heap.size pairV L ∧ Below w.heap.size w w' := by
  have hmm := @run_makeMap Try.prog
  go_enter Try.func130, Try.ntmps130
  go_wp2
  refine wp_region_any (by kernel_rfl) ?_
  change wpAny _ _ _ _ _ _ _ (World.drew _)
  refine wpAny_take (i := 1) (v := ?_) rfl (by kernel_rfl) (by kernel_rfl) (by kernel_rfl) (fun _ _ _ h => h) (Or.inl ⟨by rfl, by intro w; go_simp; try with_reducible rfl⟩) ?_
  refine wpAny_take (i := 2) (v := ?_) rfl (by kernel_rfl) (by kernel_rfl) (by kernel_rfl) (fun _ _ _ h => h) (Or.inl ⟨by rfl, by intro w; go_simp; try with_reducible rfl⟩) ?_
  refine wpAny_take (i := 4) (v := ?_) rfl (by kernel_rfl) (by kernel_rfl) (by kernel_rfl) (fun _ _ _ h => h) (Or.inl ⟨by rfl, by intro w; go_simp; try with_reducible rfl⟩) ?_
  refine wpAny_take (i := 5) (v := ?_) rfl (by kernel_rfl) (by kernel_rfl) (by kernel_rfl) (fun _ _ _ h => h) (Or.inl ⟨by rfl, by intro w; go_simp; try with_reducible rfl⟩) ?_
  refine wpAny_take (i := 7) (v := ?_) rfl (by kernel_rfl) (by kernel_rfl) (by kernel_rfl) (fun _ _ _ h => h) (Or.inl ⟨by rfl, by intro w; go_simp; try with_reducible rfl⟩) ?_
  refine wpAny_take (i := 8) (v := ?_) rfl (by kernel_rfl) (by kernel_rfl) (by kernel_rfl) (fun _ _ _ h => h) (Or.inl ⟨by rfl, by intro w; go_simp; try with_reducible rfl⟩) ?_
  refine wpAny_take (i := 10) (v := ?_) rfl (by kernel_rfl) (by kernel_rfl) (by kernel_rfl) (fun _ _ _ h => h) (Or.inl ⟨by rfl, by intro w; go_simp; try with_reducible rfl⟩) ?_
  refine wpAny_take (i := 11) (v := ?_) rfl (by kernel_rfl) (by kernel_rfl) (by kernel_rfl) (fun _ _ _ h => h) (Or.inl ⟨by rfl, by intro w; go_simp; try with_reducible rfl⟩) ?_
  refine wpAny_take (i := 13) (v := ?_) rfl (by kernel_rfl) (by kernel_rfl) (by kernel_rfl) (fun _ _ _ h => h) (Or.inl ⟨by rfl, by intro w; go_simp; try with_reducible rfl⟩) ?_
  refine wpAny_take (i := 14) (v := ?_) rfl (by kernel_rfl) (by kernel_rfl) (by kernel_rfl) (fun _ _ _ h => h) (Or.inl ⟨by rfl, by intro w; go_simp; try with_reducible rfl⟩) ?_
  refine wpAny_take (i := 16) (v := ?_) rfl (by kernel_rfl) (by kernel_rfl) (by kernel_rfl) (fun _ _ _ h => h) (Or.inl ⟨by rfl, by intro w; go_simp; try with_reducible rfl⟩) ?_
  refine wpAny_take (i := 17) (v := ?_) rfl (by kernel_rfl) (by kernel_rfl) (by kernel_rfl) (fun _ _ _ h => h) (Or.inl ⟨by rfl, by intro w; go_simp; try with_reducible rfl⟩) ?_
  refine wpAny_take (i := 19) (v := ?_) rfl (by kernel_rfl) (by kernel_rfl) (by kernel_rfl) (fun _ _ _ h => h) (Or.inl ⟨by rfl, by intro w; go_simp; try with_reducible rfl⟩) ?_
  refine wpAny_take (i := 20) (v := ?_) rfl (by kernel_rfl) (by kernel_rfl) (by kernel_rfl) (fun _ _ _ h => h) (Or.inl ⟨by rfl, by intro w; go_simp; try with_reducible rfl⟩) ?_
  refine wpAny_take (i := 22) (v := ?_) rfl (by kernel_rfl) (by kernel_rfl) (by kernel_rfl) (fun _ _ _ h => h) (Or.inl ⟨by rfl, by intro w; go_simp; try with_reducible rfl⟩) ?_
  refine wpAny_take (i := 23) (v := ?_) rfl (by kernel_rfl) (by kernel_rfl) (by kernel_rfl) (fun _ _ _ h => h) (Or.inl ⟨by rfl, by intro w; go_simp; try with_reducible rfl⟩) ?_
  refine wpAny_take (i := 25) (v := ?_) rfl (by kernel_rfl) (by kernel_rfl) (by kernel_rfl) (fun _ _ _ h => h) (Or.inl ⟨by rfl, by intro w; go_simp; try with_reducible rfl⟩) ?_
  refine wpAny_take (i := 26) (v := ?_) rfl (by kernel_rfl) (by kernel_rfl) (by kernel_rfl) (fun _ _ _ h => h) (Or.inl ⟨by rfl, by intro w; go_simp; try with_reducible rfl⟩) ?_
  refine wpAny_take (i := 28) (v := ?_) rfl (by kernel_rfl) (by kernel_rfl) (by kernel_rfl) (fun _ _ _ h => h) (Or.inl ⟨by rfl, by intro w; go_simp; try with_reducible rfl⟩) ?_
  refine wpAny_take (i := 29) (v := ?_) rfl (by kernel_rfl) (by kernel_rfl) (by kernel_rfl) (fun _ _ _ h => h) (Or.inl ⟨by rfl, by intro w; go_simp; try with_reducible rfl⟩) ?_
  refine wpAny_take (i := 31) (v := ?_) rfl (by kernel_rfl) (by kernel_rfl) (by kernel_rfl) (fun _ _ _ h => h) (Or.inl ⟨by rfl, by intro w; go_simp; try with_reducible rfl⟩) ?_
  refine wpAny_take (i := 32) (v := ?_) rfl (by kernel_rfl) (by kernel_rfl) (by kernel_rfl) (fun _ _ _ h => h) (Or.inl ⟨by rfl, by intro w; go_simp; try with_reducible rfl⟩) ?_
  refine wpAny_take (i := 34) (v := ?_) rfl (by kernel_rfl) (by kernel_rfl) (by kernel_rfl) (fun _ _ _ h => h) (Or.inl ⟨by rfl, by intro w; go_simp; try with_reducible rfl⟩) ?_
  refine wpAny_take (i := 35) (v := ?_) rfl (by kernel_rfl) (by kernel_rfl) (by kernel_rfl) (fun _ _ _ h => h) (Or.inl ⟨by rfl, by intro w; go_simp; try with_reducible rfl⟩) ?_
  refine wpAny_take (i := 37) (v := ?_) rfl (by kernel_rfl) (by kernel_rfl) (by kernel_rfl) (fun _ _ _ h => h) (Or.inl ⟨by rfl, by intro w; go_simp; try with_reducible rfl⟩) ?_
  refine wpAny_take (i := 38) (v := ?_) rfl (by kernel_rfl) (by kernel_rfl) (by kernel_rfl) (fun _ _ _ h => h) (Or.inl ⟨by rfl, by intro w; go_simp; try with_reducible rfl⟩) ?_
  refine wpAny_take (i := 40) (v := ?_) rfl (by kernel_rfl) (by kernel_rfl) (by kernel_rfl) (fun _ _ _ h => h) (Or.inl ⟨by rfl, by intro w; go_simp; try with_reducible rfl⟩) ?_
  refine wpAny_take (i := 41) (v := ?_) rfl (by kernel_rfl) (by kernel_rfl) (by kernel_rfl) (fun _ _ _ h => h) (Or.inl ⟨by rfl, by intro w; go_simp; try with_reducible rfl⟩) ?_
  refine wpAny_at (l := #[false, true, true, false, true, true, false, true, true, false, true, true, false, true, true, false, true, true, false, true, true, false, true, true, false, true, true, false, true, true, false, true, true, false, true, true, false, true, true, false, true, true, false, false, false]) (a := ⟨#[.map none, undef, .agg #[.int .i64 3, .int .i64 0], .agg #[.int .i64 1, .int .i64 1], .agg #[.int .i64 3, .int .i64 5], .agg #[.int .i64 0, .int .i64 0], .agg #[.int .i64 4, .int .i64 0], .agg #[.int .i64 2, .int .i64 2], .agg #[.int .i64 4, .int .i64 6], .agg #[.int .i64 2, .int .i64 0], .agg #[.int .i64 4, .int .i64 7], .agg #[.int .i64 4, .int .i64 0], .agg #[.int .i64 4, .int .i64 8], .agg #[.int .i64 4, .int .i64 0], .agg #[.int .i64 5, .int .i64 0], .agg #[.int .i64 2, .int .i64 3], .agg #[.int .i64 5, .int .i64 5], .agg #[.int .i64 0, .int .i64 0], .agg #[.int .i64 5, .int .i64 6], .agg #[.int .i64 2, .int .i64 0], .agg #[.int .i64 5, .int .i64 7], .agg #[.int .i64 4, .int .i64 0], .agg #[.int .i64 5, .int .i64 8], .agg #[.int .i64 4, .int .i64 0], .agg #[.int .i64 6, .int .i64 0], .agg #[.int .i64 3, .int .i64 0], .agg #[.int .i64 6, .int .i64 7], .agg #[.int .i64 4, .int .i64 0], .agg #[.int .i64 6, .int .i64 8], .agg #[.int .i64 4, .int .i64 0], undef], []⟩) (by kernel_rfl) (by kernel_rfl) ?_
  refine wpAny_ready (rs := [0]) (by kernel_rfl) (by simp) ?_
  refine AllReady.cons rfl (fun K hK => ?_) AllReady.nil
  go_simp
  refine hK _ _ ?_
  clear hK K hmm
  refine wpAny_at (l := #[true, true, true, false, true, true, false, true, true, false, true, true, false, true, true, false, true, true, false, true, true, false, true, true, false, true, true, false, true, true, false, true, true, false, true, true, false, true, true, false, true, true, false, false, false]) (a := ⟨#[.map none, .map (some w.heap.size), .agg #[.int .i64 3, .int .i64 0], .agg #[.int .i64 1, .int .i64 1], .agg #[.int .i64 3, .int .i64 5], .agg #[.int .i64 0, .int .i64 0], .agg #[.int .i64 4, .int .i64 0], .agg #[.int .i64 2, .int .i64 2], .agg #[.int .i64 4, .int .i64 6], .agg #[.int .i64 2, .int .i64 0], .agg #[.int .i64 4, .int .i64 7], .agg #[.int .i64 4, .int .i64 0], .agg #[.int .i64 4, .int .i64 8], .agg #[.int .i64 4, .int .i64 0], .agg #[.int .i64 5, .int .i64 0], .agg #[.int .i64 2, .int .i64 3], .agg #[.int .i64 5, .int .i64 5], .agg #[.int .i64 0, .int .i64 0], .agg #[.int .i64 5, .int .i64 6], .agg #[.int .i64 2, .int .i64 0], .agg #[.int .i64 5, .int .i64 7], .agg #[.int .i64 4, .int .i64 0], .agg #[.int .i64 5, .int .i64 8], .agg #[.int .i64 4, .int .i64 0], .agg #[.int .i64 6, .int .i64 0], .agg #[.int .i64 3, .int .i64 0], .agg #[.int .i64 6, .int .i64 7], .agg #[.int .i64 4, .int .i64 0], .agg #[.int .i64 6, .int .i64 8], .agg #[.int .i64 4, .int .i64 0], undef], []⟩) (by kernel_rfl) rfl ?_
  refine Rp.wpAny_perm (l0 := #[true, true, true, false, true, true, false, true, true, false, true, true, false, true, true, false, true, true, false, true, true, false, true, true, false, true, true, false, true, true, false, true, true, false, true, true, false, true, true, false, true, true, false, false, false]) J (Ins w) 2 (by kernel_rfl) (by decide) ?_ ?_ 14 [] _ rfl (by simp) (by simp) ⟨#[], 0, rfl, rfl⟩
  · intro done w' i hS hi hn hs
    obtain ⟨w'', hr, hS'⟩ := ins_step w hS hi hn hs
    have hi' := hi
    simp only [J, List.mem_cons, List.not_mem_nil, or_false] at hi'
    have HS := Lib.hid hS'
    clear hS hS' hn hs hi
    rcases hi' with rfl | rfl | rfl | rfl | rfl | rfl | rfl | rfl | rfl | rfl | rfl | rfl | rfl | rfl
    all_goals
      refine wpOp_step rfl (fun K hK => ?_)
      simp only [kvOf, tbl, rv, pairV, Nat.reduceDiv, Nat.reduceSub, List.getD_cons_zero, List.getD_cons_succ] at hr
      go_simp
      exact hK _ _ ⟨rfl, HS.out⟩
  · intro done w' hS hp
    refine wpAny_at (l := #[true, true, true, true, true, true, true, true, true, true, true, true, true, true, true, true, true, true, true, true, true, true, true, true, true, true, true, true, true, true, true, true, true, true, true, true, true, true, true, true, true, true, true, false, false]) (by kernel_rfl) rfl ?_
    obtain ⟨es, c, rfl, hL⟩ := hS
    have hm : MapAt (w.drew.alloc (.map es c)) w.heap.size pairV (done.reverse.map kvOf) := ⟨es, c, by show (w.heap.push _)[w.heap.size]? = _; simp, hL⟩
    have hP : (done.reverse.map kvOf).Perm tbl := by rw [← J_map]; exact ((List.reverse_perm done).trans hp).map kvOf
    refine wpAny_ready (rs := [43]) (by kernel_rfl) (by simp) ?_
    refine AllReady.cons rfl (fun K hK => ?_) AllReady.nil
    go_simp
    refine hK _ _ ?_
    clear hK K
    refine wpAny_ready (rs := [44]) (by kernel_rfl) (by simp) ?_
    refine AllReady.cons rfl (fun K hK => ?_) AllReady.nil
    go_simp
    refine hK _ _ ?_
    clear hK K
    refine wpAny_done (by kernel_rfl) ?_ _
    have HP := Lib.hid hP
    have HM := Lib.hid hm
    clear hP hm hp hL
    go_wp2
    go_ret
    exact ⟨_, HP.out, rfl, HM.out, ((Below.refl w.heap.size w).alloc (Nat.le_refl _) _).drew⟩
end Go.Proofs.Ytgpdkagmacpghaa.Idl

/- Layer 12: oper.find (made by genoper8.py). -/
import Derived.Test.YtononcokdlkjdaaDoorOpSplit
import Derived.Test.YtononcokdlkjdaaDoorRows2
namespace Go.Proofs.YtononcokdlkjdaaDoor.Opw
open Go Go.RowKit Go.ChangeMaps Go.Proofs.YtononcokdlkjdaaDoor.Gro Go.Proofs.YtononcokdlkjdaaDoor.Own Go.Proofs.YtononcokdlkjdaaDoor.Mr Go.Proofs.YtononcokdlkjdaaDoor.Opn
set_option linter.unusedVariables false
set_option linter.unusedSimpArgs false
section
variable {P : Program} {ops : Array Oper} {a : Act} {o : Oper} {w : World} {K : Act → World → Prop} {Q : Exit → Act → World → Prop} {E : Prop}
theorem step_load (hgd : o.guard = none) (ty : TypeId) (x : Operand) (ho : o.op = .load ty x) (g : Nat) (hx : a.eval x = .pointer (some ⟨g, 0, none⟩)) (cs : Array Value) (t : TypeId) (d : TypeDesc)
    (hg : Bk w g cs t) (hu : P.underlying ty = some d) (hd : (match d with | .struct _ | .array _ _ => true | _ => false) = true) (hi : (P.info? ty).map (·.size) = some cs.size)
    (h : K (a.put o.dst (.agg cs)) w) : if Region.wanted o (yielded ops a.tmps) = true then Oper.wp P o a w K Q else E := by
  rw [if_pos (by simp [Region.wanted, hgd])]
  exact wp_load_row ty x ho g hx t cs (0, 0) d hg hu hd hi h
theorem results_slot_cell_slot {fn : Func} {p q r : Tmp} {ty : TypeId} (h : fn.results = #[.tmp q, .cell p ty, .tmp r]) (tmps : Array Value) (w : World) (g : Nat) (t : TypeId) (cs : Array Value) (d : TypeDesc)
    (hp : tmps.getD p undef = .pointer (some ⟨g, 0, none⟩)) (hg : Bk w g cs t)
    (hu : P.underlying ty = some d) (hd : (match d with | .struct _ | .array _ _ => true | _ => false) = true) (hi : (P.info? ty).map (·.size) = some cs.size) :
    (results fn tmps).run P w = .ok (.tuple #[tmps.getD q undef, .agg cs, tmps.getD r undef]) w := by
  have hp' : tmps[p]?.getD undef = .pointer (some ⟨g, 0, none⟩) := by simpa using hp
  simp [results, h, hp', asAddr, run_loadVar_row w g t ty cs (0, 0) d hg hu hd hi]
end
theorem find_at {l : List UInt8} {k : Int} (hk : k ∈ kinds) (h : name k = l) : find l = some k := by
  rw [← h]
  apply find_name
  simp only [kinds, List.mem_cons, List.not_mem_nil, or_false] at hk
  rcases hk with rfl | rfl | rfl | rfl | rfl | rfl | rfl | rfl | rfl <;> rfl
theorem find_no {l : List UInt8} (h : ∀ k ∈ kinds, name k ≠ l) : find l = none := by
  unfold find
  rw [List.find?_eq_none]
  intro k hk
  simpa using h k hk
theorem name_list {k : Int} (hk : k ∈ kinds) : (nameB k).toList = name k := by
  simp only [kinds, List.mem_cons, List.not_mem_nil, or_false] at hk
  rcases hk with rfl | rfl | rfl | rfl | rfl | rfl | rfl | rfl | rfl <;> kernel_rfl
theorem cells_one (k : Int) : (cellsK k).all (·.oneCell') = true := by
  kernel_rfl
def FindPost (l : List UInt8) (w : World) (e : Ending) (w' : World) : Prop :=
  e = .returned (.tuple #[.int .i64 ((find l).getD 0), .agg (cellsK ((find l).getD 0)), .bool (find l).isSome]) ∧ Below w.heap.size w w'
set_option maxRecDepth 100000 in
set_option maxHeartbeats 8000000 in
theorem fFind (l : List UInt8) (w : World) : Calls Tryd.prog 31 #[strV l] w (FindPost l w) := by
  obtain ⟨kk, hkk⟩ : ∃ q, q = (find l).getD 0 := ⟨_, rfl⟩
  obtain ⟨bb, hbb⟩ : ∃ q, q = (find l).isSome := ⟨_, rfl⟩
  unfold FindPost
  rw [← hkk, ← hbb]
  have HKK := Lib.hid hkk
  have HBB := Lib.hid hbb
  clear hkk hbb
  have hz0 : ∀ u : World, (zeroValue 36).run Tryd.prog u = .ok (.agg (cellsK 0)) u := zero_sh
  have X0 := Bk.new w (cellsK 0) 36
  have hb0 : Below w.heap.size w (w.alloc (.cells (cellsK 0) 36)) := (Below.refl _ _).alloc (Nat.le_refl _) _
  obtain ⟨w1, hw1⟩ : ∃ q, q = w.alloc (.cells (cellsK 0) 36) := ⟨_, rfl⟩
  rw [← hw1] at X0 hb0
  have HS := Lib.hid (shapes w1)
  rw [hw1] at HS
  have HW1 := Lib.hid hw1
  clear hw1
  go_enter Tryd.func31, Tryd.ntmps31
  go_wp2_with fail
  refine wp_scope_straight ?_
  go_wp2_with fail
  refine wp_label ?_
  go_wp2_with fail
  refine HS.out.mono ?_
  rintro e w2 ⟨b, rfl, MM, hb2, hbl⟩
  rw [← HW1.out] at hb2 hbl
  have X2 := X0.keep hbl
  have hb3 := hb0.trans (hbl.mono hb0.size)
  have hl2 := X2.lt
  clear HS X0 hb0 HW1
  go_wp2_with (refine wpList_range_b rfl _ rfl Tryd.underlying37 b shapesL rfl (fun (k : Int) (v : Value) => name k ≠ l) MM ?_; intro w3 cnt hrg hbr; have X3 := X2.keep hbr; have hb4 := hb3.trans (hbr.mono hb3.size); have hr0 : w.heap.size < w2.heap.size := hl2; obtain ⟨rr, hrr⟩ : ∃ q, q = w2.heap.size := ⟨_, rfl⟩; rw [← hrr] at hrg hr0 ⊢; clear hrr MM X2 hb3 hbr hbl hl2 hb2)
  go_frame
  go_loopw [2, 4] (fun vk vo wr => vk = .int .i64 0 ∧ vo = .bool false ∧ ∃ cnt, Rg wr b rr iV shapesL (fun (k : Int) (v : Value) => name k ≠ l) cnt ∧ Bk wr w.heap.size (cellsK 0) 36 ∧ Below w.heap.size w wr) (fun _ _ wr => wr.rangeLeft b rr)
  case atStart => exact ⟨rfl, rfl, cnt, hrg, X3, hb4⟩
  case round =>
    obtain ⟨rfl, rfl, cnt2, hrg2, X4, hb5⟩ := hrel
    clear hrg X3 hb4
    have hlt := hrg2.lt
    have hml := hrg2.left_eq
    have HML := Lib.hid hml
    clear hml
    have hkeys : ∀ (k : Int) (v : Value) (k' : Int) (v' : Value), (k, v) ∈ shapesL → (k', v') ∈ shapesL → iV k = iV k' → k = k' := fun k v k' v' _ _ h => by simpa [iV] using h
    go_wp2_with (refine wpList_next_b rfl _ rfl b rr shapesL (fun (k : Int) (v : Value) => name k ≠ l) cnt2 rfl hrg2 hkeys ?_ ?_)
    · intro hall
      have hno : find l = none := find_no fun k hk => hall k _ (List.mem_map.2 ⟨k, hk, rfl⟩)
      have hkk := HKK.out
      have hbb := HBB.out
      rw [hno] at hkk hbb
      simp only [Option.getD_none, Option.isSome_none] at hkk hbb
      subst hkk; subst hbb
      clear hall hno hkeys
      go_wp2_with fail
      have hS0 : Bk wr.drew w.heap.size (cellsK 0) 36 := X4
      have bz : Below w.heap.size w wr.drew := Below.drew hb5
      refine wp_region_held_drew (S := fun w' => Bk w' w.heap.size (cellsK 0) 36) (by kernel_rfl) hS0 (fun hHeld => ?_)
      clear hS0
      generalize wr.drew = z7 at *
      refine wpAnyH_take (i := 0) (oi := _) (v := .int .i64 0) rfl (by kernel_rfl) (by kernel_rfl) (by kernel_rfl) (fun _ _ _ h => h) (Or.inl ⟨by rfl, fun w' hSw => by go_simp⟩) hHeld ?_
      try simp only [Act.put, List.getElem_toArray, List.getElem_cons_succ, List.getElem_cons_zero, List.setIfInBounds_toArray, List.set_cons_succ, List.set_cons_zero]
      refine wpAnyH_ready (rs := [1, 2, 3]) (by kernel_rfl) (by simp) ?_
      refine AllReadyH.cons (o := _) rfl (fun K hK => ?_) (AllReadyH.cons (o := _) rfl (fun K hK => ?_) (AllReadyH.cons (o := _) rfl (fun K hK => ?_) AllReadyH.nil))
      · refine step_load rfl 36 _ rfl (w.heap.size) rfl (cellsK 0) 36 _ (by exact hHeld) Tryd.underlying36 rfl (by kernel_rfl) ?_
        refine hK.out _ _ hHeld (fun hHeld => ?_)
        clear hK K
        try simp only [Act.put, List.getElem_toArray, List.getElem_cons_succ, List.getElem_cons_zero, List.setIfInBounds_toArray, List.set_cons_succ, List.set_cons_zero]
        refine wpAnyH_ready (rs := [2, 3]) (by kernel_rfl) (by simp) ?_
        refine AllReadyH.cons (o := _) rfl (fun K hK => ?_) (AllReadyH.cons (o := _) rfl (fun K hK => ?_) AllReadyH.nil)
        · go_simp
          refine hK.out _ _ hHeld (fun hHeld => ?_)
          clear hK K
          try simp only [Act.put, List.getElem_toArray, List.getElem_cons_succ, List.getElem_cons_zero, List.setIfInBounds_toArray, List.set_cons_succ, List.set_cons_zero]
          refine wpAnyH_take (i := 3) (oi := _) (v := .int .i64 0) rfl (by kernel_rfl) (by kernel_rfl) (by kernel_rfl) (fun _ _ _ h => h) (Or.inl ⟨by rfl, fun w' hSw => by go_simp⟩) hHeld ?_
          try simp only [Act.put, List.getElem_toArray, List.getElem_cons_succ, List.getElem_cons_zero, List.setIfInBounds_toArray, List.set_cons_succ, List.set_cons_zero]
          refine wpAnyH_ready (rs := [4]) (by kernel_rfl) (by simp) ?_
          refine AllReadyH.cons (o := _) rfl (fun K hK => ?_) AllReadyH.nil
          have b9 := below_setRow bz (Nat.le_refl w.heap.size) (cellsK 0)
          have hS9 := hHeld.setRow (cellsK 0)
          refine step_row rfl 36 (.tmp 3) (.tmp 22) rfl w.heap.size (cellsK 0) rfl rfl 36 (cellsK 0) (by exact hHeld) (by kernel_rfl) rfl (cells_one _) ?_
          obtain ⟨z9, hz9⟩ : ∃ q, q = z7.setRow w.heap.size (cellsK 0) := ⟨_, rfl⟩
          rw [← hz9] at b9 hS9 ⊢
          clear hz9 bz
          refine hK.out _ _ hS9 (fun hHeld => ?_)
          clear hK K
          try simp only [Act.put, List.getElem_toArray, List.getElem_cons_succ, List.getElem_cons_zero, List.setIfInBounds_toArray, List.set_cons_succ, List.set_cons_zero]
          refine wpAnyH_take (i := 5) (oi := _) (v := .bool false) rfl (by kernel_rfl) (by kernel_rfl) (by kernel_rfl) (fun _ _ _ h => h) (Or.inl ⟨by rfl, fun w' hSw => by go_simp⟩) hHeld ?_
          try simp only [Act.put, List.getElem_toArray, List.getElem_cons_succ, List.getElem_cons_zero, List.setIfInBounds_toArray, List.set_cons_succ, List.set_cons_zero]
          refine wpAnyH_done (by kernel_rfl) ?_ _
          simp only [Exit.then]
          go_wp2_with fail
          simp only [Exit.noGoto]
          refine bodyPost_ret (v := .tuple #[.int .i64 0, .agg (cellsK 0), .bool false]) ?_ rfl ⟨rfl, b9⟩
          exact results_slot_cell_slot (p := 3) (q := 2) (r := 4) (ty := 36) Tryd.results31 _ _ w.heap.size 36 _ _ rfl hHeld Tryd.underlying36 rfl (by kernel_rfl)
        · go_simp
          refine hK.out _ _ hHeld (fun hHeld => ?_)
          clear hK K
          try simp only [Act.put, List.getElem_toArray, List.getElem_cons_succ, List.getElem_cons_zero, List.setIfInBounds_toArray, List.set_cons_succ, List.set_cons_zero]
          refine wpAnyH_ready (rs := [2, 4]) (by kernel_rfl) (by simp) ?_
          refine AllReadyH.cons (o := _) rfl (fun K hK => ?_) (AllReadyH.cons (o := _) rfl (fun K hK => ?_) AllReadyH.nil)
          · go_simp
            refine hK.out _ _ hHeld (fun hHeld => ?_)
            clear hK K
            try simp only [Act.put, List.getElem_toArray, List.getElem_cons_succ, List.getElem_cons_zero, List.setIfInBounds_toArray, List.set_cons_succ, List.set_cons_zero]
            refine wpAnyH_ready (rs := [4]) (by kernel_rfl) (by simp) ?_
            refine AllReadyH.cons (o := _) rfl (fun K hK => ?_) AllReadyH.nil
            have b9 := below_setRow bz (Nat.le_refl w.heap.size) (cellsK 0)
            have hS9 := hHeld.setRow (cellsK 0)
            refine step_row rfl 36 (.tmp 3) (.tmp 22) rfl w.heap.size (cellsK 0) rfl rfl 36 (cellsK 0) (by exact hHeld) (by kernel_rfl) rfl (cells_one _) ?_
            obtain ⟨z9, hz9⟩ : ∃ q, q = z7.setRow w.heap.size (cellsK 0) := ⟨_, rfl⟩
            rw [← hz9] at b9 hS9 ⊢
            clear hz9 bz
            refine hK.out _ _ hS9 (fun hHeld => ?_)
            clear hK K
            try simp only [Act.put, List.getElem_toArray, List.getElem_cons_succ, List.getElem_cons_zero, List.setIfInBounds_toArray, List.set_cons_succ, List.set_cons_zero]
            refine wpAnyH_take (i := 5) (oi := _) (v := .bool false) rfl (by kernel_rfl) (by kernel_rfl) (by kernel_rfl) (fun _ _ _ h => h) (Or.inl ⟨by rfl, fun w' hSw => by go_simp⟩) hHeld ?_
            try simp only [Act.put, List.getElem_toArray, List.getElem_cons_succ, List.getElem_cons_zero, List.setIfInBounds_toArray, List.set_cons_succ, List.set_cons_zero]
            refine wpAnyH_done (by kernel_rfl) ?_ _
            simp only [Exit.then]
            go_wp2_with fail
            simp only [Exit.noGoto]
            refine bodyPost_ret (v := .tuple #[.int .i64 0, .agg (cellsK 0), .bool false]) ?_ rfl ⟨rfl, b9⟩
            exact results_slot_cell_slot (p := 3) (q := 2) (r := 4) (ty := 36) Tryd.results31 _ _ w.heap.size 36 _ _ rfl hHeld Tryd.underlying36 rfl (by kernel_rfl)
          · have b9 := below_setRow bz (Nat.le_refl w.heap.size) (cellsK 0)
            have hS9 := hHeld.setRow (cellsK 0)
            refine step_row rfl 36 (.tmp 3) (.tmp 22) rfl w.heap.size (cellsK 0) rfl rfl 36 (cellsK 0) (by exact hHeld) (by kernel_rfl) rfl (cells_one _) ?_
            obtain ⟨z9, hz9⟩ : ∃ q, q = z7.setRow w.heap.size (cellsK 0) := ⟨_, rfl⟩
            rw [← hz9] at b9 hS9 ⊢
            clear hz9 bz
            refine hK.out _ _ hS9 (fun hHeld => ?_)
            clear hK K
            try simp only [Act.put, List.getElem_toArray, List.getElem_cons_succ, List.getElem_cons_zero, List.setIfInBounds_toArray, List.set_cons_succ, List.set_cons_zero]
            refine wpAnyH_take (i := 2) (oi := _) (v := .bool false) rfl (by kernel_rfl) (by kernel_rfl) (by kernel_rfl) (fun _ _ _ h => h) (Or.inl ⟨by rfl, fun w' hSw => by go_simp⟩) hHeld ?_
            try simp only [Act.put, List.getElem_toArray, List.getElem_cons_succ, List.getElem_cons_zero, List.setIfInBounds_toArray, List.set_cons_succ, List.set_cons_zero]
            refine wpAnyH_take (i := 5) (oi := _) (v := .bool false) rfl (by kernel_rfl) (by kernel_rfl) (by kernel_rfl) (fun _ _ _ h => h) (Or.inl ⟨by rfl, fun w' hSw => by go_simp⟩) hHeld ?_
            try simp only [Act.put, List.getElem_toArray, List.getElem_cons_succ, List.getElem_cons_zero, List.setIfInBounds_toArray, List.set_cons_succ, List.set_cons_zero]
            refine wpAnyH_done (by kernel_rfl) ?_ _
            simp only [Exit.then]
            go_wp2_with fail
            simp only [Exit.noGoto]
            refine bodyPost_ret (v := .tuple #[.int .i64 0, .agg (cellsK 0), .bool false]) ?_ rfl ⟨rfl, b9⟩
            exact results_slot_cell_slot (p := 3) (q := 2) (r := 4) (ty := 36) Tryd.results31 _ _ w.heap.size 36 _ _ rfl hHeld Tryd.underlying36 rfl (by kernel_rfl)
      · go_simp
        refine hK.out _ _ hHeld (fun hHeld => ?_)
        clear hK K
        try simp only [Act.put, List.getElem_toArray, List.getElem_cons_succ, List.getElem_cons_zero, List.setIfInBounds_toArray, List.set_cons_succ, List.set_cons_zero]
        refine wpAnyH_ready (rs := [1, 3]) (by kernel_rfl) (by simp) ?_
        refine AllReadyH.cons (o := _) rfl (fun K hK => ?_) (AllReadyH.cons (o := _) rfl (fun K hK => ?_) AllReadyH.nil)
        · refine step_load rfl 36 _ rfl (w.heap.size) rfl (cellsK 0) 36 _ (by exact hHeld) Tryd.underlying36 rfl (by kernel_rfl) ?_
          refine hK.out _ _ hHeld (fun hHeld => ?_)
          clear hK K
          try simp only [Act.put, List.getElem_toArray, List.getElem_cons_succ, List.getElem_cons_zero, List.setIfInBounds_toArray, List.set_cons_succ, List.set_cons_zero]
          refine wpAnyH_take (i := 3) (oi := _) (v := .int .i64 0) rfl (by kernel_rfl) (by kernel_rfl) (by kernel_rfl) (fun _ _ _ h => h) (Or.inl ⟨by rfl, fun w' hSw => by go_simp⟩) hHeld ?_
          try simp only [Act.put, List.getElem_toArray, List.getElem_cons_succ, List.getElem_cons_zero, List.setIfInBounds_toArray, List.set_cons_succ, List.set_cons_zero]
          refine wpAnyH_ready (rs := [4]) (by kernel_rfl) (by simp) ?_
          refine AllReadyH.cons (o := _) rfl (fun K hK => ?_) AllReadyH.nil
          have b9 := below_setRow bz (Nat.le_refl w.heap.size) (cellsK 0)
          have hS9 := hHeld.setRow (cellsK 0)
          refine step_row rfl 36 (.tmp 3) (.tmp 22) rfl w.heap.size (cellsK 0) rfl rfl 36 (cellsK 0) (by exact hHeld) (by kernel_rfl) rfl (cells_one _) ?_
          obtain ⟨z9, hz9⟩ : ∃ q, q = z7.setRow w.heap.size (cellsK 0) := ⟨_, rfl⟩
          rw [← hz9] at b9 hS9 ⊢
          clear hz9 bz
          refine hK.out _ _ hS9 (fun hHeld => ?_)
          clear hK K
          try simp only [Act.put, List.getElem_toArray, List.getElem_cons_succ, List.getElem_cons_zero, List.setIfInBounds_toArray, List.set_cons_succ, List.set_cons_zero]
          refine wpAnyH_take (i := 5) (oi := _) (v := .bool false) rfl (by kernel_rfl) (by kernel_rfl) (by kernel_rfl) (fun _ _ _ h => h) (Or.inl ⟨by rfl, fun w' hSw => by go_simp⟩) hHeld ?_
          try simp only [Act.put, List.getElem_toArray, List.getElem_cons_succ, List.getElem_cons_zero, List.setIfInBounds_toArray, List.set_cons_succ, List.set_cons_zero]
          refine wpAnyH_done (by kernel_rfl) ?_ _
          simp only [Exit.then]
          go_wp2_with fail
          simp only [Exit.noGoto]
          refine bodyPost_ret (v := .tuple #[.int .i64 0, .agg (cellsK 0), .bool false]) ?_ rfl ⟨rfl, b9⟩
          exact results_slot_cell_slot (p := 3) (q := 2) (r := 4) (ty := 36) Tryd.results31 _ _ w.heap.size 36 _ _ rfl hHeld Tryd.underlying36 rfl (by kernel_rfl)
        · go_simp
          refine hK.out _ _ hHeld (fun hHeld => ?_)
          clear hK K
          try simp only [Act.put, List.getElem_toArray, List.getElem_cons_succ, List.getElem_cons_zero, List.setIfInBounds_toArray, List.set_cons_succ, List.set_cons_zero]
          refine wpAnyH_ready (rs := [1]) (by kernel_rfl) (by simp) ?_
          refine AllReadyH.cons (o := _) rfl (fun K hK => ?_) AllReadyH.nil
          refine step_load rfl 36 _ rfl (w.heap.size) rfl (cellsK 0) 36 _ (by exact hHeld) Tryd.underlying36 rfl (by kernel_rfl) ?_
          refine hK.out _ _ hHeld (fun hHeld => ?_)
          clear hK K
          try simp only [Act.put, List.getElem_toArray, List.getElem_cons_succ, List.getElem_cons_zero, List.setIfInBounds_toArray, List.set_cons_succ, List.set_cons_zero]
          refine wpAnyH_ready (rs := [4]) (by kernel_rfl) (by simp) ?_
          refine AllReadyH.cons (o := _) rfl (fun K hK => ?_) AllReadyH.nil
          have b9 := below_setRow bz (Nat.le_refl w.heap.size) (cellsK 0)
          have hS9 := hHeld.setRow (cellsK 0)
          refine step_row rfl 36 (.tmp 3) (.tmp 22) rfl w.heap.size (cellsK 0) rfl rfl 36 (cellsK 0) (by exact hHeld) (by kernel_rfl) rfl (cells_one _) ?_
          obtain ⟨z9, hz9⟩ : ∃ q, q = z7.setRow w.heap.size (cellsK 0) := ⟨_, rfl⟩
          rw [← hz9] at b9 hS9 ⊢
          clear hz9 bz
          refine hK.out _ _ hS9 (fun hHeld => ?_)
          clear hK K
          try simp only [Act.put, List.getElem_toArray, List.getElem_cons_succ, List.getElem_cons_zero, List.setIfInBounds_toArray, List.set_cons_succ, List.set_cons_zero]
          refine wpAnyH_take (i := 5) (oi := _) (v := .bool false) rfl (by kernel_rfl) (by kernel_rfl) (by kernel_rfl) (fun _ _ _ h => h) (Or.inl ⟨by rfl, fun w' hSw => by go_simp⟩) hHeld ?_
          try simp only [Act.put, List.getElem_toArray, List.getElem_cons_succ, List.getElem_cons_zero, List.setIfInBounds_toArray, List.set_cons_succ, List.set_cons_zero]
          refine wpAnyH_done (by kernel_rfl) ?_ _
          simp only [Exit.then]
          go_wp2_with fail
          simp only [Exit.noGoto]
          refine bodyPost_ret (v := .tuple #[.int .i64 0, .agg (cellsK 0), .bool false]) ?_ rfl ⟨rfl, b9⟩
          exact results_slot_cell_slot (p := 3) (q := 2) (r := 4) (ty := 36) Tryd.results31 _ _ w.heap.size 36 _ _ rfl hHeld Tryd.underlying36 rfl (by kernel_rfl)
      · go_simp
        refine hK.out _ _ hHeld (fun hHeld => ?_)
        clear hK K
        try simp only [Act.put, List.getElem_toArray, List.getElem_cons_succ, List.getElem_cons_zero, List.setIfInBounds_toArray, List.set_cons_succ, List.set_cons_zero]
        refine wpAnyH_ready (rs := [1, 2]) (by kernel_rfl) (by simp) ?_
        refine AllReadyH.cons (o := _) rfl (fun K hK => ?_) (AllReadyH.cons (o := _) rfl (fun K hK => ?_) AllReadyH.nil)
        · refine step_load rfl 36 _ rfl (w.heap.size) rfl (cellsK 0) 36 _ (by exact hHeld) Tryd.underlying36 rfl (by kernel_rfl) ?_
          refine hK.out _ _ hHeld (fun hHeld => ?_)
          clear hK K
          try simp only [Act.put, List.getElem_toArray, List.getElem_cons_succ, List.getElem_cons_zero, List.setIfInBounds_toArray, List.set_cons_succ, List.set_cons_zero]
          refine wpAnyH_ready (rs := [2, 4]) (by kernel_rfl) (by simp) ?_
          refine AllReadyH.cons (o := _) rfl (fun K hK => ?_) (AllReadyH.cons (o := _) rfl (fun K hK => ?_) AllReadyH.nil)
          · go_simp
            refine hK.out _ _ hHeld (fun hHeld => ?_)
            clear hK K
            try simp only [Act.put, List.getElem_toArray, List.getElem_cons_succ, List.getElem_cons_zero, List.setIfInBounds_toArray, List.set_cons_succ, List.set_cons_zero]
            refine wpAnyH_ready (rs := [4]) (by kernel_rfl) (by simp) ?_
            refine AllReadyH.cons (o := _) rfl (fun K hK => ?_) AllReadyH.nil
            have b9 := below_setRow bz (Nat.le_refl w.heap.size) (cellsK 0)
            have hS9 := hHeld.setRow (cellsK 0)
            refine step_row rfl 36 (.tmp 3) (.tmp 22) rfl w.heap.size (cellsK 0) rfl rfl 36 (cellsK 0) (by exact hHeld) (by kernel_rfl) rfl (cells_one _) ?_
            obtain ⟨z9, hz9⟩ : ∃ q, q = z7.setRow w.heap.size (cellsK 0) := ⟨_, rfl⟩
            rw [← hz9] at b9 hS9 ⊢
            clear hz9 bz
            refine hK.out _ _ hS9 (fun hHeld => ?_)
            clear hK K
            try simp only [Act.put, List.getElem_toArray, List.getElem_cons_succ, List.getElem_cons_zero, List.setIfInBounds_toArray, List.set_cons_succ, List.set_cons_zero]
            refine wpAnyH_take (i := 5) (oi := _) (v := .bool false) rfl (by kernel_rfl) (by kernel_rfl) (by kernel_rfl) (fun _ _ _ h => h) (Or.inl ⟨by rfl, fun w' hSw => by go_simp⟩) hHeld ?_
            try simp only [Act.put, List.getElem_toArray, List.getElem_cons_succ, List.getElem_cons_zero, List.setIfInBounds_toArray, List.set_cons_succ, List.set_cons_zero]
            refine wpAnyH_done (by kernel_rfl) ?_ _
            simp only [Exit.then]
            go_wp2_with fail
            simp only [Exit.noGoto]
            refine bodyPost_ret (v := .tuple #[.int .i64 0, .agg (cellsK 0), .bool false]) ?_ rfl ⟨rfl, b9⟩
            exact results_slot_cell_slot (p := 3) (q := 2) (r := 4) (ty := 36) Tryd.results31 _ _ w.heap.size 36 _ _ rfl hHeld Tryd.underlying36 rfl (by kernel_rfl)
          · have b9 := below_setRow bz (Nat.le_refl w.heap.size) (cellsK 0)
            have hS9 := hHeld.setRow (cellsK 0)
            refine step_row rfl 36 (.tmp 3) (.tmp 22) rfl w.heap.size (cellsK 0) rfl rfl 36 (cellsK 0) (by exact hHeld) (by kernel_rfl) rfl (cells_one _) ?_
            obtain ⟨z9, hz9⟩ : ∃ q, q = z7.setRow w.heap.size (cellsK 0) := ⟨_, rfl⟩
            rw [← hz9] at b9 hS9 ⊢
            clear hz9 bz
            refine hK.out _ _ hS9 (fun hHeld => ?_)
            clear hK K
            try simp only [Act.put, List.getElem_toArray, List.getElem_cons_succ, List.getElem_cons_zero, List.setIfInBounds_toArray, List.set_cons_succ, List.set_cons_zero]
            refine wpAnyH_take (i := 2) (oi := _) (v := .bool false) rfl (by kernel_rfl) (by kernel_rfl) (by kernel_rfl) (fun _ _ _ h => h) (Or.inl ⟨by rfl, fun w' hSw => by go_simp⟩) hHeld ?_
            try simp only [Act.put, List.getElem_toArray, List.getElem_cons_succ, List.getElem_cons_zero, List.setIfInBounds_toArray, List.set_cons_succ, List.set_cons_zero]
            refine wpAnyH_take (i := 5) (oi := _) (v := .bool false) rfl (by kernel_rfl) (by kernel_rfl) (by kernel_rfl) (fun _ _ _ h => h) (Or.inl ⟨by rfl, fun w' hSw => by go_simp⟩) hHeld ?_
            try simp only [Act.put, List.getElem_toArray, List.getElem_cons_succ, List.getElem_cons_zero, List.setIfInBounds_toArray, List.set_cons_succ, List.set_cons_zero]
            refine wpAnyH_done (by kernel_rfl) ?_ _
            simp only [Exit.then]
            go_wp2_with fail
            simp only [Exit.noGoto]
            refine bodyPost_ret (v := .tuple #[.int .i64 0, .agg (cellsK 0), .bool false]) ?_ rfl ⟨rfl, b9⟩
            exact results_slot_cell_slot (p := 3) (q := 2) (r := 4) (ty := 36) Tryd.results31 _ _ w.heap.size 36 _ _ rfl hHeld Tryd.underlying36 rfl (by kernel_rfl)
        · go_simp
          refine hK.out _ _ hHeld (fun hHeld => ?_)
          clear hK K
          try simp only [Act.put, List.getElem_toArray, List.getElem_cons_succ, List.getElem_cons_zero, List.setIfInBounds_toArray, List.set_cons_succ, List.set_cons_zero]
          refine wpAnyH_ready (rs := [1]) (by kernel_rfl) (by simp) ?_
          refine AllReadyH.cons (o := _) rfl (fun K hK => ?_) AllReadyH.nil
          refine step_load rfl 36 _ rfl (w.heap.size) rfl (cellsK 0) 36 _ (by exact hHeld) Tryd.underlying36 rfl (by kernel_rfl) ?_
          refine hK.out _ _ hHeld (fun hHeld => ?_)
          clear hK K
          try simp only [Act.put, List.getElem_toArray, List.getElem_cons_succ, List.getElem_cons_zero, List.setIfInBounds_toArray, List.set_cons_succ, List.set_cons_zero]
          refine wpAnyH_ready (rs := [4]) (by kernel_rfl) (by simp) ?_
          refine AllReadyH.cons (o := _) rfl (fun K hK => ?_) AllReadyH.nil
          have b9 := below_setRow bz (Nat.le_refl w.heap.size) (cellsK 0)
          have hS9 := hHeld.setRow (cellsK 0)
          refine step_row rfl 36 (.tmp 3) (.tmp 22) rfl w.heap.size (cellsK 0) rfl rfl 36 (cellsK 0) (by exact hHeld) (by kernel_rfl) rfl (cells_one _) ?_
          obtain ⟨z9, hz9⟩ : ∃ q, q = z7.setRow w.heap.size (cellsK 0) := ⟨_, rfl⟩
          rw [← hz9] at b9 hS9 ⊢
          clear hz9 bz
          refine hK.out _ _ hS9 (fun hHeld => ?_)
          clear hK K
          try simp only [Act.put, List.getElem_toArray, List.getElem_cons_succ, List.getElem_cons_zero, List.setIfInBounds_toArray, List.set_cons_succ, List.set_cons_zero]
          refine wpAnyH_take (i := 5) (oi := _) (v := .bool false) rfl (by kernel_rfl) (by kernel_rfl) (by kernel_rfl) (fun _ _ _ h => h) (Or.inl ⟨by rfl, fun w' hSw => by go_simp⟩) hHeld ?_
          try simp only [Act.put, List.getElem_toArray, List.getElem_cons_succ, List.getElem_cons_zero, List.setIfInBounds_toArray, List.set_cons_succ, List.set_cons_zero]
          refine wpAnyH_done (by kernel_rfl) ?_ _
          simp only [Exit.then]
          go_wp2_with fail
          simp only [Exit.noGoto]
          refine bodyPost_ret (v := .tuple #[.int .i64 0, .agg (cellsK 0), .bool false]) ?_ rfl ⟨rfl, b9⟩
          exact results_slot_cell_slot (p := 3) (q := 2) (r := 4) (ty := 36) Tryd.results31 _ _ w.heap.size 36 _ _ rfl hHeld Tryd.underlying36 rfl (by kernel_rfl)
    · intro k v w5 cnt3 hmem hlt5 hN hO hen
      obtain ⟨k0, hk0, hkv⟩ := List.mem_map.1 hmem
      simp only [Prod.mk.injEq] at hkv
      obtain ⟨rfl, rfl⟩ := hkv
      have hb6 : Below w.heap.size w w5 := by
        rcases hO with h | h
        · exact hb5.trans (h.below (by omega))
        · exact hb5.trans ((Below.drew (Below.refl _ wr)).trans (h.below (by omega)))
      have X5 : Bk w5 w.heap.size (cellsK 0) 36 := by
        rcases hO with h | h
        · exact h.bk X4 (by omega)
        · exact h.bk (show Bk wr.drew w.heap.size (cellsK 0) 36 from X4) (by omega)
      have XS := Bk.new w5 (cellsK 0) 36
      have X6 := X5.alloc (.cells (cellsK 0) 36)
      have hs5 := hb6.size
      have l5 := X5.lt
      obtain ⟨z6, hz6⟩ : ∃ q, q = (w5.alloc (.cells (cellsK 0) 36)).setRow w5.heap.size (cellsK k0) := ⟨_, rfl⟩
      have b56 : Below w5.heap.size w5 z6 := by rw [hz6]; exact below_setRow ((Below.refl _ _).alloc (Nat.le_refl _) _) (Nat.le_refl _) _
      have b6 : Below w.heap.size w z6 := hb6.trans (b56.mono hs5)
      have Z6 : Bk z6 w5.heap.size (cellsK k0) 36 := by rw [hz6]; exact XS.setRow _
      have X7 : Bk z6 w.heap.size (cellsK 0) 36 := X5.keep b56
      have R7 : name k0 ≠ l → Rg z6 b rr iV shapesL (fun (k : Int) (v : Value) => name k ≠ l) cnt3 := fun h => (hN h).keep b56 (hN h).lt.1 (hN h).lt.2
      clear X5 hN hO hb6 hb5 hrg2 X4 X6 b56
      have HR7 := Lib.hid R7
      clear R7
      have hnl := name_list hk0
      by_cases hc : name k0 = l
      · have hcmp : ((nameB k0).toList == l) = true := by rw [hnl, hc]; simp
        have hfd := find_at hk0 hc
        have hkk := HKK.out
        have hbb := HBB.out
        rw [hfd] at hkk hbb
        simp only [Option.getD_some, Option.isSome_some] at hkk hbb
        have hkk2 := hkk.symm
        subst hkk2; subst hbb
        clear hfd hc hnl hkeys hmem
        go_wp2_with ((refine wpList_store_row rfl 36 _ _ rfl w5.heap.size (cellsK k0) rfl rfl _ _ (by exact XS) (by kernel_rfl) (by kernel_rfl) (by kernel_rfl) ?_); rw [← hz6]; clear hz6 XS; have z6c := Z6.cells; have z6l := Z6.lt; have ec : (cellsK k0)[0]? = some (.string (nameB k0)) := rfl)
        have hS0 : Bk z6.drew w5.heap.size (cellsK k0) 36 := Z6
        have X8 : Bk z6.drew w.heap.size (cellsK 0) 36 := X7
        have b8 : Below w.heap.size w z6.drew := Below.drew b6
        clear X7 b6 z6c z6l Z6
        refine wp_region_held_drew (S := fun w' => Bk w' w5.heap.size (cellsK k0) 36) (by kernel_rfl) hS0 (fun hHeld => ?_)
        clear hS0
        generalize z6.drew = z0 at *
        refine wpAnyH_take (i := 0) (oi := _) (v := iV k0) rfl (by kernel_rfl) (by kernel_rfl) (by kernel_rfl) (fun _ _ _ h => h) (Or.inl ⟨by rfl, fun w' hSw => by go_simp⟩) hHeld ?_
        try simp only [Act.put, List.getElem_toArray, List.getElem_cons_succ, List.getElem_cons_zero, List.setIfInBounds_toArray, List.set_cons_succ, List.set_cons_zero]
        refine wpAnyH_ready (rs := [1, 2]) (by kernel_rfl) (by simp) ?_
        refine AllReadyH.cons (o := _) rfl (fun K hK => ?_) (AllReadyH.cons (o := _) rfl (fun K hK => ?_) AllReadyH.nil)
        · refine step_load rfl 36 _ rfl (w5.heap.size) rfl (cellsK k0) 36 _ (by exact hHeld) Tryd.underlying36 rfl (by kernel_rfl) ?_
          refine hK.out _ _ hHeld (fun hHeld => ?_)
          clear hK K
          try simp only [Act.put, List.getElem_toArray, List.getElem_cons_succ, List.getElem_cons_zero, List.setIfInBounds_toArray, List.set_cons_succ, List.set_cons_zero]
          refine wpAnyH_take (i := 2) (oi := _) (v := iV k0) rfl (by kernel_rfl) (by kernel_rfl) (by kernel_rfl) (fun _ _ _ h => h) (Or.inl ⟨by rfl, fun w' hSw => by go_simp⟩) hHeld ?_
          try simp only [Act.put, List.getElem_toArray, List.getElem_cons_succ, List.getElem_cons_zero, List.setIfInBounds_toArray, List.set_cons_succ, List.set_cons_zero]
          refine wpAnyH_ready (rs := [3]) (by kernel_rfl) (by simp) ?_
          refine AllReadyH.cons (o := _) rfl (fun K hK => ?_) AllReadyH.nil
          have X9 := X8.setRow (cellsK k0)
          have b9 := below_setRow b8 (Nat.le_refl w.heap.size) (cellsK k0)
          have hS9 : Bk (z0.setRow w.heap.size (cellsK k0)) w5.heap.size (cellsK k0) 36 := hHeld.setRow_far (by omega) _
          refine step_row rfl 36 (.tmp 3) (.tmp 20) rfl w.heap.size (cellsK k0) rfl rfl 36 (cellsK 0) (by exact X8) (by kernel_rfl) rfl (cells_one _) ?_
          obtain ⟨z9, hz9⟩ : ∃ q, q = z0.setRow w.heap.size (cellsK k0) := ⟨_, rfl⟩
          rw [← hz9] at X9 b9 hS9 ⊢
          clear hz9 X8 b8
          refine hK.out _ _ hS9 (fun hHeld => ?_)
          clear hK K
          try simp only [Act.put, List.getElem_toArray, List.getElem_cons_succ, List.getElem_cons_zero, List.setIfInBounds_toArray, List.set_cons_succ, List.set_cons_zero]
          refine wpAnyH_take (i := 4) (oi := _) (v := .bool true) rfl (by kernel_rfl) (by kernel_rfl) (by kernel_rfl) (fun _ _ _ h => h) (Or.inl ⟨by rfl, fun w' hSw => by go_simp⟩) hHeld ?_
          try simp only [Act.put, List.getElem_toArray, List.getElem_cons_succ, List.getElem_cons_zero, List.setIfInBounds_toArray, List.set_cons_succ, List.set_cons_zero]
          refine wpAnyH_done (by kernel_rfl) ?_ _
          simp only [Exit.then]
          clear hHeld
          go_wp2_with fail
          have hS0 : Bk z9.drew w.heap.size (cellsK k0) 36 := X9
          have bz : Below w.heap.size w z9.drew := Below.drew b9
          refine wp_region_held_drew (S := fun w' => Bk w' w.heap.size (cellsK k0) 36) (by kernel_rfl) hS0 (fun hHeld => ?_)
          clear hS0
          generalize z9.drew = z7 at *
          refine wpAnyH_take (i := 0) (oi := _) (v := .int .i64 k0) rfl (by kernel_rfl) (by kernel_rfl) (by kernel_rfl) (fun _ _ _ h => h) (Or.inl ⟨by rfl, fun w' hSw => by go_simp⟩) hHeld ?_
          try simp only [Act.put, List.getElem_toArray, List.getElem_cons_succ, List.getElem_cons_zero, List.setIfInBounds_toArray, List.set_cons_succ, List.set_cons_zero]
          refine wpAnyH_ready (rs := [1, 2, 3]) (by kernel_rfl) (by simp) ?_
          refine AllReadyH.cons (o := _) rfl (fun K hK => ?_) (AllReadyH.cons (o := _) rfl (fun K hK => ?_) (AllReadyH.cons (o := _) rfl (fun K hK => ?_) AllReadyH.nil))
          · refine step_load rfl 36 _ rfl (w.heap.size) rfl (cellsK k0) 36 _ (by exact hHeld) Tryd.underlying36 rfl (by kernel_rfl) ?_
            refine hK.out _ _ hHeld (fun hHeld => ?_)
            clear hK K
            try simp only [Act.put, List.getElem_toArray, List.getElem_cons_succ, List.getElem_cons_zero, List.setIfInBounds_toArray, List.set_cons_succ, List.set_cons_zero]
            refine wpAnyH_ready (rs := [2, 3]) (by kernel_rfl) (by simp) ?_
            refine AllReadyH.cons (o := _) rfl (fun K hK => ?_) (AllReadyH.cons (o := _) rfl (fun K hK => ?_) AllReadyH.nil)
            · go_simp
              refine hK.out _ _ hHeld (fun hHeld => ?_)
              clear hK K
              try simp only [Act.put, List.getElem_toArray, List.getElem_cons_succ, List.getElem_cons_zero, List.setIfInBounds_toArray, List.set_cons_succ, List.set_cons_zero]
              refine wpAnyH_take (i := 3) (oi := _) (v := .int .i64 k0) rfl (by kernel_rfl) (by kernel_rfl) (by kernel_rfl) (fun _ _ _ h => h) (Or.inl ⟨by rfl, fun w' hSw => by go_simp⟩) hHeld ?_
              try simp only [Act.put, List.getElem_toArray, List.getElem_cons_succ, List.getElem_cons_zero, List.setIfInBounds_toArray, List.set_cons_succ, List.set_cons_zero]
              refine wpAnyH_ready (rs := [4]) (by kernel_rfl) (by simp) ?_
              refine AllReadyH.cons (o := _) rfl (fun K hK => ?_) AllReadyH.nil
              have b10 := below_setRow bz (Nat.le_refl w.heap.size) (cellsK k0)
              have hS9 := hHeld.setRow (cellsK k0)
              refine step_row rfl 36 (.tmp 3) (.tmp 22) rfl w.heap.size (cellsK k0) rfl rfl 36 (cellsK k0) (by exact hHeld) (by kernel_rfl) rfl (cells_one _) ?_
              obtain ⟨z10, hz9⟩ : ∃ q, q = z7.setRow w.heap.size (cellsK k0) := ⟨_, rfl⟩
              rw [← hz9] at b10 hS9 ⊢
              clear hz9 bz
              refine hK.out _ _ hS9 (fun hHeld => ?_)
              clear hK K
              try simp only [Act.put, List.getElem_toArray, List.getElem_cons_succ, List.getElem_cons_zero, List.setIfInBounds_toArray, List.set_cons_succ, List.set_cons_zero]
              refine wpAnyH_take (i := 5) (oi := _) (v := .bool true) rfl (by kernel_rfl) (by kernel_rfl) (by kernel_rfl) (fun _ _ _ h => h) (Or.inl ⟨by rfl, fun w' hSw => by go_simp⟩) hHeld ?_
              try simp only [Act.put, List.getElem_toArray, List.getElem_cons_succ, List.getElem_cons_zero, List.setIfInBounds_toArray, List.set_cons_succ, List.set_cons_zero]
              refine wpAnyH_done (by kernel_rfl) ?_ _
              simp only [Exit.then]
              go_wp2_with fail
              simp only [Exit.noGoto]
              refine bodyPost_ret (v := .tuple #[.int .i64 k0, .agg (cellsK k0), .bool true]) ?_ rfl ⟨rfl, b10⟩
              exact results_slot_cell_slot (p := 3) (q := 2) (r := 4) (ty := 36) Tryd.results31 _ _ w.heap.size 36 _ _ rfl hHeld Tryd.underlying36 rfl (by kernel_rfl)
            · go_simp
              refine hK.out _ _ hHeld (fun hHeld => ?_)
              clear hK K
              try simp only [Act.put, List.getElem_toArray, List.getElem_cons_succ, List.getElem_cons_zero, List.setIfInBounds_toArray, List.set_cons_succ, List.set_cons_zero]
              refine wpAnyH_ready (rs := [2, 4]) (by kernel_rfl) (by simp) ?_
              refine AllReadyH.cons (o := _) rfl (fun K hK => ?_) (AllReadyH.cons (o := _) rfl (fun K hK => ?_) AllReadyH.nil)
              · go_simp
                refine hK.out _ _ hHeld (fun hHeld => ?_)
                clear hK K
                try simp only [Act.put, List.getElem_toArray, List.getElem_cons_succ, List.getElem_cons_zero, List.setIfInBounds_toArray, List.set_cons_succ, List.set_cons_zero]
                refine wpAnyH_ready (rs := [4]) (by kernel_rfl) (by simp) ?_
                refine AllReadyH.cons (o := _) rfl (fun K hK => ?_) AllReadyH.nil
                have b10 := below_setRow bz (Nat.le_refl w.heap.size) (cellsK k0)
                have hS9 := hHeld.setRow (cellsK k0)
                refine step_row rfl 36 (.tmp 3) (.tmp 22) rfl w.heap.size (cellsK k0) rfl rfl 36 (cellsK k0) (by exact hHeld) (by kernel_rfl) rfl (cells_one _) ?_
                obtain ⟨z10, hz9⟩ : ∃ q, q = z7.setRow w.heap.size (cellsK k0) := ⟨_, rfl⟩
                rw [← hz9] at b10 hS9 ⊢
                clear hz9 bz
                refine hK.out _ _ hS9 (fun hHeld => ?_)
                clear hK K
                try simp only [Act.put, List.getElem_toArray, List.getElem_cons_succ, List.getElem_cons_zero, List.setIfInBounds_toArray, List.set_cons_succ, List.set_cons_zero]
                refine wpAnyH_take (i := 5) (oi := _) (v := .bool true) rfl (by kernel_rfl) (by kernel_rfl) (by kernel_rfl) (fun _ _ _ h => h) (Or.inl ⟨by rfl, fun w' hSw => by go_simp⟩) hHeld ?_
                try simp only [Act.put, List.getElem_toArray, List.getElem_cons_succ, List.getElem_cons_zero, List.setIfInBounds_toArray, List.set_cons_succ, List.set_cons_zero]
                refine wpAnyH_done (by kernel_rfl) ?_ _
                simp only [Exit.then]
                go_wp2_with fail
                simp only [Exit.noGoto]
                refine bodyPost_ret (v := .tuple #[.int .i64 k0, .agg (cellsK k0), .bool true]) ?_ rfl ⟨rfl, b10⟩
                exact results_slot_cell_slot (p := 3) (q := 2) (r := 4) (ty := 36) Tryd.results31 _ _ w.heap.size 36 _ _ rfl hHeld Tryd.underlying36 rfl (by kernel_rfl)
              · have b10 := below_setRow bz (Nat.le_refl w.heap.size) (cellsK k0)
                have hS9 := hHeld.setRow (cellsK k0)
                refine step_row rfl 36 (.tmp 3) (.tmp 22) rfl w.heap.size (cellsK k0) rfl rfl 36 (cellsK k0) (by exact hHeld) (by kernel_rfl) rfl (cells_one _) ?_
                obtain ⟨z10, hz9⟩ : ∃ q, q = z7.setRow w.heap.size (cellsK k0) := ⟨_, rfl⟩
                rw [← hz9] at b10 hS9 ⊢
                clear hz9 bz
                refine hK.out _ _ hS9 (fun hHeld => ?_)
                clear hK K
                try simp only [Act.put, List.getElem_toArray, List.getElem_cons_succ, List.getElem_cons_zero, List.setIfInBounds_toArray, List.set_cons_succ, List.set_cons_zero]
                refine wpAnyH_take (i := 2) (oi := _) (v := .bool true) rfl (by kernel_rfl) (by kernel_rfl) (by kernel_rfl) (fun _ _ _ h => h) (Or.inl ⟨by rfl, fun w' hSw => by go_simp⟩) hHeld ?_
                try simp only [Act.put, List.getElem_toArray, List.getElem_cons_succ, List.getElem_cons_zero, List.setIfInBounds_toArray, List.set_cons_succ, List.set_cons_zero]
                refine wpAnyH_take (i := 5) (oi := _) (v := .bool true) rfl (by kernel_rfl) (by kernel_rfl) (by kernel_rfl) (fun _ _ _ h => h) (Or.inl ⟨by rfl, fun w' hSw => by go_simp⟩) hHeld ?_
                try simp only [Act.put, List.getElem_toArray, List.getElem_cons_succ, List.getElem_cons_zero, List.setIfInBounds_toArray, List.set_cons_succ, List.set_cons_zero]
                refine wpAnyH_done (by kernel_rfl) ?_ _
                simp only [Exit.then]
                go_wp2_with fail
                simp only [Exit.noGoto]
                refine bodyPost_ret (v := .tuple #[.int .i64 k0, .agg (cellsK k0), .bool true]) ?_ rfl ⟨rfl, b10⟩
                exact results_slot_cell_slot (p := 3) (q := 2) (r := 4) (ty := 36) Tryd.results31 _ _ w.heap.size 36 _ _ rfl hHeld Tryd.underlying36 rfl (by kernel_rfl)
          · go_simp
            refine hK.out _ _ hHeld (fun hHeld => ?_)
            clear hK K
            try simp only [Act.put, List.getElem_toArray, List.getElem_cons_succ, List.getElem_cons_zero, List.setIfInBounds_toArray, List.set_cons_succ, List.set_cons_zero]
            refine wpAnyH_ready (rs := [1, 3]) (by kernel_rfl) (by simp) ?_
            refine AllReadyH.cons (o := _) rfl (fun K hK => ?_) (AllReadyH.cons (o := _) rfl (fun K hK => ?_) AllReadyH.nil)
            · refine step_load rfl 36 _ rfl (w.heap.size) rfl (cellsK k0) 36 _ (by exact hHeld) Tryd.underlying36 rfl (by kernel_rfl) ?_
              refine hK.out _ _ hHeld (fun hHeld => ?_)
              clear hK K
              try simp only [Act.put, List.getElem_toArray, List.getElem_cons_succ, List.getElem_cons_zero, List.setIfInBounds_toArray, List.set_cons_succ, List.set_cons_zero]
              refine wpAnyH_take (i := 3) (oi := _) (v := .int .i64 k0) rfl (by kernel_rfl) (by kernel_rfl) (by kernel_rfl) (fun _ _ _ h => h) (Or.inl ⟨by rfl, fun w' hSw => by go_simp⟩) hHeld ?_
              try simp only [Act.put, List.getElem_toArray, List.getElem_cons_succ, List.getElem_cons_zero, List.setIfInBounds_toArray, List.set_cons_succ, List.set_cons_zero]
              refine wpAnyH_ready (rs := [4]) (by kernel_rfl) (by simp) ?_
              refine AllReadyH.cons (o := _) rfl (fun K hK => ?_) AllReadyH.nil
              have b10 := below_setRow bz (Nat.le_refl w.heap.size) (cellsK k0)
              have hS9 := hHeld.setRow (cellsK k0)
              refine step_row rfl 36 (.tmp 3) (.tmp 22) rfl w.heap.size (cellsK k0) rfl rfl 36 (cellsK k0) (by exact hHeld) (by kernel_rfl) rfl (cells_one _) ?_
              obtain ⟨z10, hz9⟩ : ∃ q, q = z7.setRow w.heap.size (cellsK k0) := ⟨_, rfl⟩
              rw [← hz9] at b10 hS9 ⊢
              clear hz9 bz
              refine hK.out _ _ hS9 (fun hHeld => ?_)
              clear hK K
              try simp only [Act.put, List.getElem_toArray, List.getElem_cons_succ, List.getElem_cons_zero, List.setIfInBounds_toArray, List.set_cons_succ, List.set_cons_zero]
              refine wpAnyH_take (i := 5) (oi := _) (v := .bool true) rfl (by kernel_rfl) (by kernel_rfl) (by kernel_rfl) (fun _ _ _ h => h) (Or.inl ⟨by rfl, fun w' hSw => by go_simp⟩) hHeld ?_
              try simp only [Act.put, List.getElem_toArray, List.getElem_cons_succ, List.getElem_cons_zero, List.setIfInBounds_toArray, List.set_cons_succ, List.set_cons_zero]
              refine wpAnyH_done (by kernel_rfl) ?_ _
              simp only [Exit.then]
              go_wp2_with fail
              simp only [Exit.noGoto]
              refine bodyPost_ret (v := .tuple #[.int .i64 k0, .agg (cellsK k0), .bool true]) ?_ rfl ⟨rfl, b10⟩
              exact results_slot_cell_slot (p := 3) (q := 2) (r := 4) (ty := 36) Tryd.results31 _ _ w.heap.size 36 _ _ rfl hHeld Tryd.underlying36 rfl (by kernel_rfl)
            · go_simp
              refine hK.out _ _ hHeld (fun hHeld => ?_)
              clear hK K
              try simp only [Act.put, List.getElem_toArray, List.getElem_cons_succ, List.getElem_cons_zero, List.setIfInBounds_toArray, List.set_cons_succ, List.set_cons_zero]
              refine wpAnyH_ready (rs := [1]) (by kernel_rfl) (by simp) ?_
              refine AllReadyH.cons (o := _) rfl (fun K hK => ?_) AllReadyH.nil
              refine step_load rfl 36 _ rfl (w.heap.size) rfl (cellsK k0) 36 _ (by exact hHeld) Tryd.underlying36 rfl (by kernel_rfl) ?_
              refine hK.out _ _ hHeld (fun hHeld => ?_)
              clear hK K
              try simp only [Act.put, List.getElem_toArray, List.getElem_cons_succ, List.getElem_cons_zero, List.setIfInBounds_toArray, List.set_cons_succ, List.set_cons_zero]
              refine wpAnyH_ready (rs := [4]) (by kernel_rfl) (by simp) ?_
              refine AllReadyH.cons (o := _) rfl (fun K hK => ?_) AllReadyH.nil
              have b10 := below_setRow bz (Nat.le_refl w.heap.size) (cellsK k0)
              have hS9 := hHeld.setRow (cellsK k0)
              refine step_row rfl 36 (.tmp 3) (.tmp 22) rfl w.heap.size (cellsK k0) rfl rfl 36 (cellsK k0) (by exact hHeld) (by kernel_rfl) rfl (cells_one _) ?_
              obtain ⟨z10, hz9⟩ : ∃ q, q = z7.setRow w.heap.size (cellsK k0) := ⟨_, rfl⟩
              rw [← hz9] at b10 hS9 ⊢
              clear hz9 bz
              refine hK.out _ _ hS9 (fun hHeld => ?_)
              clear hK K
              try simp only [Act.put, List.getElem_toArray, List.getElem_cons_succ, List.getElem_cons_zero, List.setIfInBounds_toArray, List.set_cons_succ, List.set_cons_zero]
              refine wpAnyH_take (i := 5) (oi := _) (v := .bool true) rfl (by kernel_rfl) (by kernel_rfl) (by kernel_rfl) (fun _ _ _ h => h) (Or.inl ⟨by rfl, fun w' hSw => by go_simp⟩) hHeld ?_
              try simp only [Act.put, List.getElem_toArray, List.getElem_cons_succ, List.getElem_cons_zero, List.setIfInBounds_toArray, List.set_cons_succ, List.set_cons_zero]
              refine wpAnyH_done (by kernel_rfl) ?_ _
              simp only [Exit.then]
              go_wp2_with fail
              simp only [Exit.noGoto]
              refine bodyPost_ret (v := .tuple #[.int .i64 k0, .agg (cellsK k0), .bool true]) ?_ rfl ⟨rfl, b10⟩
              exact results_slot_cell_slot (p := 3) (q := 2) (r := 4) (ty := 36) Tryd.results31 _ _ w.heap.size 36 _ _ rfl hHeld Tryd.underlying36 rfl (by kernel_rfl)
          · go_simp
            refine hK.out _ _ hHeld (fun hHeld => ?_)
            clear hK K
            try simp only [Act.put, List.getElem_toArray, List.getElem_cons_succ, List.getElem_cons_zero, List.setIfInBounds_toArray, List.set_cons_succ, List.set_cons_zero]
            refine wpAnyH_ready (rs := [1, 2]) (by kernel_rfl) (by simp) ?_
            refine AllReadyH.cons (o := _) rfl (fun K hK => ?_) (AllReadyH.cons (o := _) rfl (fun K hK => ?_) AllReadyH.nil)
            · refine step_load rfl 36 _ rfl (w.heap.size) rfl (cellsK k0) 36 _ (by exact hHeld) Tryd.underlying36 rfl (by kernel_rfl) ?_
              refine hK.out _ _ hHeld (fun hHeld => ?_)
              clear hK K
              try simp only [Act.put, List.getElem_toArray, List.getElem_cons_succ, List.getElem_cons_zero, List.setIfInBounds_toArray, List.set_cons_succ, List.set_cons_zero]
              refine wpAnyH_ready (rs := [2, 4]) (by kernel_rfl) (by simp) ?_
              refine AllReadyH.cons (o := _) rfl (fun K hK => ?_) (AllReadyH.cons (o := _) rfl (fun K hK => ?_) AllReadyH.nil)
              · go_simp
                refine hK.out _ _ hHeld (fun hHeld => ?_)
                clear hK K
                try simp only [Act.put, List.getElem_toArray, List.getElem_cons_succ, List.getElem_cons_zero, List.setIfInBounds_toArray, List.set_cons_succ, List.set_cons_zero]
                refine wpAnyH_ready (rs := [4]) (by kernel_rfl) (by simp) ?_
                refine AllReadyH.cons (o := _) rfl (fun K hK => ?_) AllReadyH.nil
                have b10 := below_setRow bz (Nat.le_refl w.heap.size) (cellsK k0)
                have hS9 := hHeld.setRow (cellsK k0)
                refine step_row rfl 36 (.tmp 3) (.tmp 22) rfl w.heap.size (cellsK k0) rfl rfl 36 (cellsK k0) (by exact hHeld) (by kernel_rfl) rfl (cells_one _) ?_
                obtain ⟨z10, hz9⟩ : ∃ q, q = z7.setRow w.heap.size (cellsK k0) := ⟨_, rfl⟩
                rw [← hz9] at b10 hS9 ⊢
                clear hz9 bz
                refine hK.out _ _ hS9 (fun hHeld => ?_)
                clear hK K
                try simp only [Act.put, List.getElem_toArray, List.getElem_cons_succ, List.getElem_cons_zero, List.setIfInBounds_toArray, List.set_cons_succ, List.set_cons_zero]
                refine wpAnyH_take (i := 5) (oi := _) (v := .bool true) rfl (by kernel_rfl) (by kernel_rfl) (by kernel_rfl) (fun _ _ _ h => h) (Or.inl ⟨by rfl, fun w' hSw => by go_simp⟩) hHeld ?_
                try simp only [Act.put, List.getElem_toArray, List.getElem_cons_succ, List.getElem_cons_zero, List.setIfInBounds_toArray, List.set_cons_succ, List.set_cons_zero]
                refine wpAnyH_done (by kernel_rfl) ?_ _
                simp only [Exit.then]
                go_wp2_with fail
                simp only [Exit.noGoto]
                refine bodyPost_ret (v := .tuple #[.int .i64 k0, .agg (cellsK k0), .bool true]) ?_ rfl ⟨rfl, b10⟩
                exact results_slot_cell_slot (p := 3) (q := 2) (r := 4) (ty := 36) Tryd.results31 _ _ w.heap.size 36 _ _ rfl hHeld Tryd.underlying36 rfl (by kernel_rfl)
              · have b10 := below_setRow bz (Nat.le_refl w.heap.size) (cellsK k0)
                have hS9 := hHeld.setRow (cellsK k0)
                refine step_row rfl 36 (.tmp 3) (.tmp 22) rfl w.heap.size (cellsK k0) rfl rfl 36 (cellsK k0) (by exact hHeld) (by kernel_rfl) rfl (cells_one _) ?_
                obtain ⟨z10, hz9⟩ : ∃ q, q = z7.setRow w.heap.size (cellsK k0) := ⟨_, rfl⟩
                rw [← hz9] at b10 hS9 ⊢
                clear hz9 bz
                refine hK.out _ _ hS9 (fun hHeld => ?_)
                clear hK K
                try simp only [Act.put, List.getElem_toArray, List.getElem_cons_succ, List.getElem_cons_zero, List.setIfInBounds_toArray, List.set_cons_succ, List.set_cons_zero]
                refine wpAnyH_take (i := 2) (oi := _) (v := .bool true) rfl (by kernel_rfl) (by kernel_rfl) (by kernel_rfl) (fun _ _ _ h => h) (Or.inl ⟨by rfl, fun w' hSw => by go_simp⟩) hHeld ?_
                try simp only [Act.put, List.getElem_toArray, List.getElem_cons_succ, List.getElem_cons_zero, List.setIfInBounds_toArray, List.set_cons_succ, List.set_cons_zero]
                refine wpAnyH_take (i := 5) (oi := _) (v := .bool true) rfl (by kernel_rfl) (by kernel_rfl) (by kernel_rfl) (fun _ _ _ h => h) (Or.inl ⟨by rfl, fun w' hSw => by go_simp⟩) hHeld ?_
                try simp only [Act.put, List.getElem_toArray, List.getElem_cons_succ, List.getElem_cons_zero, List.setIfInBounds_toArray, List.set_cons_succ, List.set_cons_zero]
                refine wpAnyH_done (by kernel_rfl) ?_ _
                simp only [Exit.then]
                go_wp2_with fail
                simp only [Exit.noGoto]
                refine bodyPost_ret (v := .tuple #[.int .i64 k0, .agg (cellsK k0), .bool true]) ?_ rfl ⟨rfl, b10⟩
                exact results_slot_cell_slot (p := 3) (q := 2) (r := 4) (ty := 36) Tryd.results31 _ _ w.heap.size 36 _ _ rfl hHeld Tryd.underlying36 rfl (by kernel_rfl)
            · go_simp
              refine hK.out _ _ hHeld (fun hHeld => ?_)
              clear hK K
              try simp only [Act.put, List.getElem_toArray, List.getElem_cons_succ, List.getElem_cons_zero, List.setIfInBounds_toArray, List.set_cons_succ, List.set_cons_zero]
              refine wpAnyH_ready (rs := [1]) (by kernel_rfl) (by simp) ?_
              refine AllReadyH.cons (o := _) rfl (fun K hK => ?_) AllReadyH.nil
              refine step_load rfl 36 _ rfl (w.heap.size) rfl (cellsK k0) 36 _ (by exact hHeld) Tryd.underlying36 rfl (by kernel_rfl) ?_
              refine hK.out _ _ hHeld (fun hHeld => ?_)
              clear hK K
              try simp only [Act.put, List.getElem_toArray, List.getElem_cons_succ, List.getElem_cons_zero, List.setIfInBounds_toArray, List.set_cons_succ, List.set_cons_zero]
              refine wpAnyH_ready (rs := [4]) (by kernel_rfl) (by simp) ?_
              refine AllReadyH.cons (o := _) rfl (fun K hK => ?_) AllReadyH.nil
              have b10 := below_setRow bz (Nat.le_refl w.heap.size) (cellsK k0)
              have hS9 := hHeld.setRow (cellsK k0)
              refine step_row rfl 36 (.tmp 3) (.tmp 22) rfl w.heap.size (cellsK k0) rfl rfl 36 (cellsK k0) (by exact hHeld) (by kernel_rfl) rfl (cells_one _) ?_
              obtain ⟨z10, hz9⟩ : ∃ q, q = z7.setRow w.heap.size (cellsK k0) := ⟨_, rfl⟩
              rw [← hz9] at b10 hS9 ⊢
              clear hz9 bz
              refine hK.out _ _ hS9 (fun hHeld => ?_)
              clear hK K
              try simp only [Act.put, List.getElem_toArray, List.getElem_cons_succ, List.getElem_cons_zero, List.setIfInBounds_toArray, List.set_cons_succ, List.set_cons_zero]
              refine wpAnyH_take (i := 5) (oi := _) (v := .bool true) rfl (by kernel_rfl) (by kernel_rfl) (by kernel_rfl) (fun _ _ _ h => h) (Or.inl ⟨by rfl, fun w' hSw => by go_simp⟩) hHeld ?_
              try simp only [Act.put, List.getElem_toArray, List.getElem_cons_succ, List.getElem_cons_zero, List.setIfInBounds_toArray, List.set_cons_succ, List.set_cons_zero]
              refine wpAnyH_done (by kernel_rfl) ?_ _
              simp only [Exit.then]
              go_wp2_with fail
              simp only [Exit.noGoto]
              refine bodyPost_ret (v := .tuple #[.int .i64 k0, .agg (cellsK k0), .bool true]) ?_ rfl ⟨rfl, b10⟩
              exact results_slot_cell_slot (p := 3) (q := 2) (r := 4) (ty := 36) Tryd.results31 _ _ w.heap.size 36 _ _ rfl hHeld Tryd.underlying36 rfl (by kernel_rfl)
        · go_simp
          refine hK.out _ _ hHeld (fun hHeld => ?_)
          clear hK K
          try simp only [Act.put, List.getElem_toArray, List.getElem_cons_succ, List.getElem_cons_zero, List.setIfInBounds_toArray, List.set_cons_succ, List.set_cons_zero]
          refine wpAnyH_ready (rs := [1]) (by kernel_rfl) (by simp) ?_
          refine AllReadyH.cons (o := _) rfl (fun K hK => ?_) AllReadyH.nil
          refine step_load rfl 36 _ rfl (w5.heap.size) rfl (cellsK k0) 36 _ (by exact hHeld) Tryd.underlying36 rfl (by kernel_rfl) ?_
          refine hK.out _ _ hHeld (fun hHeld => ?_)
          clear hK K
          try simp only [Act.put, List.getElem_toArray, List.getElem_cons_succ, List.getElem_cons_zero, List.setIfInBounds_toArray, List.set_cons_succ, List.set_cons_zero]
          refine wpAnyH_ready (rs := [3]) (by kernel_rfl) (by simp) ?_
          refine AllReadyH.cons (o := _) rfl (fun K hK => ?_) AllReadyH.nil
          have X9 := X8.setRow (cellsK k0)
          have b9 := below_setRow b8 (Nat.le_refl w.heap.size) (cellsK k0)
          have hS9 : Bk (z0.setRow w.heap.size (cellsK k0)) w5.heap.size (cellsK k0) 36 := hHeld.setRow_far (by omega) _
          refine step_row rfl 36 (.tmp 3) (.tmp 20) rfl w.heap.size (cellsK k0) rfl rfl 36 (cellsK 0) (by exact X8) (by kernel_rfl) rfl (cells_one _) ?_
          obtain ⟨z9, hz9⟩ : ∃ q, q = z0.setRow w.heap.size (cellsK k0) := ⟨_, rfl⟩
          rw [← hz9] at X9 b9 hS9 ⊢
          clear hz9 X8 b8
          refine hK.out _ _ hS9 (fun hHeld => ?_)
          clear hK K
          try simp only [Act.put, List.getElem_toArray, List.getElem_cons_succ, List.getElem_cons_zero, List.setIfInBounds_toArray, List.set_cons_succ, List.set_cons_zero]
          refine wpAnyH_take (i := 4) (oi := _) (v := .bool true) rfl (by kernel_rfl) (by kernel_rfl) (by kernel_rfl) (fun _ _ _ h => h) (Or.inl ⟨by rfl, fun w' hSw => by go_simp⟩) hHeld ?_
          try simp only [Act.put, List.getElem_toArray, List.getElem_cons_succ, List.getElem_cons_zero, List.setIfInBounds_toArray, List.set_cons_succ, List.set_cons_zero]
          refine wpAnyH_done (by kernel_rfl) ?_ _
          simp only [Exit.then]
          clear hHeld
          go_wp2_with fail
          have hS0 : Bk z9.drew w.heap.size (cellsK k0) 36 := X9
          have bz : Below w.heap.size w z9.drew := Below.drew b9
          refine wp_region_held_drew (S := fun w' => Bk w' w.heap.size (cellsK k0) 36) (by kernel_rfl) hS0 (fun hHeld => ?_)
          clear hS0
          generalize z9.drew = z7 at *
          refine wpAnyH_take (i := 0) (oi := _) (v := .int .i64 k0) rfl (by kernel_rfl) (by kernel_rfl) (by kernel_rfl) (fun _ _ _ h => h) (Or.inl ⟨by rfl, fun w' hSw => by go_simp⟩) hHeld ?_
          try simp only [Act.put, List.getElem_toArray, List.getElem_cons_succ, List.getElem_cons_zero, List.setIfInBounds_toArray, List.set_cons_succ, List.set_cons_zero]
          refine wpAnyH_ready (rs := [1, 2, 3]) (by kernel_rfl) (by simp) ?_
          refine AllReadyH.cons (o := _) rfl (fun K hK => ?_) (AllReadyH.cons (o := _) rfl (fun K hK => ?_) (AllReadyH.cons (o := _) rfl (fun K hK => ?_) AllReadyH.nil))
          · refine step_load rfl 36 _ rfl (w.heap.size) rfl (cellsK k0) 36 _ (by exact hHeld) Tryd.underlying36 rfl (by kernel_rfl) ?_
            refine hK.out _ _ hHeld (fun hHeld => ?_)
            clear hK K
            try simp only [Act.put, List.getElem_toArray, List.getElem_cons_succ, List.getElem_cons_zero, List.setIfInBounds_toArray, List.set_cons_succ, List.set_cons_zero]
            refine wpAnyH_ready (rs := [2, 3]) (by kernel_rfl) (by simp) ?_
            refine AllReadyH.cons (o := _) rfl (fun K hK => ?_) (AllReadyH.cons (o := _) rfl (fun K hK => ?_) AllReadyH.nil)
            · go_simp
              refine hK.out _ _ hHeld (fun hHeld => ?_)
              clear hK K
              try simp only [Act.put, List.getElem_toArray, List.getElem_cons_succ, List.getElem_cons_zero, List.setIfInBounds_toArray, List.set_cons_succ, List.set_cons_zero]
              refine wpAnyH_take (i := 3) (oi := _) (v := .int .i64 k0) rfl (by kernel_rfl) (by kernel_rfl) (by kernel_rfl) (fun _ _ _ h => h) (Or.inl ⟨by rfl, fun w' hSw => by go_simp⟩) hHeld ?_
              try simp only [Act.put, List.getElem_toArray, List.getElem_cons_succ, List.getElem_cons_zero, List.setIfInBounds_toArray, List.set_cons_succ, List.set_cons_zero]
              refine wpAnyH_ready (rs := [4]) (by kernel_rfl) (by simp) ?_
              refine AllReadyH.cons (o := _) rfl (fun K hK => ?_) AllReadyH.nil
              have b10 := below_setRow bz (Nat.le_refl w.heap.size) (cellsK k0)
              have hS9 := hHeld.setRow (cellsK k0)
              refine step_row rfl 36 (.tmp 3) (.tmp 22) rfl w.heap.size (cellsK k0) rfl rfl 36 (cellsK k0) (by exact hHeld) (by kernel_rfl) rfl (cells_one _) ?_
              obtain ⟨z10, hz9⟩ : ∃ q, q = z7.setRow w.heap.size (cellsK k0) := ⟨_, rfl⟩
              rw [← hz9] at b10 hS9 ⊢
              clear hz9 bz
              refine hK.out _ _ hS9 (fun hHeld => ?_)
              clear hK K
              try simp only [Act.put, List.getElem_toArray, List.getElem_cons_succ, List.getElem_cons_zero, List.setIfInBounds_toArray, List.set_cons_succ, List.set_cons_zero]
              refine wpAnyH_take (i := 5) (oi := _) (v := .bool true) rfl (by kernel_rfl) (by kernel_rfl) (by kernel_rfl) (fun _ _ _ h => h) (Or.inl ⟨by rfl, fun w' hSw => by go_simp⟩) hHeld ?_
              try simp only [Act.put, List.getElem_toArray, List.getElem_cons_succ, List.getElem_cons_zero, List.setIfInBounds_toArray, List.set_cons_succ, List.set_cons_zero]
              refine wpAnyH_done (by kernel_rfl) ?_ _
              simp only [Exit.then]
              go_wp2_with fail
              simp only [Exit.noGoto]
              refine bodyPost_ret (v := .tuple #[.int .i64 k0, .agg (cellsK k0), .bool true]) ?_ rfl ⟨rfl, b10⟩
              exact results_slot_cell_slot (p := 3) (q := 2) (r := 4) (ty := 36) Tryd.results31 _ _ w.heap.size 36 _ _ rfl hHeld Tryd.underlying36 rfl (by kernel_rfl)
            · go_simp
              refine hK.out _ _ hHeld (fun hHeld => ?_)
              clear hK K
              try simp only [Act.put, List.getElem_toArray, List.getElem_cons_succ, List.getElem_cons_zero, List.setIfInBounds_toArray, List.set_cons_succ, List.set_cons_zero]
              refine wpAnyH_ready (rs := [2, 4]) (by kernel_rfl) (by simp) ?_
              refine AllReadyH.cons (o := _) rfl (fun K hK => ?_) (AllReadyH.cons (o := _) rfl (fun K hK => ?_) AllReadyH.nil)
              · go_simp
                refine hK.out _ _ hHeld (fun hHeld => ?_)
                clear hK K
                try simp only [Act.put, List.getElem_toArray, List.getElem_cons_succ, List.getElem_cons_zero, List.setIfInBounds_toArray, List.set_cons_succ, List.set_cons_zero]
                refine wpAnyH_ready (rs := [4]) (by kernel_rfl) (by simp) ?_
                refine AllReadyH.cons (o := _) rfl (fun K hK => ?_) AllReadyH.nil
                have b10 := below_setRow bz (Nat.le_refl w.heap.size) (cellsK k0)
                have hS9 := hHeld.setRow (cellsK k0)
                refine step_row rfl 36 (.tmp 3) (.tmp 22) rfl w.heap.size (cellsK k0) rfl rfl 36 (cellsK k0) (by exact hHeld) (by kernel_rfl) rfl (cells_one _) ?_
                obtain ⟨z10, hz9⟩ : ∃ q, q = z7.setRow w.heap.size (cellsK k0) := ⟨_, rfl⟩
                rw [← hz9] at b10 hS9 ⊢
                clear hz9 bz
                refine hK.out _ _ hS9 (fun hHeld => ?_)
                clear hK K
                try simp only [Act.put, List.getElem_toArray, List.getElem_cons_succ, List.getElem_cons_zero, List.setIfInBounds_toArray, List.set_cons_succ, List.set_cons_zero]
                refine wpAnyH_take (i := 5) (oi := _) (v := .bool true) rfl (by kernel_rfl) (by kernel_rfl) (by kernel_rfl) (fun _ _ _ h => h) (Or.inl ⟨by rfl, fun w' hSw => by go_simp⟩) hHeld ?_
                try simp only [Act.put, List.getElem_toArray, List.getElem_cons_succ, List.getElem_cons_zero, List.setIfInBounds_toArray, List.set_cons_succ, List.set_cons_zero]
                refine wpAnyH_done (by kernel_rfl) ?_ _
                simp only [Exit.then]
                go_wp2_with fail
                simp only [Exit.noGoto]
                refine bodyPost_ret (v := .tuple #[.int .i64 k0, .agg (cellsK k0), .bool true]) ?_ rfl ⟨rfl, b10⟩
                exact results_slot_cell_slot (p := 3) (q := 2) (r := 4) (ty := 36) Tryd.results31 _ _ w.heap.size 36 _ _ rfl hHeld Tryd.underlying36 rfl (by kernel_rfl)
              · have b10 := below_setRow bz (Nat.le_refl w.heap.size) (cellsK k0)
                have hS9 := hHeld.setRow (cellsK k0)
                refine step_row rfl 36 (.tmp 3) (.tmp 22) rfl w.heap.size (cellsK k0) rfl rfl 36 (cellsK k0) (by exact hHeld) (by kernel_rfl) rfl (cells_one _) ?_
                obtain ⟨z10, hz9⟩ : ∃ q, q = z7.setRow w.heap.size (cellsK k0) := ⟨_, rfl⟩
                rw [← hz9] at b10 hS9 ⊢
                clear hz9 bz
                refine hK.out _ _ hS9 (fun hHeld => ?_)
                clear hK K
                try simp only [Act.put, List.getElem_toArray, List.getElem_cons_succ, List.getElem_cons_zero, List.setIfInBounds_toArray, List.set_cons_succ, List.set_cons_zero]
                refine wpAnyH_take (i := 2) (oi := _) (v := .bool true) rfl (by kernel_rfl) (by kernel_rfl) (by kernel_rfl) (fun _ _ _ h => h) (Or.inl ⟨by rfl, fun w' hSw => by go_simp⟩) hHeld ?_
                try simp only [Act.put, List.getElem_toArray, List.getElem_cons_succ, List.getElem_cons_zero, List.setIfInBounds_toArray, List.set_cons_succ, List.set_cons_zero]
                refine wpAnyH_take (i := 5) (oi := _) (v := .bool true) rfl (by kernel_rfl) (by kernel_rfl) (by kernel_rfl) (fun _ _ _ h => h) (Or.inl ⟨by rfl, fun w' hSw => by go_simp⟩) hHeld ?_
                try simp only [Act.put, List.getElem_toArray, List.getElem_cons_succ, List.getElem_cons_zero, List.setIfInBounds_toArray, List.set_cons_succ, List.set_cons_zero]
                refine wpAnyH_done (by kernel_rfl) ?_ _
                simp only [Exit.then]
                go_wp2_with fail
                simp only [Exit.noGoto]
                refine bodyPost_ret (v := .tuple #[.int .i64 k0, .agg (cellsK k0), .bool true]) ?_ rfl ⟨rfl, b10⟩
                exact results_slot_cell_slot (p := 3) (q := 2) (r := 4) (ty := 36) Tryd.results31 _ _ w.heap.size 36 _ _ rfl hHeld Tryd.underlying36 rfl (by kernel_rfl)
          · go_simp
            refine hK.out _ _ hHeld (fun hHeld => ?_)
            clear hK K
            try simp only [Act.put, List.getElem_toArray, List.getElem_cons_succ, List.getElem_cons_zero, List.setIfInBounds_toArray, List.set_cons_succ, List.set_cons_zero]
            refine wpAnyH_ready (rs := [1, 3]) (by kernel_rfl) (by simp) ?_
            refine AllReadyH.cons (o := _) rfl (fun K hK => ?_) (AllReadyH.cons (o := _) rfl (fun K hK => ?_) AllReadyH.nil)
            · refine step_load rfl 36 _ rfl (w.heap.size) rfl (cellsK k0) 36 _ (by exact hHeld) Tryd.underlying36 rfl (by kernel_rfl) ?_
              refine hK.out _ _ hHeld (fun hHeld => ?_)
              clear hK K
              try simp only [Act.put, List.getElem_toArray, List.getElem_cons_succ, List.getElem_cons_zero, List.setIfInBounds_toArray, List.set_cons_succ, List.set_cons_zero]
              refine wpAnyH_take (i := 3) (oi := _) (v := .int .i64 k0) rfl (by kernel_rfl) (by kernel_rfl) (by kernel_rfl) (fun _ _ _ h => h) (Or.inl ⟨by rfl, fun w' hSw => by go_simp⟩) hHeld ?_
              try simp only [Act.put, List.getElem_toArray, List.getElem_cons_succ, List.getElem_cons_zero, List.setIfInBounds_toArray, List.set_cons_succ, List.set_cons_zero]
              refine wpAnyH_ready (rs := [4]) (by kernel_rfl) (by simp) ?_
              refine AllReadyH.cons (o := _) rfl (fun K hK => ?_) AllReadyH.nil
              have b10 := below_setRow bz (Nat.le_refl w.heap.size) (cellsK k0)
              have hS9 := hHeld.setRow (cellsK k0)
              refine step_row rfl 36 (.tmp 3) (.tmp 22) rfl w.heap.size (cellsK k0) rfl rfl 36 (cellsK k0) (by exact hHeld) (by kernel_rfl) rfl (cells_one _) ?_
              obtain ⟨z10, hz9⟩ : ∃ q, q = z7.setRow w.heap.size (cellsK k0) := ⟨_, rfl⟩
              rw [← hz9] at b10 hS9 ⊢
              clear hz9 bz
              refine hK.out _ _ hS9 (fun hHeld => ?_)
              clear hK K
              try simp only [Act.put, List.getElem_toArray, List.getElem_cons_succ, List.getElem_cons_zero, List.setIfInBounds_toArray, List.set_cons_succ, List.set_cons_zero]
              refine wpAnyH_take (i := 5) (oi := _) (v := .bool true) rfl (by kernel_rfl) (by kernel_rfl) (by kernel_rfl) (fun _ _ _ h => h) (Or.inl ⟨by rfl, fun w' hSw => by go_simp⟩) hHeld ?_
              try simp only [Act.put, List.getElem_toArray, List.getElem_cons_succ, List.getElem_cons_zero, List.setIfInBounds_toArray, List.set_cons_succ, List.set_cons_zero]
              refine wpAnyH_done (by kernel_rfl) ?_ _
              simp only [Exit.then]
              go_wp2_with fail
              simp only [Exit.noGoto]
              refine bodyPost_ret (v := .tuple #[.int .i64 k0, .agg (cellsK k0), .bool true]) ?_ rfl ⟨rfl, b10⟩
              exact results_slot_cell_slot (p := 3) (q := 2) (r := 4) (ty := 36) Tryd.results31 _ _ w.heap.size 36 _ _ rfl hHeld Tryd.underlying36 rfl (by kernel_rfl)
            · go_simp
              refine hK.out _ _ hHeld (fun hHeld => ?_)
              clear hK K
              try simp only [Act.put, List.getElem_toArray, List.getElem_cons_succ, List.getElem_cons_zero, List.setIfInBounds_toArray, List.set_cons_succ, List.set_cons_zero]
              refine wpAnyH_ready (rs := [1]) (by kernel_rfl) (by simp) ?_
              refine AllReadyH.cons (o := _) rfl (fun K hK => ?_) AllReadyH.nil
              refine step_load rfl 36 _ rfl (w.heap.size) rfl (cellsK k0) 36 _ (by exact hHeld) Tryd.underlying36 rfl (by kernel_rfl) ?_
              refine hK.out _ _ hHeld (fun hHeld => ?_)
              clear hK K
              try simp only [Act.put, List.getElem_toArray, List.getElem_cons_succ, List.getElem_cons_zero, List.setIfInBounds_toArray, List.set_cons_succ, List.set_cons_zero]
              refine wpAnyH_ready (rs := [4]) (by kernel_rfl) (by simp) ?_
              refine AllReadyH.cons (o := _) rfl (fun K hK => ?_) AllReadyH.nil
              have b10 := below_setRow bz (Nat.le_refl w.heap.size) (cellsK k0)
              have hS9 := hHeld.setRow (cellsK k0)
              refine step_row rfl 36 (.tmp 3) (.tmp 22) rfl w.heap.size (cellsK k0) rfl rfl 36 (cellsK k0) (by exact hHeld) (by kernel_rfl) rfl (cells_one _) ?_
              obtain ⟨z10, hz9⟩ : ∃ q, q = z7.setRow w.heap.size (cellsK k0) := ⟨_, rfl⟩
              rw [← hz9] at b10 hS9 ⊢
              clear hz9 bz
              refine hK.out _ _ hS9 (fun hHeld => ?_)
              clear hK K
              try simp only [Act.put, List.getElem_toArray, List.getElem_cons_succ, List.getElem_cons_zero, List.setIfInBounds_toArray, List.set_cons_succ, List.set_cons_zero]
              refine wpAnyH_take (i := 5) (oi := _) (v := .bool true) rfl (by kernel_rfl) (by kernel_rfl) (by kernel_rfl) (fun _ _ _ h => h) (Or.inl ⟨by rfl, fun w' hSw => by go_simp⟩) hHeld ?_
              try simp only [Act.put, List.getElem_toArray, List.getElem_cons_succ, List.getElem_cons_zero, List.setIfInBounds_toArray, List.set_cons_succ, List.set_cons_zero]
              refine wpAnyH_done (by kernel_rfl) ?_ _
              simp only [Exit.then]
              go_wp2_with fail
              simp only [Exit.noGoto]
              refine bodyPost_ret (v := .tuple #[.int .i64 k0, .agg (cellsK k0), .bool true]) ?_ rfl ⟨rfl, b10⟩
              exact results_slot_cell_slot (p := 3) (q := 2) (r := 4) (ty := 36) Tryd.results31 _ _ w.heap.size 36 _ _ rfl hHeld Tryd.underlying36 rfl (by kernel_rfl)
          · go_simp
            refine hK.out _ _ hHeld (fun hHeld => ?_)
            clear hK K
            try simp only [Act.put, List.getElem_toArray, List.getElem_cons_succ, List.getElem_cons_zero, List.setIfInBounds_toArray, List.set_cons_succ, List.set_cons_zero]
            refine wpAnyH_ready (rs := [1, 2]) (by kernel_rfl) (by simp) ?_
            refine AllReadyH.cons (o := _) rfl (fun K hK => ?_) (AllReadyH.cons (o := _) rfl (fun K hK => ?_) AllReadyH.nil)
            · refine step_load rfl 36 _ rfl (w.heap.size) rfl (cellsK k0) 36 _ (by exact hHeld) Tryd.underlying36 rfl (by kernel_rfl) ?_
              refine hK.out _ _ hHeld (fun hHeld => ?_)
              clear hK K
              try simp only [Act.put, List.getElem_toArray, List.getElem_cons_succ, List.getElem_cons_zero, List.setIfInBounds_toArray, List.set_cons_succ, List.set_cons_zero]
              refine wpAnyH_ready (rs := [2, 4]) (by kernel_rfl) (by simp) ?_
              refine AllReadyH.cons (o := _) rfl (fun K hK => ?_) (AllReadyH.cons (o := _) rfl (fun K hK => ?_) AllReadyH.nil)
              · go_simp
                refine hK.out _ _ hHeld (fun hHeld => ?_)
                clear hK K
                try simp only [Act.put, List.getElem_toArray, List.getElem_cons_succ, List.getElem_cons_zero, List.setIfInBounds_toArray, List.set_cons_succ, List.set_cons_zero]
                refine wpAnyH_ready (rs := [4]) (by kernel_rfl) (by simp) ?_
                refine AllReadyH.cons (o := _) rfl (fun K hK => ?_) AllReadyH.nil
                have b10 := below_setRow bz (Nat.le_refl w.heap.size) (cellsK k0)
                have hS9 := hHeld.setRow (cellsK k0)
                refine step_row rfl 36 (.tmp 3) (.tmp 22) rfl w.heap.size (cellsK k0) rfl rfl 36 (cellsK k0) (by exact hHeld) (by kernel_rfl) rfl (cells_one _) ?_
                obtain ⟨z10, hz9⟩ : ∃ q, q = z7.setRow w.heap.size (cellsK k0) := ⟨_, rfl⟩
                rw [← hz9] at b10 hS9 ⊢
                clear hz9 bz
                refine hK.out _ _ hS9 (fun hHeld => ?_)
                clear hK K
                try simp only [Act.put, List.getElem_toArray, List.getElem_cons_succ, List.getElem_cons_zero, List.setIfInBounds_toArray, List.set_cons_succ, List.set_cons_zero]
                refine wpAnyH_take (i := 5) (oi := _) (v := .bool true) rfl (by kernel_rfl) (by kernel_rfl) (by kernel_rfl) (fun _ _ _ h => h) (Or.inl ⟨by rfl, fun w' hSw => by go_simp⟩) hHeld ?_
                try simp only [Act.put, List.getElem_toArray, List.getElem_cons_succ, List.getElem_cons_zero, List.setIfInBounds_toArray, List.set_cons_succ, List.set_cons_zero]
                refine wpAnyH_done (by kernel_rfl) ?_ _
                simp only [Exit.then]
                go_wp2_with fail
                simp only [Exit.noGoto]
                refine bodyPost_ret (v := .tuple #[.int .i64 k0, .agg (cellsK k0), .bool true]) ?_ rfl ⟨rfl, b10⟩
                exact results_slot_cell_slot (p := 3) (q := 2) (r := 4) (ty := 36) Tryd.results31 _ _ w.heap.size 36 _ _ rfl hHeld Tryd.underlying36 rfl (by kernel_rfl)
              · have b10 := below_setRow bz (Nat.le_refl w.heap.size) (cellsK k0)
                have hS9 := hHeld.setRow (cellsK k0)
                refine step_row rfl 36 (.tmp 3) (.tmp 22) rfl w.heap.size (cellsK k0) rfl rfl 36 (cellsK k0) (by exact hHeld) (by kernel_rfl) rfl (cells_one _) ?_
                obtain ⟨z10, hz9⟩ : ∃ q, q = z7.setRow w.heap.size (cellsK k0) := ⟨_, rfl⟩
                rw [← hz9] at b10 hS9 ⊢
                clear hz9 bz
                refine hK.out _ _ hS9 (fun hHeld => ?_)
                clear hK K
                try simp only [Act.put, List.getElem_toArray, List.getElem_cons_succ, List.getElem_cons_zero, List.setIfInBounds_toArray, List.set_cons_succ, List.set_cons_zero]
                refine wpAnyH_take (i := 2) (oi := _) (v := .bool true) rfl (by kernel_rfl) (by kernel_rfl) (by kernel_rfl) (fun _ _ _ h => h) (Or.inl ⟨by rfl, fun w' hSw => by go_simp⟩) hHeld ?_
                try simp only [Act.put, List.getElem_toArray, List.getElem_cons_succ, List.getElem_cons_zero, List.setIfInBounds_toArray, List.set_cons_succ, List.set_cons_zero]
                refine wpAnyH_take (i := 5) (oi := _) (v := .bool true) rfl (by kernel_rfl) (by kernel_rfl) (by kernel_rfl) (fun _ _ _ h => h) (Or.inl ⟨by rfl, fun w' hSw => by go_simp⟩) hHeld ?_
                try simp only [Act.put, List.getElem_toArray, List.getElem_cons_succ, List.getElem_cons_zero, List.setIfInBounds_toArray, List.set_cons_succ, List.set_cons_zero]
                refine wpAnyH_done (by kernel_rfl) ?_ _
                simp only [Exit.then]
                go_wp2_with fail
                simp only [Exit.noGoto]
                refine bodyPost_ret (v := .tuple #[.int .i64 k0, .agg (cellsK k0), .bool true]) ?_ rfl ⟨rfl, b10⟩
                exact results_slot_cell_slot (p := 3) (q := 2) (r := 4) (ty := 36) Tryd.results31 _ _ w.heap.size 36 _ _ rfl hHeld Tryd.underlying36 rfl (by kernel_rfl)
            · go_simp
              refine hK.out _ _ hHeld (fun hHeld => ?_)
              clear hK K
              try simp only [Act.put, List.getElem_toArray, List.getElem_cons_succ, List.getElem_cons_zero, List.setIfInBounds_toArray, List.set_cons_succ, List.set_cons_zero]
              refine wpAnyH_ready (rs := [1]) (by kernel_rfl) (by simp) ?_
              refine AllReadyH.cons (o := _) rfl (fun K hK => ?_) AllReadyH.nil
              refine step_load rfl 36 _ rfl (w.heap.size) rfl (cellsK k0) 36 _ (by exact hHeld) Tryd.underlying36 rfl (by kernel_rfl) ?_
              refine hK.out _ _ hHeld (fun hHeld => ?_)
              clear hK K
              try simp only [Act.put, List.getElem_toArray, List.getElem_cons_succ, List.getElem_cons_zero, List.setIfInBounds_toArray, List.set_cons_succ, List.set_cons_zero]
              refine wpAnyH_ready (rs := [4]) (by kernel_rfl) (by simp) ?_
              refine AllReadyH.cons (o := _) rfl (fun K hK => ?_) AllReadyH.nil
              have b10 := below_setRow bz (Nat.le_refl w.heap.size) (cellsK k0)
              have hS9 := hHeld.setRow (cellsK k0)
              refine step_row rfl 36 (.tmp 3) (.tmp 22) rfl w.heap.size (cellsK k0) rfl rfl 36 (cellsK k0) (by exact hHeld) (by kernel_rfl) rfl (cells_one _) ?_
              obtain ⟨z10, hz9⟩ : ∃ q, q = z7.setRow w.heap.size (cellsK k0) := ⟨_, rfl⟩
              rw [← hz9] at b10 hS9 ⊢
              clear hz9 bz
              refine hK.out _ _ hS9 (fun hHeld => ?_)
              clear hK K
              try simp only [Act.put, List.getElem_toArray, List.getElem_cons_succ, List.getElem_cons_zero, List.setIfInBounds_toArray, List.set_cons_succ, List.set_cons_zero]
              refine wpAnyH_take (i := 5) (oi := _) (v := .bool true) rfl (by kernel_rfl) (by kernel_rfl) (by kernel_rfl) (fun _ _ _ h => h) (Or.inl ⟨by rfl, fun w' hSw => by go_simp⟩) hHeld ?_
              try simp only [Act.put, List.getElem_toArray, List.getElem_cons_succ, List.getElem_cons_zero, List.setIfInBounds_toArray, List.set_cons_succ, List.set_cons_zero]
              refine wpAnyH_done (by kernel_rfl) ?_ _
              simp only [Exit.then]
              go_wp2_with fail
              simp only [Exit.noGoto]
              refine bodyPost_ret (v := .tuple #[.int .i64 k0, .agg (cellsK k0), .bool true]) ?_ rfl ⟨rfl, b10⟩
              exact results_slot_cell_slot (p := 3) (q := 2) (r := 4) (ty := 36) Tryd.results31 _ _ w.heap.size 36 _ _ rfl hHeld Tryd.underlying36 rfl (by kernel_rfl)
      · have hcmp : ((nameB k0).toList == l) = false := by rw [hnl]; simpa using hc
        have hc' := Lib.hid hc
        clear hc hnl hkeys hmem
        go_wp2_with ((refine wpList_store_row rfl 36 _ _ rfl w5.heap.size (cellsK k0) rfl rfl _ _ (by exact XS) (by kernel_rfl) (by kernel_rfl) (by kernel_rfl) ?_); rw [← hz6]; clear hz6 XS; have z6c := Z6.cells; have z6l := Z6.lt; have ec : (cellsK k0)[0]? = some (.string (nameB k0)) := rfl)
        refine ⟨⟨rfl, rfl, cnt3, HR7.out hc'.out, X7, b6⟩, ?_⟩
        rw [HML.out, (HR7.out hc'.out).left_eq]
        exact hlt5
end Go.Proofs.YtononcokdlkjdaaDoor.Opw

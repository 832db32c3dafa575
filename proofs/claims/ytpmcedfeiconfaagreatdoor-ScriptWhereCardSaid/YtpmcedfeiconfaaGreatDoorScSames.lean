/- Layer 21: slices.Equal of operations. -/
import Derived.Test.YtpmcedfeiconfaaGreatDoorScOps
import Derived.Test.YtpmcedfeiconfaaGreatDoorGrow
import Derived.Laws.StructEq
import Derived.Test.YtpmcedfeiconfaaGreatDoorScRight
import Derived.Test.YtpmcedfeiconfaaGreatDoorShelf
import Derived.Test.YtpmcedfeiconfaaGreatDoorQuietRow
namespace Go.Proofs.YtpmcedfeiconfaaGreatDoor.Scw
open Go Go.RowKit Go.ChangeMaps Go.Proofs.YtpmcedfeiconfaaGreatDoor.Gro Go.Proofs.YtpmcedfeiconfaaGreatDoor.Own Go.Proofs.YtpmcedfeiconfaaGreatDoor.Mr Go.Proofs.YtpmcedfeiconfaaGreatDoor.Opn Go.Proofs.YtpmcedfeiconfaaGreatDoor.Opw
set_option linter.unusedVariables false
set_option linter.unusedSimpArgs false
section
variable {P : Program} {ops : Array Oper} {C : World → Prop} {Q : Act → Prop} {a : Act} {o : Oper} {rest : List Oper}
theorem wpQuiet_load_mid (hw : Region.wanted o (yielded ops a.tmps) = true) (ty : TypeId) (x : Operand) (ho : o.op = .load ty x) (b off : Nat) (hx : a.eval x = .pointer (some ⟨b, off, none⟩)) (cs : List Value) (d : TypeDesc)
    (hC : ∀ w, C w → w.rangeAt b off cs) (hu : P.underlying ty = some d) (hd : d.isRow = true) (hi : (P.info? ty).map (·.size) = some cs.length)
    (h : wpQuiet P ops C Q rest (a.put o.dst (.agg cs.toArray))) : wpQuiet P ops C Q (o :: rest) a := by
  unfold wpQuiet
  rw [if_pos hw]
  refine ⟨.agg cs.toArray, fun w hc => ?_, h⟩
  unfold Oper.quietAt execOp
  simp only [ho, hx, Instr.loadAt, Instr.sureAddr, Sem.run_bind, Sem.run_pure, Result.andThen_ok, run_loadVar_mid w b off ty cs d (hC w hc) hu hd hi]
  exact ⟨rfl, rfl⟩
end
theorem op_eq (a b : OpD) : decide (a = b) = (a.k == b.k && (a.t == b.t && (a.x == b.x && (a.s == b.s && (a.u == b.u && (a.b == b.b && a.n == b.n)))))) := by
  obtain ⟨a1, a2, a3, a4, a5, a6, a7⟩ := a
  obtain ⟨b1, b2, b3, b4, b5, b6, b7⟩ := b
  rw [Bool.eq_iff_iff]
  simp
theorem neq_ops (a b : OpD) (w : World) : (binOp .neq 50 (.agg (opC a)) (.agg (opC b))).run Tryz.prog w = .ok (.bool (!decide (a = b))) w := by
  rw [run_neq_struct, op_eq]
  go_simp
  by_cases h1 : a.k = b.k
  · by_cases h2 : a.t = b.t
    · by_cases h3 : a.x = b.x
      · by_cases h4 : a.s = b.s
        · by_cases h5 : a.u = b.u
          · by_cases h6 : a.b = b.b
            · by_cases h7 : a.n = b.n <;> simp [h1, h2, h3, h4, h5, h6, h7]
            · simp [h1, h2, h3, h4, h5, h6]
          · simp [h1, h2, h3, h4, h5]
        · simp [h1, h2, h3, h4]
      · simp [h1, h2, h3]
    · simp [h1, h2]
  · simp [h1]
theorem guard_ops (a b : OpD) (x y : Operand) (w : World) : (eqGuard .neq 50 x y (.agg (opC a)) (.agg (opC b))).run Tryz.prog w = .ok () w := run_eqGuard_agg w .neq _ x y _ _ (by kernel_rfl)
theorem equO_ne (a1 a2 : Option Addr) (n1 n2 c1 c2 : Nat) (h : n1 ≠ n2) (w : World) : Calls Tryz.prog 28 #[.slice a1 n1 c1, .slice a2 n2 c2] w fun e w' => e = .returned (.bool false) ∧ Below w.heap.size w w' := by
  have hne : ((n1 : Int) != (n2 : Int)) = true := by simp; omega
  go_enter Tryz.func28, Tryz.ntmps28
  go_wp2
  go_ret
  exact ⟨rfl, Below.refl _ _⟩
theorem equO_zero (a1 a2 : Option Addr) (c1 c2 : Nat) (w : World) : Calls Tryz.prog 28 #[.slice a1 0 c1, .slice a2 0 c2] w fun e w' => e = .returned (.bool true) ∧ Below w.heap.size w w' := by
  go_enter Tryz.func28, Tryz.ntmps28
  go_wp2
  refine wp_loop_rounds 1 ?_
  rw [rounds_succ]
  go_wp2
  go_ret
  exact ⟨rfl, Below.refl _ _⟩
set_option maxRecDepth 100000 in
set_option maxHeartbeats 4000000 in
theorem equO_pos (b1 o1 b2 o2 c1 c2 : Nat) (l1 l2 : List OpD) (hlen : l1.length = l2.length) (w : World) (hm : l1.length ≤ maxLen)
    (h1 : ∀ i (h : i < l1.length), w.rangeAt b1 (o1 + i * 7) (opC l1[i]).toList) (h2 : ∀ i (h : i < l2.length), w.rangeAt b2 (o2 + i * 7) (opC l2[i]).toList) (hb1 : b1 < w.heap.size) (hb2 : b2 < w.heap.size) :
    Calls Tryz.prog 28 #[.slice (some ⟨b1, o1, none⟩) l1.length c1, .slice (some ⟨b2, o2, none⟩) l1.length c2] w fun e w' => e = .returned (.bool (decide (l1 = l2))) ∧ Below w.heap.size w w' := by
  unfold maxLen at hm
  have H1 := Lib.hid h1
  have H2 := Lib.hid h2
  have HL := Lib.hid hlen
  have HB1 := Lib.hid hb1
  have HB2 := Lib.hid hb2
  clear h1 h2 hlen hb1 hb2
  go_enter Tryz.func28, Tryz.ntmps28
  go_wp2
  go_loopw [13] (fun i wr => ∃ k : Nat, k ≤ l1.length ∧ i = .int .i64 k ∧ RowKit.Hid (∀ j (h : j < k) (h1 : j < l1.length), l1[j] = l2[j]'(by have := HL.out; omega)) ∧ RowKit.Hid (Below w.heap.size w wr)) (fun i _ => l1.length - (intOf i).toNat)
  case atStart => exact ⟨0, Nat.zero_le _, rfl, Lib.hid (fun j h => by omega), Lib.hid (Below.refl _ _)⟩
  case round =>
    obtain ⟨k, hk, rfl, HA, HW⟩ := hrel
    by_cases hlt : k < l1.length
    · have hlt2 : k < l2.length := by have := HL.out; omega
      have q1 : ∀ w2, Below wr.heap.size wr w2 → w2.rangeAt b1 (o1 + k * 7) (opC l1[k]).toList := fun w2 hb j v hv => (hb.cell (p := ⟨b1, _, none⟩) (Nat.lt_of_lt_of_le HB1.out HW.out.size)).trans ((HW.out.cell (p := ⟨b1, _, none⟩) HB1.out).trans (H1.out k hlt j v hv))
      have q2 : ∀ w2, Below wr.heap.size wr w2 → w2.rangeAt b2 (o2 + k * 7) (opC l2[k]).toList := fun w2 hb j v hv => (hb.cell (p := ⟨b2, _, none⟩) (Nat.lt_of_lt_of_le HB2.out HW.out.size)).trans ((HW.out.cell (p := ⟨b2, _, none⟩) HB2.out).trans (H2.out k hlt2 j v hv))
      have hnq := neq_ops l1[k] l2[k]
      have hgq := guard_ops l1[k] l2[k]
      obtain ⟨x, hx⟩ : ∃ x, x = decide (l1[k] = l2[k]) := ⟨_, rfl⟩
      rw [← hx] at hnq
      cases x with
      | true =>
        have HX : RowKit.Hid (l1[k] = l2[k]) := Lib.hid (of_decide_eq_true hx.symm)
        clear hx
        go_wp2
        refine wp_region_grown (by kernel_rfl) (by kernel_rfl) ?_
        repeat (first | (refine wpQuiet_load_mid rfl 50 _ rfl b1 (o1 + k * 7) rfl (opC l1[k]).toList _ (by rintro _ ⟨n, rfl⟩; exact q1 n.1 n.2) Tryz.underlying50 rfl (by kernel_rfl) ?_; simp only [Act.put, List.setIfInBounds_toArray, List.set_cons_succ, List.set_cons_zero]) | (refine wpQuiet_load_mid rfl 50 _ rfl b2 (o2 + k * 7) rfl (opC l2[k]).toList _ (by rintro _ ⟨n, rfl⟩; exact q2 n.1 n.2) Tryz.underlying50 rfl (by kernel_rfl) ?_; simp only [Act.put, List.setIfInBounds_toArray, List.set_cons_succ, List.set_cons_zero]) | go_big_quiet_step (fail))
        refine wpQuiet_nil ?_
        rintro w4 ⟨⟨_, hb4⟩, rfl⟩
        have HW2 := Lib.hid (HW.out.trans (hb4.mono HW.out.size))
        clear hb4 q1 q2
        go_wp2
        go_roundw
        case rel => exact ⟨k + 1, by omega, by go_num, Lib.hid (fun j h h1 => by rcases Nat.lt_succ_iff_lt_or_eq.1 h with h | rfl; exact HA.out j h h1; exact HX.out), HW2⟩
        case measure => simp [intOf]; omega
      | false =>
        have HX : RowKit.Hid (decide (l1 = l2) = false) := Lib.hid (decide_eq_false (fun e => (of_decide_eq_false hx.symm) (by subst e; rfl)))
        clear hx
        go_wp2
        refine wp_region_grown (by kernel_rfl) (by kernel_rfl) ?_
        repeat (first | (refine wpQuiet_load_mid rfl 50 _ rfl b1 (o1 + k * 7) rfl (opC l1[k]).toList _ (by rintro _ ⟨n, rfl⟩; exact q1 n.1 n.2) Tryz.underlying50 rfl (by kernel_rfl) ?_; simp only [Act.put, List.setIfInBounds_toArray, List.set_cons_succ, List.set_cons_zero]) | (refine wpQuiet_load_mid rfl 50 _ rfl b2 (o2 + k * 7) rfl (opC l2[k]).toList _ (by rintro _ ⟨n, rfl⟩; exact q2 n.1 n.2) Tryz.underlying50 rfl (by kernel_rfl) ?_; simp only [Act.put, List.setIfInBounds_toArray, List.set_cons_succ, List.set_cons_zero]) | go_big_quiet_step (fail))
        refine wpQuiet_nil ?_
        rintro w4 ⟨⟨_, hb4⟩, rfl⟩
        have HW2 := Lib.hid (HW.out.trans (hb4.mono HW.out.size))
        clear hb4 q1 q2
        go_wp2
        go_ret
        exact ⟨Wd.ret_bool HX.out.symm, HW2.out⟩
    · obtain rfl : k = l1.length := by omega
      go_wp2
      go_ret
      exact ⟨Wd.ret_bool (decide_eq_true (List.ext_getElem HL.out fun i h1 _ => HA.out i h1 h1)).symm, HW.out⟩
theorem equO {w : World} {v1 v2 : Value} {l1 l2 : List OpD} (h1 : ReadsO w v1 l1) (h2 : ReadsO w v2 l2) : Calls Tryz.prog 28 #[v1, v2] w fun e w' => e = .returned (.bool (decide (l1 = l2))) ∧ Below w.heap.size w w' := by
  obtain ⟨a1, c1, rfl, hc1, hm1, r1⟩ := h1
  obtain ⟨a2, c2, rfl, hc2, hm2, r2⟩ := h2
  by_cases hl : l1.length = l2.length
  · rcases r1 with rfl | ⟨b1, o1, rfl, hb1, r1⟩
    · have h0 : l2 = [] := List.length_eq_zero_iff.1 hl.symm
      subst h0
      exact (equO_zero a1 a2 c1 c2 w).mono fun e w' h => ⟨h.1, h.2⟩
    · rcases r2 with rfl | ⟨b2, o2, rfl, hb2, r2⟩
      · have h0 : l1 = [] := List.length_eq_zero_iff.1 hl
        subst h0
        exact (equO_zero _ a2 c1 c2 w).mono fun e w' h => ⟨h.1, h.2⟩
      · rw [← hl]
        exact equO_pos b1 o1 b2 o2 c1 c2 l1 l2 hl w (Nat.le_trans hc1 hm1) r1 r2 hb1 hb2
  · exact (equO_ne a1 a2 _ _ c1 c2 hl w).mono fun e w' h => ⟨by rw [h.1, decide_eq_false (fun e => hl (by rw [e]))], h.2⟩
end Go.Proofs.YtpmcedfeiconfaaGreatDoor.Scw

/- Layer 21: script.program. -/
namespace Go.Proofs.YtpmcedfeiconfaaGreatDoor.Scw
open Go Go.RowKit Go.ChangeMaps Go.Proofs.YtpmcedfeiconfaaGreatDoor.Gro Go.Proofs.YtpmcedfeiconfaaGreatDoor.Own Go.Proofs.YtpmcedfeiconfaaGreatDoor.Mr Go.Proofs.YtpmcedfeiconfaaGreatDoor.Opn Go.Proofs.YtpmcedfeiconfaaGreatDoor.Opw Go.Proofs.YtpmcedfeiconfaaGreatDoor.Pl Go.Proofs.YtpmcedfeiconfaaGreatDoor.Scr
set_option linter.unusedVariables false
set_option linter.unusedSimpArgs false
theorem ReadsO.nil (w : World) : ReadsO w (.slice none 0 0) [] := ⟨none, 0, rfl, Nat.le_refl _, Nat.zero_le _, .inl rfl⟩
theorem ReadsP.len {w : World} {ap : Option Addr} {n cp : Nat} {p : List (List OpD)} (RP : ReadsP w (.slice ap n cp) p) : p.length ≤ 9223372036854775807 := by
  obtain ⟨_, _, he, h1, h2, _⟩ := RP
  unfold maxLen at h2
  omega
set_option maxHeartbeats 2000000 in
theorem fProgAt (c : Cfg) (n b off cp al m cl : Nat) (ab : Option Addr) (vk : Value) (i : Nat) (hn : n ≤ 9223372036854775807) (h : i < n) (w : World) (hl : b < w.heap.size) (hu : w.cell? ⟨b, off + i, none⟩ = some (.slice ab m cl)) :
    Calls Tryz.prog 29 #[sV c (.slice (some ⟨b, off, none⟩) n cp) vk, .int .i64 i] w fun e w' => e = .returned (.slice ab m cl) ∧ Below w.heap.size w w' := by
  obtain ⟨w1, hw1⟩ : ∃ q, q = w.alloc (.cells (sC c (.slice (some ⟨b, off, none⟩) n cp) vk) 34) := ⟨_, rfl⟩
  have B1 : Bk w1 w.heap.size (sC c (.slice (some ⟨b, off, none⟩) n cp) vk) 34 := by rw [hw1]; exact Bk.new w _ _
  have b1 : Below w.heap.size w w1 := by rw [hw1]; exact (Below.refl _ _).alloc (Nat.le_refl _) _
  have x1 := B1.cells
  have lt1 := B1.lt
  have hu3 := (b1.cell (p := ⟨b, off + i, none⟩) hl).trans hu
  have HB := Lib.hid b1
  have hd2 : ¬ (n : Int) ≤ (i : Int) := by omega
  clear b1 B1 hu
  subst hw1
  go_enter Tryz.func29, Tryz.ntmps29
  go_wp2_with fail
  go_ret
  exact ⟨rfl, HB.out⟩
set_option maxHeartbeats 2000000 in
theorem fProgNo (c : Cfg) (n cp : Nat) (ap : Option Addr) (vk : Value) (i : Nat) (hn : n ≤ 9223372036854775807) (h : n ≤ i) (w : World) :
    Calls Tryz.prog 29 #[sV c (.slice ap n cp) vk, .int .i64 i] w fun e w' => e = .returned (.slice none 0 0) ∧ Below w.heap.size w w' := by
  obtain ⟨w1, hw1⟩ : ∃ q, q = w.alloc (.cells (sC c (.slice ap n cp) vk) 34) := ⟨_, rfl⟩
  have B1 : Bk w1 w.heap.size (sC c (.slice ap n cp) vk) 34 := by rw [hw1]; exact Bk.new w _ _
  have b1 : Below w.heap.size w w1 := by rw [hw1]; exact (Below.refl _ _).alloc (Nat.le_refl _) _
  have x1 := B1.cells
  have lt1 := B1.lt
  have HB := Lib.hid b1
  have hd2 : (n : Int) ≤ (i : Int) := by omega
  clear b1 B1
  subst hw1
  go_enter Tryz.func29, Tryz.ntmps29
  go_wp2_with fail
  go_ret
  exact ⟨rfl, HB.out⟩
/-- The program of a worker: one value in every world that keeps the script. -/
theorem fProgram (c : Cfg) (p : List (List OpD)) (ap : Option Addr) (cp : Nat) (vk : Value) (i : Nat) (w : World) (RP : ReadsP w (.slice ap p.length cp) p) :
    ∃ u, ReadsO w u (p.getD i []) ∧ ∀ w0, Below w.heap.size w w0 → Calls Tryz.prog 29 #[sV c (.slice ap p.length cp) vk, .int .i64 i] w0 fun e w' => e = .returned u ∧ Below w0.heap.size w0 w' := by
  have hpl := RP.len
  by_cases h : i < p.length
  · obtain ⟨_, _, he, h1, h2, h3⟩ := RP
    injection he with he1 _ he2
    subst he1 he2
    rcases h3 with h3 | ⟨b, off, rfl, hl, hc⟩
    · rw [h3] at h; cases h
    · obtain ⟨u, hu1, hu2⟩ := hc i h
      have e : p.getD i [] = p[i] := by simp [h]
      rw [e]
      refine ⟨u, hu2, fun w0 hb => ?_⟩
      obtain ⟨ab, cl, rfl, _, _, _⟩ := hu2
      exact fProgAt c p.length b off cp 0 _ cl ab vk i hpl h w0 (Nat.lt_of_lt_of_le hl hb.size) ((hb.cell (p := ⟨b, off + i, none⟩) hl).trans hu1)
  · have e : p.getD i [] = [] := by
      rw [List.getD_eq_getElem?_getD, List.getElem?_eq_none (by omega)]
      rfl
    rw [e]
    exact ⟨_, ReadsO.nil w, fun w0 _ => fProgNo c p.length cp ap vk i hpl (by omega) w0⟩
end Go.Proofs.YtpmcedfeiconfaaGreatDoor.Scw

/- Layer 21: slices.Equal of ints, and == of configurations. -/
namespace Go.Proofs.YtpmcedfeiconfaaGreatDoor.Scw
open Go Go.RowKit Go.ChangeMaps Go.Proofs.YtpmcedfeiconfaaGreatDoor.Gro Go.Proofs.YtpmcedfeiconfaaGreatDoor.Own Go.Proofs.YtpmcedfeiconfaaGreatDoor.Mr Go.Proofs.YtpmcedfeiconfaaGreatDoor.Opn Go.Proofs.YtpmcedfeiconfaaGreatDoor.Opw Go.Proofs.YtpmcedfeiconfaaGreatDoor.Pl Go.Proofs.YtpmcedfeiconfaaGreatDoor.Scr
set_option linter.unusedVariables false
set_option linter.unusedSimpArgs false
theorem cfg_eq (a b : Cfg) : decide (a = b) = (a.ww == b.ww && (a.sl == b.sl && (a.bl == b.bl && (a.wd == b.wd && (a.en == b.en && (a.rk == b.rk && (a.bg == b.bg && a.la == b.la))))))) := by
  obtain ⟨a1, a2, a3, a4, a5, a6, a7, a8⟩ := a
  obtain ⟨b1, b2, b3, b4, b5, b6, b7, b8⟩ := b
  rw [Bool.eq_iff_iff]
  simp
theorem eql_cfg (a b : Cfg) (w : World) : (binOp .eql 24 (.agg (cfgC a)) (.agg (cfgC b))).run Tryz.prog w = .ok (.bool (decide (a = b))) w := by
  unfold cfgC
  rw [run_eql_struct, cfg_eq]
  go_simp
  by_cases h1 : a.ww = b.ww
  · by_cases h2 : a.sl = b.sl
    · by_cases h3 : a.bl = b.bl
      · by_cases h4 : a.wd = b.wd
        · by_cases h5 : a.en = b.en
          · by_cases h6 : a.rk = b.rk
            · by_cases h7 : a.bg = b.bg
              · by_cases h8 : a.la = b.la <;> simp [h1, h2, h3, h4, h5, h6, h7, h8]
              · simp [h1, h2, h3, h4, h5, h6, h7]
            · simp [h1, h2, h3, h4, h5, h6]
          · simp [h1, h2, h3, h4, h5]
        · simp [h1, h2, h3, h4]
      · simp [h1, h2, h3]
    · simp [h1, h2]
  · simp [h1]
theorem guard_cfg (a b : Cfg) (x y : Operand) (w : World) : (eqGuard .eql 24 x y (.agg (cfgC a)) (.agg (cfgC b))).run Tryz.prog w = .ok () w := run_eqGuard_agg w .eql _ x y _ _ (by kernel_rfl)
theorem eqI {w : World} {v1 v2 : Value} {l1 l2 : List Int} (h1 : Wd.Reads w .i64 v1 l1) (h2 : Wd.Reads w .i64 v2 l2) : Calls Tryz.prog 30 #[v1, v2] w fun e w' => e = .returned (.bool (decide (l1 = l2))) ∧ Below w.heap.size w w' := by
  obtain ⟨a1, c1, rfl, hc1, hm1, r1⟩ := h1
  obtain ⟨a2, c2, rfl, hc2, hm2, r2⟩ := h2
  have m1 : l1.length ≤ 9223372036854775807 := by unfold maxLen at hm1; omega
  have m2 : l2.length ≤ 9223372036854775807 := by unfold maxLen at hm2; omega
  by_cases hl : l1.length = l2.length
  · rcases r1 with rfl | ⟨b1, o1, rfl, hb1, r1⟩
    · have h0 : l2 = [] := List.length_eq_zero_iff.1 hl.symm
      subst h0
      refine (Tryz.slices_Equal_int_empty a1 a2 c1 0 c2 w (by decide)).mono ?_
      rintro e w' ⟨rfl, rfl⟩
      exact ⟨rfl, Below.refl _ _⟩
    · rcases r2 with rfl | ⟨b2, o2, rfl, hb2, r2⟩
      · have h0 : l1 = [] := List.length_eq_zero_iff.1 hl
        subst h0
        refine (Tryz.slices_Equal_int_empty _ a2 c1 0 c2 w (by decide)).mono ?_
        rintro e w' ⟨rfl, rfl⟩
        exact ⟨rfl, Below.refl _ _⟩
      · refine (Tryz.slices_Equal_int b1 o1 l1.length c1 b2 o2 l2.length c2 l1 l2 w (Nat.le_refl _) (Nat.le_refl _) m1 m2 (fun j hj => by rw [r1 j hj]; simp [hj]) (fun j hj => by rw [r2 j hj]; simp [hj])).mono ?_
        rintro e w' ⟨rfl, q, rfl⟩
        refine ⟨Wd.ret_bool ?_, gro_drewN (Below.refl _ _)⟩
        rw [List.take_length, List.take_length]
        by_cases e : l1 = l2 <;> simp [e]
  · refine (Tryz.slices_Equal_int_lens a1 a2 l1.length c1 l2.length c2 w hl).mono ?_
    rintro e w' ⟨rfl, rfl⟩
    exact ⟨Wd.ret_bool (decide_eq_false (fun e => hl (by rw [e]))).symm, Below.refl _ _⟩
end Go.Proofs.YtpmcedfeiconfaaGreatDoor.Scw

/- Layer 21: script.Same. -/
namespace Go.Proofs.YtpmcedfeiconfaaGreatDoor.Scw
open Go Go.RowKit Go.ChangeMaps Go.Proofs.YtpmcedfeiconfaaGreatDoor.Gro Go.Proofs.YtpmcedfeiconfaaGreatDoor.Own Go.Proofs.YtpmcedfeiconfaaGreatDoor.Mr Go.Proofs.YtpmcedfeiconfaaGreatDoor.Opn Go.Proofs.YtpmcedfeiconfaaGreatDoor.Opw Go.Proofs.YtpmcedfeiconfaaGreatDoor.Pl Go.Proofs.YtpmcedfeiconfaaGreatDoor.Scr
set_option linter.unusedVariables false
set_option linter.unusedSimpArgs false
/-- The scripts' programs are the same, a missing one being empty. -/
def SameP (a b : List (List OpD)) : Prop := ∀ i, a.getD i [] = b.getD i []
instance (a b : List (List OpD)) : Decidable (SameP a b) :=
  decidable_of_iff (∀ i, i < max a.length b.length → a.getD i [] = b.getD i []) ⟨fun h i => by
    by_cases hi : i < max a.length b.length
    · exact h i hi
    · have h1 : a.length ≤ i := by omega
      have h2 : b.length ≤ i := by omega
      simp [h1, h2], fun h i _ => h i⟩
def sameS (a b : ScD) : Bool := decide (SameP a.p b.p) && (decide (a.c = b.c) && decide (a.k = b.k))
theorem cfg_mid2 {w : World} {g : Nat} {c : Cfg} {vp vk : Value} (B : Bk w g (sC c vp vk) 34) : w.rangeAt g 0 (cfgC c).toList := cfg_mid B
set_option maxRecDepth 100000 in
set_option maxHeartbeats 8000000 in
theorem fSame (ca cb : Cfg) (pa pb : List (List OpD)) (ka kb : List Int) (apa aka apb akb : Option Addr) (cpa cka cpb ckb : Nat) (w : World)
    (RPA : ReadsP w (.slice apa pa.length cpa) pa) (RKA : Wd.Reads w .i64 (.slice aka ka.length cka) ka) (RPB : ReadsP w (.slice apb pb.length cpb) pb) (RKB : Wd.Reads w .i64 (.slice akb kb.length ckb) kb) :
    Calls Tryz.prog 13 #[sV ca (.slice apa pa.length cpa) (.slice aka ka.length cka), sV cb (.slice apb pb.length cpb) (.slice akb kb.length ckb)] w fun e w' => e = .returned (.bool (sameS ⟨ca, pa, ka⟩ ⟨cb, pb, kb⟩)) ∧ Below w.heap.size w w' := by
  obtain ⟨w2, hw2⟩ : ∃ q, q = (w.alloc (.cells (sC ca (.slice apa pa.length cpa) (.slice aka ka.length cka)) 34)).alloc (.cells (sC cb (.slice apb pb.length cpb) (.slice akb kb.length ckb)) 34) := ⟨_, rfl⟩
  have X0 : Bk w2 w.heap.size (sC ca (.slice apa pa.length cpa) (.slice aka ka.length cka)) 34 := by rw [hw2]; exact (Bk.new w _ _).alloc _
  have Y0 : Bk w2 (w.heap.size + 1) (sC cb (.slice apb pb.length cpb) (.slice akb kb.length ckb)) 34 := by
    have := Bk.new (w.alloc (.cells (sC ca (.slice apa pa.length cpa) (.slice aka ka.length cka)) 34)) (sC cb (.slice apb pb.length cpb) (.slice akb kb.length ckb)) 34
    rw [World.size_alloc] at this
    rw [hw2]
    exact this
  have b2 : Below w.heap.size w w2 := by rw [hw2]; exact ((Below.refl _ _).alloc (Nat.le_refl _) _).alloc (by simp) _
  have hla := RPA.len
  have hlb := RPB.len
  have HRPA := Lib.hid (RPA.keep b2)
  have HRPB := Lib.hid (RPB.keep b2)
  have HKE : RowKit.Hid (∀ w0, Below w2.heap.size w2 w0 → Calls Tryz.prog 30 #[.slice aka ka.length cka, .slice akb kb.length ckb] w0 fun e w' => e = .returned (.bool (decide (ka = kb))) ∧ Below w0.heap.size w0 w') := Lib.hid (fun w0 hb => eqI ((RKA.keep b2).keep hb) ((RKB.keep b2).keep hb))
  have HX := Lib.hid X0
  have HY := Lib.hid Y0
  have HB := Lib.hid b2
  have x0 := X0.cells
  have y0 := Y0.cells
  have lx := X0.lt
  have ly := Y0.lt
  rw [hw2] at x0 y0 lx ly
  obtain ⟨M, hM⟩ : ∃ M : Nat, M = max pa.length pb.length := ⟨_, rfl⟩
  have hMi : max (pa.length : Int) (pb.length : Int) = (M : Int) := by omega
  have hMl : M ≤ 9223372036854775807 := by omega
  have HM := Lib.hid hM
  clear RPA RPB RKA RKB b2 X0 Y0 hM
  go_enter Tryz.func13, Tryz.ntmps13
  go_wp2
  rw [← hw2]
  clear hw2 x0 y0 lx ly
  go_loopw [13] (fun i wr => ∃ k : Nat, k ≤ M ∧ i = .int .i64 k ∧ RowKit.Hid (∀ j, j < k → pa.getD j [] = pb.getD j []) ∧ RowKit.Hid (Below w2.heap.size w2 wr)) (fun i _ => M - (intOf i).toNat)
  case atStart => exact ⟨0, Nat.zero_le _, rfl, Lib.hid (fun j h => by omega), Lib.hid (Below.refl _ _)⟩
  case round =>
    obtain ⟨k, hk, rfl, HA, HW⟩ := hrel
    have X3 := HX.out.keep HW.out
    have Y3 := HY.out.keep HW.out
    by_cases hlt : k < M
    · obtain ⟨ua, ra, ca1⟩ := fProgram ca pa apa cpa (.slice aka ka.length cka) k wr (HRPA.out.keep HW.out)
      obtain ⟨ub, rb, cb1⟩ := fProgram cb pb apb cpb (.slice akb kb.length ckb) k wr (HRPB.out.keep HW.out)
      have HPA := Lib.hid ca1
      have HPB := Lib.hid cb1
      have he : ∀ w0, Below wr.heap.size wr w0 → Calls Tryz.prog 28 #[ua, ub] w0 fun e w' => e = .returned (.bool (decide (pa.getD k [] = pb.getD k []))) ∧ Below w0.heap.size w0 w' := fun w0 hb => equO (ra.keep hb) (rb.keep hb)
      obtain ⟨x, hx⟩ : ∃ x, x = decide (pa.getD k [] = pb.getD k []) := ⟨_, rfl⟩
      rw [← hx] at he
      have HEQ := Lib.hid he
      clear ca1 cb1 he ra rb
      cases x with
      | true =>
        have HD := Lib.hid (of_decide_eq_true hx.symm)
        clear hx
        go_wp2
        refine wp_region_grown (by kernel_rfl) (by kernel_rfl) ?_
        repeat (first | (refine wpQuiet_load_row_w rfl 34 _ rfl w.heap.size rfl (sC ca (.slice apa pa.length cpa) (.slice aka ka.length cka)) 34 _ (by rintro _ ⟨n, rfl⟩; exact Bk.keep X3 n.2) Tryz.underlying34 rfl (by kernel_rfl) ?_; simp only [Act.put, List.setIfInBounds_toArray, List.set_cons_succ, List.set_cons_zero]) | (refine wpQuiet_load_row_w rfl 34 _ rfl (w.heap.size + 1) rfl (sC cb (.slice apb pb.length cpb) (.slice akb kb.length ckb)) 34 _ (by rintro _ ⟨n, rfl⟩; exact Bk.keep Y3 n.2) Tryz.underlying34 rfl (by kernel_rfl) ?_; simp only [Act.put, List.setIfInBounds_toArray, List.set_cons_succ, List.set_cons_zero]) | go_big_quiet_step (first | with_reducible exact grown_of (HPA.out _ (Subtype.property _)) | with_reducible exact grown_of (HPB.out _ (Subtype.property _)) | with_reducible exact grown_of (HEQ.out _ (Subtype.property _))))
        refine wpQuiet_nil ?_
        rintro w4 ⟨⟨_, hb4⟩, rfl⟩
        have HW2 := Lib.hid (HW.out.trans (hb4.mono HW.out.size))
        clear hb4 X3 Y3
        go_wp2
        go_roundw
        case rel => exact ⟨k + 1, by omega, by go_num, Lib.hid (fun j h => by rcases Nat.lt_succ_iff_lt_or_eq.1 h with h | rfl; exact HA.out j h; exact HD.out), HW2⟩
        case measure => simp [intOf]; omega
      | false =>
        have HD := Lib.hid (of_decide_eq_false hx.symm)
        have HS : RowKit.Hid (sameS ⟨ca, pa, ka⟩ ⟨cb, pb, kb⟩ = false) := Lib.hid (by
          have : decide (SameP pa pb) = false := decide_eq_false (fun h => HD.out (h k))
          unfold sameS
          simp only [this, Bool.false_and])
        clear hx
        go_wp2
        refine wp_region_grown (by kernel_rfl) (by kernel_rfl) ?_
        repeat (first | (refine wpQuiet_load_row_w rfl 34 _ rfl w.heap.size rfl (sC ca (.slice apa pa.length cpa) (.slice aka ka.length cka)) 34 _ (by rintro _ ⟨n, rfl⟩; exact Bk.keep X3 n.2) Tryz.underlying34 rfl (by kernel_rfl) ?_; simp only [Act.put, List.setIfInBounds_toArray, List.set_cons_succ, List.set_cons_zero]) | (refine wpQuiet_load_row_w rfl 34 _ rfl (w.heap.size + 1) rfl (sC cb (.slice apb pb.length cpb) (.slice akb kb.length ckb)) 34 _ (by rintro _ ⟨n, rfl⟩; exact Bk.keep Y3 n.2) Tryz.underlying34 rfl (by kernel_rfl) ?_; simp only [Act.put, List.setIfInBounds_toArray, List.set_cons_succ, List.set_cons_zero]) | go_big_quiet_step (first | with_reducible exact grown_of (HPA.out _ (Subtype.property _)) | with_reducible exact grown_of (HPB.out _ (Subtype.property _)) | with_reducible exact grown_of (HEQ.out _ (Subtype.property _))))
        refine wpQuiet_nil ?_
        rintro w4 ⟨⟨_, hb4⟩, rfl⟩
        have HW2 := Lib.hid (HW.out.trans (hb4.mono HW.out.size))
        clear hb4 X3 Y3
        go_wp2
        go_ret
        exact ⟨Wd.ret_bool HS.out.symm, HB.out.trans (HW2.out.mono HB.out.size)⟩
    · obtain rfl : k = M := by omega
      have hsp : decide (SameP pa pb) = true := decide_eq_true (fun i => by
        by_cases hi : i < k
        · exact HA.out i hi
        · have h1 : pa.length ≤ i := by have := HM.out; omega
          have h2 : pb.length ≤ i := by have := HM.out; omega
          simp [h1, h2])
      have hss : sameS ⟨ca, pa, ka⟩ ⟨cb, pb, kb⟩ = (decide (ca = cb) && decide (ka = kb)) := by
        unfold sameS
        simp only [hsp, Bool.true_and]
      have HSS := Lib.hid hss
      have MX := Lib.hid (cfg_mid X3)
      have MY := Lib.hid (cfg_mid Y3)
      have x3 := X3.cells
      have y3 := Y3.cells
      have hcq := eql_cfg ca cb
      have hcg := guard_cfg ca cb
      obtain ⟨q, hq⟩ : ∃ q, q = decide (ca = cb) := ⟨_, rfl⟩
      rw [← hq] at hcq HSS
      clear hss hsp hq X3 Y3
      cases q with
      | true =>
        go_wp2_with (first | (refine wpList_load_mid rfl 24 _ rfl w.heap.size 0 rfl (cfgC ca).toList _ (by exact MX.out) Tryz.underlying24 rfl (by kernel_rfl) ?_) | (refine wpList_load_mid rfl 24 _ rfl (w.heap.size + 1) 0 rfl (cfgC cb).toList _ (by exact MY.out) Tryz.underlying24 rfl (by kernel_rfl) ?_))
        refine (HKE.out _ HW.out).mono ?_
        rintro e w5 ⟨rfl, hb5⟩
        have HB5 := Lib.hid (HB.out.trans (HW.out.mono HB.out.size) |>.trans (hb5.mono (Nat.le_trans HB.out.size HW.out.size)))
        clear hb5
        go_wp2_with fail
        go_ret
        exact ⟨Wd.ret_bool (by rw [HSS.out]; rfl), HB5.out⟩
      | false =>
        go_wp2_with (first | (refine wpList_load_mid rfl 24 _ rfl w.heap.size 0 rfl (cfgC ca).toList _ (by exact MX.out) Tryz.underlying24 rfl (by kernel_rfl) ?_) | (refine wpList_load_mid rfl 24 _ rfl (w.heap.size + 1) 0 rfl (cfgC cb).toList _ (by exact MY.out) Tryz.underlying24 rfl (by kernel_rfl) ?_))
        go_ret
        exact ⟨Wd.ret_bool (by rw [HSS.out]; rfl), HB.out.trans (HW.out.mono HB.out.size)⟩
end Go.Proofs.YtpmcedfeiconfaaGreatDoor.Scw

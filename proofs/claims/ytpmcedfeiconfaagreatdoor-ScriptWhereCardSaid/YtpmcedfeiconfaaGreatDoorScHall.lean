/- Layer 21: the reader's method hall (made by genscrd.py). -/
import Derived.Test.YtpmcedfeiconfaaGreatDoorScRdMs
import Derived.Test.YtpmcedfeiconfaaGreatDoorSubRow
namespace Go.Proofs.YtpmcedfeiconfaaGreatDoor.Scw
open Go Go.RowKit Go.ChangeMaps Go.Proofs.YtpmcedfeiconfaaGreatDoor.Gro Go.Proofs.YtpmcedfeiconfaaGreatDoor.Own Go.Proofs.YtpmcedfeiconfaaGreatDoor.Mr Go.Proofs.YtpmcedfeiconfaaGreatDoor.Opn Go.Proofs.YtpmcedfeiconfaaGreatDoor.Opw Go.Proofs.YtpmcedfeiconfaaGreatDoor.Pl Go.Proofs.YtpmcedfeiconfaaGreatDoor.Scr Go.Proofs.YtpmcedfeiconfaaGreatDoor.Wd
set_option linter.unusedVariables false
set_option linter.unusedSimpArgs false
theorem build_cfg (xa xb xd xe xf xg xh xi : Int) (w : World) : (Instr.build 24 #[(0, .int .i64 xa), (1, .int .i64 xb), (2, .int .i64 xd), (3, .int .i64 xe), (4, .int .i64 xf), (5, .int .i64 xg), (6, .int .i64 xh), (7, .int .u64 xi)]).run Tryz.prog w = .ok (.agg #[.int .i64 xa, .int .i64 xb, .int .i64 xd, .int .i64 xe, .int .i64 xf, .int .i64 xg, .int .i64 xh, .int .u64 xi]) w := run_build w _ _ _ (by kernel_rfl)
def HallPost (B b m : Nat) (st : RdS) (l : List UInt8) (w : World) (e : Ending) (w' : World) : Prop :=
  ∃ x : Bool, e = .returned (.bool x) ∧ Far B b w w' ∧ match (rdNums 8 l).bind cfgOf with | none => x = false | some c => x = okC c ∧ RdW B b m { st with s := { st.s with c := c } } w'
set_option maxRecDepth 100000 in
set_option maxHeartbeats 8000000 in
theorem fHall (B b m : Nat) (st : RdS) (l : List UInt8) (hl : l.length ≤ 1000000) (w : World) (L : Lb w) (h : RdW B b m st w) :
    Calls Tryz.prog 52 #[.pointer (some ⟨b, 0, none⟩), strV l] w (HallPost B b m st l w) := by
  obtain ⟨hbB, hBw, vp, vk, U, B0, OP, OK⟩ := h
  have HN : RowKit.Hid (Calls Tryz.prog 65 #[strV l, .int .i64 8] w (NumsPost 8 l w)) := Lib.hid (fNumbers 8 (by decide) l hl w L)
  have HB0 := Lib.hid B0
  have HOP := Lib.hid OP
  have HOK := Lib.hid OK
  clear L B0 OP OK
  go_enter Tryz.func52, Tryz.ntmps52
  go_wp2_with fail
  refine HN.out.mono ?_
  rintro e w1 ⟨v, rfl, hb1, hsome, hnone⟩
  have HW1 := Lib.hid hb1
  have B1 := HB0.out.keep hb1
  have HB1 := Lib.hid B1
  cases hks : rdNums 8 l with
  | none =>
    obtain rfl := hnone hks
    clear hnone hsome hb1
    have HX := Lib.hid hks
    clear hks
    simp only [Option.isSome_none]
    go_wp2_with fail
    go_ret
    refine ⟨false, rfl, Far.of HW1.out hBw, ?_⟩
    rw [HX.out]
    exact rfl
  | some ks =>
    have O := hsome ks hks
    have hlen : ks.length ≤ 8 := (rdNums_some hks).2.2.1
    have h63 := (rdNums_some hks).2.2.2
    have HX := Lib.hid hks
    clear hnone hsome hb1 hks
    simp only [Option.isSome_some]
    by_cases h8 : ks.length < 8
    · have hv : ∃ ad cap, v = .slice ad ks.length cap := by
        obtain ⟨y, hy⟩ := Ap.own_sl O
        subst hy
        have := Ap.reads_len (Reads.of_own O rfl)
        exact ⟨y.ad, y.cap, by rw [← this]⟩
      obtain ⟨ad, cap, rfl⟩ := hv
      have hd : decide ((ks.length : Int) < 8) = true := by simp; omega
      have hn8 : cfgOf ks = none := by
        unfold cfgOf
        split
        · simp at h8
        · rfl
      have H8 := Lib.hid hn8
      clear O hn8 h63
      go_wp2_with fail
      go_ret
      refine ⟨false, rfl, Far.of HW1.out hBw, ?_⟩
      rw [HX.out, Option.bind_some, H8.out]
    · have h9 : ks.length = 8 := by omega
      obtain ⟨xa, xb, xd, xe, xf, xg, xh, xi, rfl⟩ : ∃ xa xb xd xe xf xg xh xi, ks = [xa, xb, xd, xe, xf, xg, xh, xi] := by
        match ks, h9 with
        | [xa, xb, xd, xe, xf, xg, xh, xi], _ => exact ⟨_, _, _, _, _, _, _, _, rfl⟩
      have hi63 := h63 xi (by simp)
      obtain ⟨gl, cap, rfl, hge, hgl, hc8, hcm, hcc⟩ := owns_cells O (by simp)
      have q0 : w1.cell? ⟨gl, 0, none⟩ = some (.int .i64 xa) := hcc 0 (by simp)
      have q1 : w1.cell? ⟨gl, 1, none⟩ = some (.int .i64 xb) := hcc 1 (by simp)
      have q2 : w1.cell? ⟨gl, 2, none⟩ = some (.int .i64 xd) := hcc 2 (by simp)
      have q3 : w1.cell? ⟨gl, 3, none⟩ = some (.int .i64 xe) := hcc 3 (by simp)
      have q4 : w1.cell? ⟨gl, 4, none⟩ = some (.int .i64 xf) := hcc 4 (by simp)
      have q5 : w1.cell? ⟨gl, 5, none⟩ = some (.int .i64 xg) := hcc 5 (by simp)
      have q6 : w1.cell? ⟨gl, 6, none⟩ = some (.int .i64 xh) := hcc 6 (by simp)
      have q7 : w1.cell? ⟨gl, 7, none⟩ = some (.int .i64 xi) := hcc 7 (by simp)
      have hu8 : IntKind.u64.wrap xi = xi := IntWalk.u64_in xi (by have := hi63.1; have := hi63.2; omega)
      have hbd := build_cfg xa xb xd xe xf xg xh xi
      have HWF : RowKit.Hid (Cfg.Wf ⟨xa, xb, xd, xe, xf, xg, xh, xi⟩) := Lib.hid ⟨by have := hi63.1; simpa using this, by have := hi63.2; show xi < _; omega⟩
      clear O hcc hlen h8 h9 h63 hi63
      have e8 : ([xa, xb, xd, xe, xf, xg, xh, xi].length) = 8 := rfl
      simp only [e8]
      clear e8
      go_wp2_with fail
      have hS0 : Below w1.heap.size w1 w1.drew := Below.drew (Below.refl _ _)
      refine wp_region_held_drew (S := fun w' => Below w1.heap.size w1 w') (by kernel_rfl) hS0 (fun hHeld => ?_)
      clear hS0
      generalize w1.drew = z0 at *
      refine wpAnyH_take (i := 0) (oi := _) (v := .slice (some ⟨gl, 0, none⟩) 8 cap) rfl (by kernel_rfl) (by kernel_rfl) (by kernel_rfl) (fun _ _ _ h => h) (Or.inl ⟨by rfl, fun w' hSw => by go_simp⟩) hHeld ?_
      try simp only [Act.put, List.getElem_toArray, List.getElem_cons_succ, List.getElem_cons_zero, List.setIfInBounds_toArray, List.set_cons_succ, List.set_cons_zero]
      refine wpAnyH_take (i := 1) (oi := _) (v := .pointer (some ⟨gl, 0, none⟩)) rfl (by kernel_rfl) (by kernel_rfl) (by kernel_rfl) (fun _ _ _ h => h) (Or.inl ⟨by rfl, fun w' hSw => by go_simp⟩) hHeld ?_
      try simp only [Act.put, List.getElem_toArray, List.getElem_cons_succ, List.getElem_cons_zero, List.setIfInBounds_toArray, List.set_cons_succ, List.set_cons_zero]
      refine wpAnyH_take (i := 2) (oi := _) (v := .int .i64 xa) rfl (by kernel_rfl) (by kernel_rfl) (by kernel_rfl) (fun _ _ _ h => h) (Or.inl ⟨by rfl, fun w' hSw => by have xx := (hSw.cell (p := ⟨gl, 0, none⟩) hgl).trans q0; go_simp⟩) hHeld ?_
      try simp only [Act.put, List.getElem_toArray, List.getElem_cons_succ, List.getElem_cons_zero, List.setIfInBounds_toArray, List.set_cons_succ, List.set_cons_zero]
      refine wpAnyH_take (i := 3) (oi := _) (v := .slice (some ⟨gl, 0, none⟩) 8 cap) rfl (by kernel_rfl) (by kernel_rfl) (by kernel_rfl) (fun _ _ _ h => h) (Or.inl ⟨by rfl, fun w' hSw => by go_simp⟩) hHeld ?_
      try simp only [Act.put, List.getElem_toArray, List.getElem_cons_succ, List.getElem_cons_zero, List.setIfInBounds_toArray, List.set_cons_succ, List.set_cons_zero]
      refine wpAnyH_take (i := 4) (oi := _) (v := .pointer (some ⟨gl, 1, none⟩)) rfl (by kernel_rfl) (by kernel_rfl) (by kernel_rfl) (fun _ _ _ h => h) (Or.inl ⟨by rfl, fun w' hSw => by go_simp⟩) hHeld ?_
      try simp only [Act.put, List.getElem_toArray, List.getElem_cons_succ, List.getElem_cons_zero, List.setIfInBounds_toArray, List.set_cons_succ, List.set_cons_zero]
      refine wpAnyH_take (i := 5) (oi := _) (v := .int .i64 xb) rfl (by kernel_rfl) (by kernel_rfl) (by kernel_rfl) (fun _ _ _ h => h) (Or.inl ⟨by rfl, fun w' hSw => by have xx := (hSw.cell (p := ⟨gl, 1, none⟩) hgl).trans q1; go_simp⟩) hHeld ?_
      try simp only [Act.put, List.getElem_toArray, List.getElem_cons_succ, List.getElem_cons_zero, List.setIfInBounds_toArray, List.set_cons_succ, List.set_cons_zero]
      refine wpAnyH_take (i := 6) (oi := _) (v := .slice (some ⟨gl, 0, none⟩) 8 cap) rfl (by kernel_rfl) (by kernel_rfl) (by kernel_rfl) (fun _ _ _ h => h) (Or.inl ⟨by rfl, fun w' hSw => by go_simp⟩) hHeld ?_
      try simp only [Act.put, List.getElem_toArray, List.getElem_cons_succ, List.getElem_cons_zero, List.setIfInBounds_toArray, List.set_cons_succ, List.set_cons_zero]
      refine wpAnyH_take (i := 7) (oi := _) (v := .pointer (some ⟨gl, 2, none⟩)) rfl (by kernel_rfl) (by kernel_rfl) (by kernel_rfl) (fun _ _ _ h => h) (Or.inl ⟨by rfl, fun w' hSw => by go_simp⟩) hHeld ?_
      try simp only [Act.put, List.getElem_toArray, List.getElem_cons_succ, List.getElem_cons_zero, List.setIfInBounds_toArray, List.set_cons_succ, List.set_cons_zero]
      refine wpAnyH_take (i := 8) (oi := _) (v := .int .i64 xd) rfl (by kernel_rfl) (by kernel_rfl) (by kernel_rfl) (fun _ _ _ h => h) (Or.inl ⟨by rfl, fun w' hSw => by have xx := (hSw.cell (p := ⟨gl, 2, none⟩) hgl).trans q2; go_simp⟩) hHeld ?_
      try simp only [Act.put, List.getElem_toArray, List.getElem_cons_succ, List.getElem_cons_zero, List.setIfInBounds_toArray, List.set_cons_succ, List.set_cons_zero]
      refine wpAnyH_take (i := 9) (oi := _) (v := .slice (some ⟨gl, 0, none⟩) 8 cap) rfl (by kernel_rfl) (by kernel_rfl) (by kernel_rfl) (fun _ _ _ h => h) (Or.inl ⟨by rfl, fun w' hSw => by go_simp⟩) hHeld ?_
      try simp only [Act.put, List.getElem_toArray, List.getElem_cons_succ, List.getElem_cons_zero, List.setIfInBounds_toArray, List.set_cons_succ, List.set_cons_zero]
      refine wpAnyH_take (i := 10) (oi := _) (v := .pointer (some ⟨gl, 3, none⟩)) rfl (by kernel_rfl) (by kernel_rfl) (by kernel_rfl) (fun _ _ _ h => h) (Or.inl ⟨by rfl, fun w' hSw => by go_simp⟩) hHeld ?_
      try simp only [Act.put, List.getElem_toArray, List.getElem_cons_succ, List.getElem_cons_zero, List.setIfInBounds_toArray, List.set_cons_succ, List.set_cons_zero]
      refine wpAnyH_take (i := 11) (oi := _) (v := .int .i64 xe) rfl (by kernel_rfl) (by kernel_rfl) (by kernel_rfl) (fun _ _ _ h => h) (Or.inl ⟨by rfl, fun w' hSw => by have xx := (hSw.cell (p := ⟨gl, 3, none⟩) hgl).trans q3; go_simp⟩) hHeld ?_
      try simp only [Act.put, List.getElem_toArray, List.getElem_cons_succ, List.getElem_cons_zero, List.setIfInBounds_toArray, List.set_cons_succ, List.set_cons_zero]
      refine wpAnyH_take (i := 12) (oi := _) (v := .slice (some ⟨gl, 0, none⟩) 8 cap) rfl (by kernel_rfl) (by kernel_rfl) (by kernel_rfl) (fun _ _ _ h => h) (Or.inl ⟨by rfl, fun w' hSw => by go_simp⟩) hHeld ?_
      try simp only [Act.put, List.getElem_toArray, List.getElem_cons_succ, List.getElem_cons_zero, List.setIfInBounds_toArray, List.set_cons_succ, List.set_cons_zero]
      refine wpAnyH_take (i := 13) (oi := _) (v := .pointer (some ⟨gl, 4, none⟩)) rfl (by kernel_rfl) (by kernel_rfl) (by kernel_rfl) (fun _ _ _ h => h) (Or.inl ⟨by rfl, fun w' hSw => by go_simp⟩) hHeld ?_
      try simp only [Act.put, List.getElem_toArray, List.getElem_cons_succ, List.getElem_cons_zero, List.setIfInBounds_toArray, List.set_cons_succ, List.set_cons_zero]
      refine wpAnyH_take (i := 14) (oi := _) (v := .int .i64 xf) rfl (by kernel_rfl) (by kernel_rfl) (by kernel_rfl) (fun _ _ _ h => h) (Or.inl ⟨by rfl, fun w' hSw => by have xx := (hSw.cell (p := ⟨gl, 4, none⟩) hgl).trans q4; go_simp⟩) hHeld ?_
      try simp only [Act.put, List.getElem_toArray, List.getElem_cons_succ, List.getElem_cons_zero, List.setIfInBounds_toArray, List.set_cons_succ, List.set_cons_zero]
      refine wpAnyH_take (i := 15) (oi := _) (v := .slice (some ⟨gl, 0, none⟩) 8 cap) rfl (by kernel_rfl) (by kernel_rfl) (by kernel_rfl) (fun _ _ _ h => h) (Or.inl ⟨by rfl, fun w' hSw => by go_simp⟩) hHeld ?_
      try simp only [Act.put, List.getElem_toArray, List.getElem_cons_succ, List.getElem_cons_zero, List.setIfInBounds_toArray, List.set_cons_succ, List.set_cons_zero]
      refine wpAnyH_take (i := 16) (oi := _) (v := .pointer (some ⟨gl, 5, none⟩)) rfl (by kernel_rfl) (by kernel_rfl) (by kernel_rfl) (fun _ _ _ h => h) (Or.inl ⟨by rfl, fun w' hSw => by go_simp⟩) hHeld ?_
      try simp only [Act.put, List.getElem_toArray, List.getElem_cons_succ, List.getElem_cons_zero, List.setIfInBounds_toArray, List.set_cons_succ, List.set_cons_zero]
      refine wpAnyH_take (i := 17) (oi := _) (v := .int .i64 xg) rfl (by kernel_rfl) (by kernel_rfl) (by kernel_rfl) (fun _ _ _ h => h) (Or.inl ⟨by rfl, fun w' hSw => by have xx := (hSw.cell (p := ⟨gl, 5, none⟩) hgl).trans q5; go_simp⟩) hHeld ?_
      try simp only [Act.put, List.getElem_toArray, List.getElem_cons_succ, List.getElem_cons_zero, List.setIfInBounds_toArray, List.set_cons_succ, List.set_cons_zero]
      refine wpAnyH_take (i := 18) (oi := _) (v := .slice (some ⟨gl, 0, none⟩) 8 cap) rfl (by kernel_rfl) (by kernel_rfl) (by kernel_rfl) (fun _ _ _ h => h) (Or.inl ⟨by rfl, fun w' hSw => by go_simp⟩) hHeld ?_
      try simp only [Act.put, List.getElem_toArray, List.getElem_cons_succ, List.getElem_cons_zero, List.setIfInBounds_toArray, List.set_cons_succ, List.set_cons_zero]
      refine wpAnyH_take (i := 19) (oi := _) (v := .pointer (some ⟨gl, 6, none⟩)) rfl (by kernel_rfl) (by kernel_rfl) (by kernel_rfl) (fun _ _ _ h => h) (Or.inl ⟨by rfl, fun w' hSw => by go_simp⟩) hHeld ?_
      try simp only [Act.put, List.getElem_toArray, List.getElem_cons_succ, List.getElem_cons_zero, List.setIfInBounds_toArray, List.set_cons_succ, List.set_cons_zero]
      refine wpAnyH_take (i := 20) (oi := _) (v := .int .i64 xh) rfl (by kernel_rfl) (by kernel_rfl) (by kernel_rfl) (fun _ _ _ h => h) (Or.inl ⟨by rfl, fun w' hSw => by have xx := (hSw.cell (p := ⟨gl, 6, none⟩) hgl).trans q6; go_simp⟩) hHeld ?_
      try simp only [Act.put, List.getElem_toArray, List.getElem_cons_succ, List.getElem_cons_zero, List.setIfInBounds_toArray, List.set_cons_succ, List.set_cons_zero]
      refine wpAnyH_take (i := 21) (oi := _) (v := .slice (some ⟨gl, 0, none⟩) 8 cap) rfl (by kernel_rfl) (by kernel_rfl) (by kernel_rfl) (fun _ _ _ h => h) (Or.inl ⟨by rfl, fun w' hSw => by go_simp⟩) hHeld ?_
      try simp only [Act.put, List.getElem_toArray, List.getElem_cons_succ, List.getElem_cons_zero, List.setIfInBounds_toArray, List.set_cons_succ, List.set_cons_zero]
      refine wpAnyH_take (i := 22) (oi := _) (v := .pointer (some ⟨gl, 7, none⟩)) rfl (by kernel_rfl) (by kernel_rfl) (by kernel_rfl) (fun _ _ _ h => h) (Or.inl ⟨by rfl, fun w' hSw => by go_simp⟩) hHeld ?_
      try simp only [Act.put, List.getElem_toArray, List.getElem_cons_succ, List.getElem_cons_zero, List.setIfInBounds_toArray, List.set_cons_succ, List.set_cons_zero]
      refine wpAnyH_take (i := 23) (oi := _) (v := .int .i64 xi) rfl (by kernel_rfl) (by kernel_rfl) (by kernel_rfl) (fun _ _ _ h => h) (Or.inl ⟨by rfl, fun w' hSw => by have xx := (hSw.cell (p := ⟨gl, 7, none⟩) hgl).trans q7; go_simp⟩) hHeld ?_
      try simp only [Act.put, List.getElem_toArray, List.getElem_cons_succ, List.getElem_cons_zero, List.setIfInBounds_toArray, List.set_cons_succ, List.set_cons_zero]
      refine wpAnyH_take (i := 24) (oi := _) (v := .int .u64 xi) rfl (by kernel_rfl) (by kernel_rfl) (by kernel_rfl) (fun _ _ _ h => h) (Or.inl ⟨by rfl, fun w' hSw => by have xu := hu8; go_simp⟩) hHeld ?_
      try simp only [Act.put, List.getElem_toArray, List.getElem_cons_succ, List.getElem_cons_zero, List.setIfInBounds_toArray, List.set_cons_succ, List.set_cons_zero]
      refine wpAnyH_take (i := 25) (oi := _) (v := .agg #[.int .i64 xa, .int .i64 xb, .int .i64 xd, .int .i64 xe, .int .i64 xf, .int .i64 xg, .int .i64 xh, .int .u64 xi]) rfl (by kernel_rfl) (by kernel_rfl) (by kernel_rfl) (fun _ _ _ h => h) (Or.inl ⟨by rfl, fun w' hSw => by have xu := hbd; go_simp⟩) hHeld ?_
      try simp only [Act.put, List.getElem_toArray, List.getElem_cons_succ, List.getElem_cons_zero, List.setIfInBounds_toArray, List.set_cons_succ, List.set_cons_zero]
      refine wpAnyH_ready (rs := [26]) (by kernel_rfl) (by simp) ?_
      refine AllReadyH.cons (o := _) rfl (fun K hK => ?_) AllReadyH.nil
      go_simp
      obtain ⟨za, hza⟩ : ∃ u, u = z0.alloc (.cells #[.int .i64 0, .int .i64 0, .int .i64 0, .int .i64 0, .int .i64 0, .int .i64 0, .int .i64 0, .int .u64 0] 24) := ⟨_, rfl⟩
      have BX := Bk.new z0 #[.int .i64 0, .int .i64 0, .int .i64 0, .int .i64 0, .int .i64 0, .int .i64 0, .int .i64 0, .int .u64 0] 24
      have gb7 := hHeld.size
      have hb7 : Below w1.heap.size w1 (z0.alloc (.cells #[.int .i64 0, .int .i64 0, .int .i64 0, .int .i64 0, .int .i64 0, .int .i64 0, .int .i64 0, .int .u64 0] 24)) := hHeld.alloc hHeld.size _
      rw [← hza] at BX hb7 ⊢
      clear hza
      obtain ⟨gb, hgb⟩ : ∃ q, q = z0.heap.size := ⟨_, rfl⟩
      rw [← hgb] at BX gb7 ⊢
      clear hgb
      have bxl := BX.lt
      refine hK.out _ _ hb7 (fun hHeld => ?_)
      clear hK K hb7
      try simp only [Act.put, List.getElem_toArray, List.getElem_cons_succ, List.getElem_cons_zero, List.setIfInBounds_toArray, List.set_cons_succ, List.set_cons_zero]
      refine wpAnyH_ready (rs := [27]) (by kernel_rfl) (by simp) ?_
      refine AllReadyH.cons (o := _) rfl (fun K hK => ?_) AllReadyH.nil
      have B8 := BX.setRow #[.int .i64 xa, .int .i64 xb, .int .i64 xd, .int .i64 xe, .int .i64 xf, .int .i64 xg, .int .i64 xh, .int .u64 xi]
      have hb8 := below_setRow hHeld gb7 #[.int .i64 xa, .int .i64 xb, .int .i64 xd, .int .i64 xe, .int .i64 xf, .int .i64 xg, .int .i64 xh, .int .u64 xi]
      refine step_row rfl 24 (.tmp 7) (.tmp 45) rfl gb #[.int .i64 xa, .int .i64 xb, .int .i64 xd, .int .i64 xe, .int .i64 xf, .int .i64 xg, .int .i64 xh, .int .u64 xi] rfl rfl 24 #[.int .i64 0, .int .i64 0, .int .i64 0, .int .i64 0, .int .i64 0, .int .i64 0, .int .i64 0, .int .u64 0] (by exact BX) (by kernel_rfl) rfl (by kernel_rfl) ?_
      obtain ⟨z8, hz8⟩ : ∃ u, u = za.setRow gb #[.int .i64 xa, .int .i64 xb, .int .i64 xd, .int .i64 xe, .int .i64 xf, .int .i64 xg, .int .i64 xh, .int .u64 xi] := ⟨_, rfl⟩
      rw [← hz8] at B8 hb8 ⊢
      clear hz8 BX
      refine hK.out _ _ hb8 (fun hHeld => ?_)
      clear hK K hb8
      try simp only [Act.put, List.getElem_toArray, List.getElem_cons_succ, List.getElem_cons_zero, List.setIfInBounds_toArray, List.set_cons_succ, List.set_cons_zero]

      refine wpAnyH_done (by kernel_rfl) ?_ _
      have HH := Lib.hid hHeld
      have R8 := HB1.out.keep hHeld
      have hne : b ≠ gb := fun e => by have := HB1.out.lt; omega
      have hRN := R8.setRow (rdC ⟨xa, xb, xd, xe, xf, xg, xh, xi⟩ vp vk st.b m)
      have B9 := B8.setRow_far (fun e => hne e.symm) (rdC ⟨xa, xb, xd, xe, xf, xg, xh, xi⟩ vp vk st.b m)
      have HR8 := Lib.hid R8
      have HRN := Lib.hid hRN
      clear q0 q1 q2 q3 q4 q5 q6 q7 hu8 hbd hRN hHeld
      obtain ⟨z9, hz9⟩ : ∃ u, u = z8.setRow b (rdC ⟨xa, xb, xd, xe, xf, xg, xh, xi⟩ vp vk st.b m) := ⟨_, rfl⟩
      have HZ := Lib.hid hz9
      rw [← hz9] at HRN B9
      go_wp2_with (first | (refine wpList_load_row rfl 24 _ rfl gb rfl _ #[.int .i64 xa, .int .i64 xb, .int .i64 xd, .int .i64 xe, .int .i64 xf, .int .i64 xg, .int .i64 xh, .int .u64 xi] (0, 0) _ (by exact B8) Tryz.underlying24 rfl (by kernel_rfl) ?_) | (refine Sub.wpList_store_sub rfl 24 _ _ rfl b 0 #[.int .i64 xa, .int .i64 xb, .int .i64 xd, .int .i64 xe, .int .i64 xf, .int .i64 xg, .int .i64 xh, .int .u64 xi] rfl rfl _ _ (rdC ⟨xa, xb, xd, xe, xf, xg, xh, xi⟩ vp vk st.b m) (by exact R8) (by kernel_rfl) (Nat.le_of_ble_eq_true (by kernel_rfl)) (by kernel_rfl) (by kernel_rfl) ?_; rw [← hz9]; clear hz9 R8 B8) | (refine wpList_load_row rfl 24 _ rfl gb rfl _ #[.int .i64 xa, .int .i64 xb, .int .i64 xd, .int .i64 xe, .int .i64 xf, .int .i64 xg, .int .i64 xh, .int .u64 xi] (0, 0) _ (by exact B9) Tryz.underlying24 rfl (by kernel_rfl) ?_))
      have HC := Lib.hid (check ⟨xa, xb, xd, xe, xf, xg, xh, xi⟩ HWF.out z9)
      refine HC.out.mono ?_
      rintro e w10 ⟨rfl, hb10⟩
      have HW10 := Lib.hid hb10
      clear hb10
      go_wp2_with fail
      go_ret
      have szz : z9.heap.size = z8.heap.size := by rw [HZ.out]; simp [World.setRow]
      have F8 : Far B b w1 z8 := Far.of HH.out (Nat.le_trans hBw HW1.out.size)
      have F9 : Far B b z8 z9 := by rw [HZ.out]; exact Far.setRow B b z8 _
      have F10 : Far B b z9 w10 := Far.of HW10.out (by rw [szz]; exact Nat.le_trans hBw (Nat.le_trans HW1.out.size HH.out.size))
      refine ⟨_, rfl, ((Far.of HW1.out hBw).trans F8).trans (F9.trans F10), ?_⟩
      rw [HX.out, Option.bind_some]
      have hsame : ∀ g, B ≤ g → g < w.heap.size → w10.heap[g]? = w.heap[g]? := fun g hg1 hg2 => by
        have l1 := HW1.out.size
        have l2 := HH.out.size
        rw [HW10.out.block g (by omega), HZ.out, setRow_other z8 b g _ (by omega), HH.out.block g (by omega), HW1.out.block g hg2]
      refine ⟨by unfold okC; rfl, hbB, by have l1 := HW1.out.size; have l2 := HH.out.size; have l3 := HW10.out.size; omega, vp, vk, U, HRN.out.keep HW10.out, HOP.out.same hsame, own_same HOK.out (fun g hg => hsame g (World.ownsRow.lt HOK.out g hg).1 (World.ownsRow.lt HOK.out g hg).2)⟩
end Go.Proofs.YtpmcedfeiconfaaGreatDoor.Scw

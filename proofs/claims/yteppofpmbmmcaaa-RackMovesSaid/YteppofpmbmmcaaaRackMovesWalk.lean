/- The law RackMoves, walked (made by genmoves.py). -/
import Derived.Test.YteppofpmbmmcaaaEnv
import Derived.Deep.CutRange
namespace Go.Proofs.Yteppofpmbmmcaaa.Wo
open Go Go.RowKit Go.Proofs.Yteppofpmbmmcaaa.Gro Go.Proofs.Yteppofpmbmmcaaa.Own Go.Proofs.Yteppofpmbmmcaaa.Wd Go.Proofs.Yteppofpmbmmcaaa.Ap Go.Proofs.Yteppofpmbmmcaaa.Pl
set_option linter.unusedVariables false
set_option linter.unusedSimpArgs false

theorem few_take {m : Nat} {x : St} (h : Few m x) : Few m (takeS x) := ⟨by simp [takeS]; have := h.rk; omega, h.l0, h.l1, h.l2, h.hl, h.rd⟩
theorem few_next {m : Nat} {x : St} (h : Few m x) : Few m (nextS x) := ⟨h.rk, h.l0, h.l1, h.l2, by simp [nextS]; have := h.hl; omega, h.rd⟩
set_option maxRecDepth 100000 in
set_option maxHeartbeats 4000000 in
theorem rackMoves_great (c : Cfg) (s : Wk) (x : St) (hx : ¬ Few 40 x) (b : Int) (v : Sl) (w : World) (h : Lies w s x) :
    Calls Try.prog 6 #[cv c, wv s, .int .i64 b, v.v] w fun e w' => e = .returned (.bool true) ∧ Below w.heap.size w w' := by
  have E0 : Env w c [(w.heap.size + 1, s, x)] ((w.alloc (.cells (ccW c) 24)).alloc (.cells (wc s) 72)) :=
    have hb : Below w.heap.size w ((w.alloc (.cells (ccW c) 24)).alloc (.cells (wc s) 72)) := ((Below.refl _ _).alloc (Nat.le_refl _) _).alloc (by simp) _
    ⟨(Bk.new w (ccW c) 24).alloc _, (fun e he => by
      rcases List.mem_cons.1 he with rfl | he
      · have := Bk.new (w.alloc (.cells (ccW c) 24)) (wc s) 72
        exact ⟨by simpa using this, h.keep hb⟩
      · cases he), hb⟩
  go_enter Try.func6, Try.ntmps6
  go_wp2_with fail
  refine (awake4 _).mono ?_
  rintro e w1 ⟨rfl, hb1⟩
  have E1 := E0.keep hb1
  clear E0 hb1
  go_wp2_with (refine wpList_load_row rfl 72 _ rfl (w.heap.size + 1) rfl _ (wc s) (0, 0) _ (by exact (E1.bk (g := w.heap.size + 1) (s := s) (x := x) (by simp))) Try.underlying72 rfl (by kernel_rfl) ?_)
  refine (great_yes s x _ (E1.lies (g := w.heap.size + 1) (s := s) (x := x) (by simp)) hx).mono ?_
  rintro e w2 ⟨rfl, hb2⟩
  go_wp2
  go_ret
  exact ⟨rfl, (E1.keep hb2).below⟩
set_option maxRecDepth 100000 in
set_option maxHeartbeats 4000000 in
theorem rackMoves_long (c : Cfg) (s : Wk) (x : St) (hx : Few 40 x) (b : Int) (ad : Option Addr) (n cap : Nat) (hn : 40 < n) (hm : n ≤ 9223372036854775807) (w : World) (h : Lies w s x) :
    Calls Try.prog 6 #[cv c, wv s, .int .i64 b, .slice ad n cap] w fun e w' => e = .returned (.bool true) ∧ Below w.heap.size w w' := by
  have E0 : Env w c [(w.heap.size + 1, s, x)] ((w.alloc (.cells (ccW c) 24)).alloc (.cells (wc s) 72)) :=
    have hb : Below w.heap.size w ((w.alloc (.cells (ccW c) 24)).alloc (.cells (wc s) 72)) := ((Below.refl _ _).alloc (Nat.le_refl _) _).alloc (by simp) _
    ⟨(Bk.new w (ccW c) 24).alloc _, (fun e he => by
      rcases List.mem_cons.1 he with rfl | he
      · have := Bk.new (w.alloc (.cells (ccW c) 24)) (wc s) 72
        exact ⟨by simpa using this, h.keep hb⟩
      · cases he), hb⟩
  go_enter Try.func6, Try.ntmps6
  go_wp2_with fail
  refine (awake4 _).mono ?_
  rintro e w1 ⟨rfl, hb1⟩
  have E1 := E0.keep hb1
  clear E0 hb1
  go_wp2_with (refine wpList_load_row rfl 72 _ rfl (w.heap.size + 1) rfl _ (wc s) (0, 0) _ (by exact (E1.bk (g := w.heap.size + 1) (s := s) (x := x) (by simp))) Try.underlying72 rfl (by kernel_rfl) ?_)
  refine (great_no s x _ (E1.lies (g := w.heap.size + 1) (s := s) (x := x) (by simp)) hx).mono ?_
  rintro e w2 ⟨rfl, hb2⟩
  go_wp2
  go_ret
  exact ⟨rfl, (E1.keep hb2).below⟩
set_option maxRecDepth 100000 in
set_option maxHeartbeats 40000000 in
theorem rackMoves_few (c : Cfg) (s : Wk) (x : St) (hx : Few 40 x) (b : Int) (ad : Option Addr) (cap : Nat) (L : List Int) (hL : L.length ≤ 40) (w : World) (h : Lies w s x) (hv : Reads w .i64 (.slice ad L.length cap) L) :
    Calls Try.prog 6 #[cv c, wv s, .int .i64 b, .slice ad L.length cap] w fun e w' => e = .returned (.bool true) ∧ Below w.heap.size w w' := by
  have hx9 := hx.mono (show 40 ≤ 900 by omega)
  have hxt := (few_take hx).mono (show 40 ≤ 900 by omega)
  have hxn := (few_next hx).mono (show 40 ≤ 900 by omega)
  have E0 : Env w c [(w.heap.size + 1, s, x)] ((w.alloc (.cells (ccW c) 24)).alloc (.cells (wc s) 72)) :=
    have hb : Below w.heap.size w ((w.alloc (.cells (ccW c) 24)).alloc (.cells (wc s) 72)) := ((Below.refl _ _).alloc (Nat.le_refl _) _).alloc (by simp) _
    ⟨(Bk.new w (ccW c) 24).alloc _, (fun e he => by
      rcases List.mem_cons.1 he with rfl | he
      · have := Bk.new (w.alloc (.cells (ccW c) 24)) (wc s) 72
        exact ⟨by simpa using this, h.keep hb⟩
      · cases he), hb⟩
  go_enter Try.func6, Try.ntmps6
  go_wp2_with fail
  refine (awake4 _).mono ?_
  rintro e w1 ⟨rfl, hb1⟩
  have E1 := E0.keep hb1
  clear E0 hb1
  go_wp2_with (refine wpList_load_row rfl 72 _ rfl (w.heap.size + 1) rfl _ (wc s) (0, 0) _ (by exact (E1.bk (g := w.heap.size + 1) (s := s) (x := x) (by simp))) Try.underlying72 rfl (by kernel_rfl) ?_)
  refine (great_no s x _ (E1.lies (g := w.heap.size + 1) (s := s) (x := x) (by simp)) hx).mono ?_
  rintro e w2 ⟨rfl, hb2⟩
  have E2 := E1.keep hb2
  clear E1 hb2
  go_wp2_with (refine wpList_load_row rfl 72 _ rfl (w.heap.size + 1) rfl _ (wc s) (0, 0) _ (by exact (E2.bk (g := w.heap.size + 1) (s := s) (x := x) (by simp))) Try.underlying72 rfl (by kernel_rfl) ?_)
  refine (refCopy s x hx9 _ (E2.lies (g := w.heap.size + 1) (s := s) (x := x) (by simp))).mono ?_
  rintro e w3 ⟨s3, rfl, L3, hb3⟩
  have E3 := E2.box hb3 L3.lies
  have Z3 := Bk.new w3 (wc wz) 72
  clear E2 hb3
  have cc := E3.C.cells
  go_wp2_with (first | (refine wpList_alloc_wz rfl rfl ?_) | (refine wpList_store_row rfl 72 _ _ rfl (w3.heap.size) (wc s3) rfl rfl _ _ (by exact Z3) (by kernel_rfl) (by kernel_rfl) (by kernel_rfl) ?_) | (refine wpList_load_row rfl 72 _ rfl (w.heap.size + 1) rfl _ (wc s) (0, 0) _ (by exact (E3.bk (g := w.heap.size + 1) (s := s) (x := x) (by simp))) Try.underlying72 rfl (by kernel_rfl) ?_))
  refine (rackPut c s x hx9 b _ (E3.lies (g := w.heap.size + 1) (s := s) (x := x) (by simp))).mono ?_
  rintro e w4 ⟨s4, rfl, L4, hb4⟩
  have E4 := E3.box hb4 L4.lies
  have Z4 := Bk.new w4 (wc wz) 72
  clear E3 cc hb4
  have cc := E4.C.cells
  go_wp2_with (first | (refine wpList_alloc_wz rfl rfl ?_) | (refine wpList_store_row rfl 72 _ _ rfl (w4.heap.size) (wc s4) rfl rfl _ _ (by exact Z4) (by kernel_rfl) (by kernel_rfl) (by kernel_rfl) ?_) | (refine wpList_load_row rfl 72 _ rfl (w3.heap.size) rfl _ (wc s3) (0, 0) _ (by exact (E4.bk (g := w3.heap.size) (s := s3) (x := x) (by simp))) Try.underlying72 rfl (by kernel_rfl) ?_))
  refine (refPut c s3 x hx9 b _ (E4.lies (g := w3.heap.size) (s := s3) (x := x) (by simp))).mono ?_
  rintro e w5 ⟨s5, rfl, L5, hb5⟩
  have E5 := E4.box hb5 L5
  have Z5 := Bk.new w5 (wc wz) 72
  clear E4 cc hb5
  have cc := E5.C.cells
  go_wp2_with (first | (refine wpList_alloc_wz rfl rfl ?_) | (refine wpList_store_row rfl 72 _ _ rfl (w5.heap.size) (wc s5) rfl rfl _ _ (by exact Z5) (by kernel_rfl) (by kernel_rfl) (by kernel_rfl) ?_) | (refine wpList_load_row rfl 72 _ rfl (w.heap.size + 1) rfl _ (wc s) (0, 0) _ (by exact (E5.bk (g := w.heap.size + 1) (s := s) (x := x) (by simp))) Try.underlying72 rfl (by kernel_rfl) ?_))
  refine (rackTake s x hx9 _ (E5.lies (g := w.heap.size + 1) (s := s) (x := x) (by simp))).mono ?_
  rintro e w6 ⟨s6, rfl, L6, hb6⟩
  have E6 := E5.box hb6 L6.lies
  have Z6 := Bk.new w6 (wc wz) 72
  clear E5 cc hb6
  have cc := E6.C.cells
  go_wp2_with (first | (refine wpList_alloc_wz rfl rfl ?_) | (refine wpList_store_row rfl 72 _ _ rfl (w6.heap.size) (wc s6) rfl rfl _ _ (by exact Z6) (by kernel_rfl) (by kernel_rfl) (by kernel_rfl) ?_) | (refine wpList_load_row rfl 72 _ rfl (w3.heap.size) rfl _ (wc s3) (0, 0) _ (by exact (E6.bk (g := w3.heap.size) (s := s3) (x := x) (by simp))) Try.underlying72 rfl (by kernel_rfl) ?_))
  refine (refTake s3 x hx9 _ (E6.lies (g := w3.heap.size) (s := s3) (x := x) (by simp))).mono ?_
  rintro e w7 ⟨s7, rfl, L7, hb7⟩
  have E7 := E6.box hb7 L7
  have Z7 := Bk.new w7 (wc wz) 72
  clear E6 cc hb7
  have cc := E7.C.cells
  go_wp2_with (first | (refine wpList_alloc_wz rfl rfl ?_) | (refine wpList_store_row rfl 72 _ _ rfl (w7.heap.size) (wc s7) rfl rfl _ _ (by exact Z7) (by kernel_rfl) (by kernel_rfl) (by kernel_rfl) ?_))
  clear cc
  obtain ⟨ws, hws⟩ : ∃ ws, ws = (w7.alloc (.cells (wc wz) 72)).setRow w7.heap.size (wc s7) := ⟨_, rfl⟩
  rw [← hws] at E7 ⊢
  clear hws
  have ER := E7
  go_cut [18, 19] from 59 to 64 (fun p q wr => ∃ gf gg sf sg, p = .pointer (some ⟨gf, 0, none⟩) ∧ q = .pointer (some ⟨gg, 0, none⟩) ∧ Env w c ((gf, sf, holdS x L) :: (gg, sg, holdS x L) :: [(w7.heap.size, s7, takeS x), (w6.heap.size, s6, takeS x), (w5.heap.size, s5, putS c.rk x b), (w4.heap.size, s4, putS c.rk x b), (w3.heap.size, s3, x), (w.heap.size + 1, s, x)]) wr)
  case first =>
    have xgx := (ER.bk (g := w.heap.size + 1) (s := s) (x := x) (by simp))
    have xgw := (ER.bk (g := w3.heap.size) (s := s3) (x := x) (by simp))
    have LX := (ER.lies (g := w.heap.size + 1) (s := s) (x := x) (by simp))
    have LW := (ER.lies (g := w3.heap.size) (s := s3) (x := x) (by simp))
    have HVL := hv.keep ER.below
    have HF := Lib.hid (fun (w' : World) (h1 : Lies w' s x) (h2 : Reads w' .i64 (.slice ad L.length cap) L) => rackHold s x hx9 ⟨ad, L.length, cap⟩ L (by omega) w' h1 h2)
    have HG := Lib.hid (fun (w' : World) (h1 : Lies w' s3 x) (h2 : Reads w' .i64 (.slice ad L.length cap) L) => refHold s3 x hx9 ⟨ad, L.length, cap⟩ L (by omega) w' h1 h2)
    clear E7
    obtain ⟨gx, hgx⟩ : ∃ g, g = w.heap.size + 1 := ⟨_, rfl⟩
    obtain ⟨gw, hgw⟩ : ∃ g, g = w3.heap.size := ⟨_, rfl⟩
    rw [← hgx] at xgx
    rw [← hgw] at xgw
    rw [← hgx, ← hgw]
    have hs0 : ws.drew.heap.size = ws.heap.size := rfl
    have hsb0 : Below ws.heap.size ws ws.drew := Below.drew (Below.refl _ _)
    refine wp_region_held_drew (S := fun w' => Below ws.heap.size ws w') (by kernel_rfl) hsb0 (fun hHeld => ?_)
    generalize ws.drew = u0 at *
    refine wpAnyH_take (i := 0) (oi := _) (v := .agg (wc s)) rfl (by kernel_rfl) (by kernel_rfl) (by kernel_rfl) (fun _ _ _ h => h) (yieldsIf_row rfl 72 _ rfl (gx) rfl (wc s) 72 _ (fun w' hw' => Bk.keep xgx hw') Try.underlying72 rfl (by kernel_rfl)) hHeld ?_
    try simp only [Act.put, List.getElem_toArray, List.getElem_cons_succ, List.getElem_cons_zero, List.setIfInBounds_toArray, List.set_cons_succ, List.set_cons_zero]
    refine wpAnyH_take (i := 1) (oi := _) (v := .slice ad L.length cap) rfl (by kernel_rfl) (by kernel_rfl) (by kernel_rfl) (fun _ _ _ h => h) (Or.inl ⟨by rfl, fun w' hSw => by go_simp⟩) hHeld ?_
    try simp only [Act.put, List.getElem_toArray, List.getElem_cons_succ, List.getElem_cons_zero, List.setIfInBounds_toArray, List.set_cons_succ, List.set_cons_zero]
    refine wpAnyH_take (i := 3) (oi := _) (v := .agg (wc s3)) rfl (by kernel_rfl) (by kernel_rfl) (by kernel_rfl) (fun _ _ _ h => h) (yieldsIf_row rfl 72 _ rfl (gw) rfl (wc s3) 72 _ (fun w' hw' => Bk.keep xgw hw') Try.underlying72 rfl (by kernel_rfl)) hHeld ?_
    try simp only [Act.put, List.getElem_toArray, List.getElem_cons_succ, List.getElem_cons_zero, List.setIfInBounds_toArray, List.set_cons_succ, List.set_cons_zero]
    refine wpAnyH_take (i := 4) (oi := _) (v := .slice ad L.length cap) rfl (by kernel_rfl) (by kernel_rfl) (by kernel_rfl) (fun _ _ _ h => h) (Or.inl ⟨by rfl, fun w' hSw => by go_simp⟩) hHeld ?_
    try simp only [Act.put, List.getElem_toArray, List.getElem_cons_succ, List.getElem_cons_zero, List.setIfInBounds_toArray, List.set_cons_succ, List.set_cons_zero]
    refine wpAnyH_ready (rs := [2, 6, 7]) (by kernel_rfl) (by simp) ?_
    refine AllReadyH.cons (o := _) rfl (fun K hK => ?_) (AllReadyH.cons (o := _) rfl (fun K hK => ?_) (AllReadyH.cons (o := _) rfl (fun K hK => ?_) (AllReadyH.nil)))
    · go_simp
      refine (HF.out _ (LX.keep hHeld) (HVL.keep hHeld)).mono ?_
      rintro e u02 ⟨sf, rfl, ⟨LF2, _⟩, hb⟩
      have LC2 := LF2.lies
      have L2 := LF2.lies
      have hHeld' := hHeld.trans (hb.mono hHeld.size)
      have hszu02 := hb.size
      refine hK.out _ _ hHeld' (fun hHeld => ?_)
      clear hK K
      try simp only [Act.put, List.getElem_toArray, List.getElem_cons_succ, List.getElem_cons_zero, List.setIfInBounds_toArray, List.set_cons_succ, List.set_cons_zero]
      clear hb hHeld'
      refine wpAnyH_ready (rs := [5, 6, 7]) (by kernel_rfl) (by simp) ?_
      refine AllReadyH.cons (o := _) rfl (fun K hK => ?_) (AllReadyH.cons (o := _) rfl (fun K hK => ?_) (AllReadyH.cons (o := _) rfl (fun K hK => ?_) (AllReadyH.nil)))
      · go_simp
        refine (HG.out _ (LW.keep hHeld) (HVL.keep hHeld)).mono ?_
        rintro e u025 ⟨sg, rfl, L5, RG5, EG5, hb⟩
        have LC5 := L5
        have hHeld' := hHeld.trans (hb.mono hHeld.size)
        have hszu025 := hb.size
        refine hK.out _ _ hHeld' (fun hHeld => ?_)
        clear hK K
        try simp only [Act.put, List.getElem_toArray, List.getElem_cons_succ, List.getElem_cons_zero, List.setIfInBounds_toArray, List.set_cons_succ, List.set_cons_zero]
        have L2 := L2.keep hb
        clear hb hHeld'
        refine wpAnyH_ready (rs := [6, 7]) (by kernel_rfl) (by simp) ?_
        refine AllReadyH.cons (o := _) rfl (fun K hK => ?_) (AllReadyH.cons (o := _) rfl (fun K hK => ?_) (AllReadyH.nil))
        · refine step_alloc_wz rfl rfl ?_
          have hb : Below u025.heap.size u025 (u025.alloc (.cells (wc wz) 72)) := (Below.refl _ _).alloc (Nat.le_refl _) _
          have hsz : u025.heap.size + 1 ≤ (u025.alloc (.cells (wc wz) 72)).heap.size := by simp
          have Z6 := Bk.new u025 (wc wz) 72
          obtain ⟨g6, hg6⟩ : ∃ g, g = u025.heap.size := ⟨_, rfl⟩
          rw [← hg6] at Z6 ⊢
          have hga6 : g6 ≤ u025.heap.size := by omega
          have hgb6 : u025.heap.size ≤ g6 := by omega
          clear hg6
          generalize u025.alloc (.cells (wc wz) 72) = u0256 at *
          have hHeld' := hHeld.trans (hb.mono hHeld.size)
          have hszu0256 := hb.size
          refine hK.out _ _ hHeld' (fun hHeld => ?_)
          clear hK K
          try simp only [Act.put, List.getElem_toArray, List.getElem_cons_succ, List.getElem_cons_zero, List.setIfInBounds_toArray, List.set_cons_succ, List.set_cons_zero]
          have L2 := L2.keep hb
          have L5 := L5.keep hb
          clear hb hHeld'
          refine wpAnyH_ready (rs := [7]) (by kernel_rfl) (by simp) ?_
          refine AllReadyH.cons (o := _) rfl (fun K hK => ?_) AllReadyH.nil
          refine step_alloc_wz rfl rfl ?_
          have hb : Below u0256.heap.size u0256 (u0256.alloc (.cells (wc wz) 72)) := (Below.refl _ _).alloc (Nat.le_refl _) _
          have hsz : u0256.heap.size + 1 ≤ (u0256.alloc (.cells (wc wz) 72)).heap.size := by simp
          have Z7 := Bk.new u0256 (wc wz) 72
          obtain ⟨g7, hg7⟩ : ∃ g, g = u0256.heap.size := ⟨_, rfl⟩
          rw [← hg7] at Z7 ⊢
          have hga7 : g7 ≤ u0256.heap.size := by omega
          have hgb7 : u0256.heap.size ≤ g7 := by omega
          clear hg7
          generalize u0256.alloc (.cells (wc wz) 72) = u02567 at *
          have hHeld' := hHeld.trans (hb.mono hHeld.size)
          have hszu02567 := hb.size
          refine hK.out _ _ hHeld' (fun hHeld => ?_)
          clear hK K
          try simp only [Act.put, List.getElem_toArray, List.getElem_cons_succ, List.getElem_cons_zero, List.setIfInBounds_toArray, List.set_cons_succ, List.set_cons_zero]
          have L2 := L2.keep hb
          have L5 := L5.keep hb
          have Z6 := Z6.keep hb
          clear hb hHeld'
          refine wpAnyH_ready (rs := [8]) (by kernel_rfl) (by simp) ?_
          refine AllReadyH.cons (o := _) rfl (fun K hK => ?_) AllReadyH.nil
          refine step_row rfl 72 _ _ rfl g6 (wc sf) rfl rfl _ _ (by exact Z6) (by kernel_rfl) (by kernel_rfl) (by kernel_rfl) ?_
          refine hK.out _ _ (below_setRow hHeld (by omega) _) (fun hHeld2 => ?_)
          clear hK K
          try simp only [Act.put, List.getElem_toArray, List.getElem_cons_succ, List.getElem_cons_zero, List.setIfInBounds_toArray, List.set_cons_succ, List.set_cons_zero]
          refine wpAnyH_ready (rs := [9]) (by kernel_rfl) (by simp) ?_
          refine AllReadyH.cons (o := _) rfl (fun K hK => ?_) AllReadyH.nil
          refine step_row rfl 72 _ _ rfl g7 (wc sg) rfl rfl _ _ (by exact Bk.setRow_far Z7 (by omega) _) (by kernel_rfl) (by kernel_rfl) (by kernel_rfl) ?_
          refine hK.out _ _ (below_setRow hHeld2 (by omega) _) (fun hHeld3 => ?_)
          clear hK K
          try simp only [Act.put, List.getElem_toArray, List.getElem_cons_succ, List.getElem_cons_zero, List.setIfInBounds_toArray, List.set_cons_succ, List.set_cons_zero]
          refine wpAnyH_done (by kernel_rfl) ?_ _
          simp only [Exit.then]
          apply_assumption
          go_meet
          case rel => exact ⟨g6, g7, sf, sg, rfl, rfl, ER.two hHeld Z6 Z7 (by omega) (by omega) (by omega) L2 L5 (noB_new LC2 (by omega)) (noB_new LC2 (by omega)) (noB_new LC5 (by omega)) (noB_new LC5 (by omega))⟩
        · refine step_alloc_wz rfl rfl ?_
          have hb : Below u025.heap.size u025 (u025.alloc (.cells (wc wz) 72)) := (Below.refl _ _).alloc (Nat.le_refl _) _
          have hsz : u025.heap.size + 1 ≤ (u025.alloc (.cells (wc wz) 72)).heap.size := by simp
          have Z7 := Bk.new u025 (wc wz) 72
          obtain ⟨g7, hg7⟩ : ∃ g, g = u025.heap.size := ⟨_, rfl⟩
          rw [← hg7] at Z7 ⊢
          have hga7 : g7 ≤ u025.heap.size := by omega
          have hgb7 : u025.heap.size ≤ g7 := by omega
          clear hg7
          generalize u025.alloc (.cells (wc wz) 72) = u0257 at *
          have hHeld' := hHeld.trans (hb.mono hHeld.size)
          have hszu0257 := hb.size
          refine hK.out _ _ hHeld' (fun hHeld => ?_)
          clear hK K
          try simp only [Act.put, List.getElem_toArray, List.getElem_cons_succ, List.getElem_cons_zero, List.setIfInBounds_toArray, List.set_cons_succ, List.set_cons_zero]
          have L2 := L2.keep hb
          have L5 := L5.keep hb
          clear hb hHeld'
          refine wpAnyH_ready (rs := [6]) (by kernel_rfl) (by simp) ?_
          refine AllReadyH.cons (o := _) rfl (fun K hK => ?_) AllReadyH.nil
          refine step_alloc_wz rfl rfl ?_
          have hb : Below u0257.heap.size u0257 (u0257.alloc (.cells (wc wz) 72)) := (Below.refl _ _).alloc (Nat.le_refl _) _
          have hsz : u0257.heap.size + 1 ≤ (u0257.alloc (.cells (wc wz) 72)).heap.size := by simp
          have Z6 := Bk.new u0257 (wc wz) 72
          obtain ⟨g6, hg6⟩ : ∃ g, g = u0257.heap.size := ⟨_, rfl⟩
          rw [← hg6] at Z6 ⊢
          have hga6 : g6 ≤ u0257.heap.size := by omega
          have hgb6 : u0257.heap.size ≤ g6 := by omega
          clear hg6
          generalize u0257.alloc (.cells (wc wz) 72) = u02576 at *
          have hHeld' := hHeld.trans (hb.mono hHeld.size)
          have hszu02576 := hb.size
          refine hK.out _ _ hHeld' (fun hHeld => ?_)
          clear hK K
          try simp only [Act.put, List.getElem_toArray, List.getElem_cons_succ, List.getElem_cons_zero, List.setIfInBounds_toArray, List.set_cons_succ, List.set_cons_zero]
          have L2 := L2.keep hb
          have L5 := L5.keep hb
          have Z7 := Z7.keep hb
          clear hb hHeld'
          refine wpAnyH_ready (rs := [8]) (by kernel_rfl) (by simp) ?_
          refine AllReadyH.cons (o := _) rfl (fun K hK => ?_) AllReadyH.nil
          refine step_row rfl 72 _ _ rfl g6 (wc sf) rfl rfl _ _ (by exact Z6) (by kernel_rfl) (by kernel_rfl) (by kernel_rfl) ?_
          refine hK.out _ _ (below_setRow hHeld (by omega) _) (fun hHeld2 => ?_)
          clear hK K
          try simp only [Act.put, List.getElem_toArray, List.getElem_cons_succ, List.getElem_cons_zero, List.setIfInBounds_toArray, List.set_cons_succ, List.set_cons_zero]
          refine wpAnyH_ready (rs := [9]) (by kernel_rfl) (by simp) ?_
          refine AllReadyH.cons (o := _) rfl (fun K hK => ?_) AllReadyH.nil
          refine step_row rfl 72 _ _ rfl g7 (wc sg) rfl rfl _ _ (by exact Bk.setRow_far Z7 (by omega) _) (by kernel_rfl) (by kernel_rfl) (by kernel_rfl) ?_
          refine hK.out _ _ (below_setRow hHeld2 (by omega) _) (fun hHeld3 => ?_)
          clear hK K
          try simp only [Act.put, List.getElem_toArray, List.getElem_cons_succ, List.getElem_cons_zero, List.setIfInBounds_toArray, List.set_cons_succ, List.set_cons_zero]
          refine wpAnyH_done (by kernel_rfl) ?_ _
          simp only [Exit.then]
          apply_assumption
          go_meet
          case rel => exact ⟨g6, g7, sf, sg, rfl, rfl, ER.two hHeld Z6 Z7 (by omega) (by omega) (by omega) L2 L5 (noB_new LC2 (by omega)) (noB_new LC2 (by omega)) (noB_new LC5 (by omega)) (noB_new LC5 (by omega))⟩
      · refine step_alloc_wz rfl rfl ?_
        have hb : Below u02.heap.size u02 (u02.alloc (.cells (wc wz) 72)) := (Below.refl _ _).alloc (Nat.le_refl _) _
        have hsz : u02.heap.size + 1 ≤ (u02.alloc (.cells (wc wz) 72)).heap.size := by simp
        have Z6 := Bk.new u02 (wc wz) 72
        obtain ⟨g6, hg6⟩ : ∃ g, g = u02.heap.size := ⟨_, rfl⟩
        rw [← hg6] at Z6 ⊢
        have hga6 : g6 ≤ u02.heap.size := by omega
        have hgb6 : u02.heap.size ≤ g6 := by omega
        clear hg6
        generalize u02.alloc (.cells (wc wz) 72) = u026 at *
        have hHeld' := hHeld.trans (hb.mono hHeld.size)
        have hszu026 := hb.size
        refine hK.out _ _ hHeld' (fun hHeld => ?_)
        clear hK K
        try simp only [Act.put, List.getElem_toArray, List.getElem_cons_succ, List.getElem_cons_zero, List.setIfInBounds_toArray, List.set_cons_succ, List.set_cons_zero]
        have L2 := L2.keep hb
        clear hb hHeld'
        refine wpAnyH_ready (rs := [5, 7]) (by kernel_rfl) (by simp) ?_
        refine AllReadyH.cons (o := _) rfl (fun K hK => ?_) (AllReadyH.cons (o := _) rfl (fun K hK => ?_) (AllReadyH.nil))
        · go_simp
          refine (HG.out _ (LW.keep hHeld) (HVL.keep hHeld)).mono ?_
          rintro e u0265 ⟨sg, rfl, L5, RG5, EG5, hb⟩
          have LC5 := L5
          have hHeld' := hHeld.trans (hb.mono hHeld.size)
          have hszu0265 := hb.size
          refine hK.out _ _ hHeld' (fun hHeld => ?_)
          clear hK K
          try simp only [Act.put, List.getElem_toArray, List.getElem_cons_succ, List.getElem_cons_zero, List.setIfInBounds_toArray, List.set_cons_succ, List.set_cons_zero]
          have L2 := L2.keep hb
          have Z6 := Z6.keep hb
          clear hb hHeld'
          refine wpAnyH_ready (rs := [7]) (by kernel_rfl) (by simp) ?_
          refine AllReadyH.cons (o := _) rfl (fun K hK => ?_) AllReadyH.nil
          refine step_alloc_wz rfl rfl ?_
          have hb : Below u0265.heap.size u0265 (u0265.alloc (.cells (wc wz) 72)) := (Below.refl _ _).alloc (Nat.le_refl _) _
          have hsz : u0265.heap.size + 1 ≤ (u0265.alloc (.cells (wc wz) 72)).heap.size := by simp
          have Z7 := Bk.new u0265 (wc wz) 72
          obtain ⟨g7, hg7⟩ : ∃ g, g = u0265.heap.size := ⟨_, rfl⟩
          rw [← hg7] at Z7 ⊢
          have hga7 : g7 ≤ u0265.heap.size := by omega
          have hgb7 : u0265.heap.size ≤ g7 := by omega
          clear hg7
          generalize u0265.alloc (.cells (wc wz) 72) = u02657 at *
          have hHeld' := hHeld.trans (hb.mono hHeld.size)
          have hszu02657 := hb.size
          refine hK.out _ _ hHeld' (fun hHeld => ?_)
          clear hK K
          try simp only [Act.put, List.getElem_toArray, List.getElem_cons_succ, List.getElem_cons_zero, List.setIfInBounds_toArray, List.set_cons_succ, List.set_cons_zero]
          have L2 := L2.keep hb
          have L5 := L5.keep hb
          have Z6 := Z6.keep hb
          clear hb hHeld'
          refine wpAnyH_ready (rs := [8]) (by kernel_rfl) (by simp) ?_
          refine AllReadyH.cons (o := _) rfl (fun K hK => ?_) AllReadyH.nil
          refine step_row rfl 72 _ _ rfl g6 (wc sf) rfl rfl _ _ (by exact Z6) (by kernel_rfl) (by kernel_rfl) (by kernel_rfl) ?_
          refine hK.out _ _ (below_setRow hHeld (by omega) _) (fun hHeld2 => ?_)
          clear hK K
          try simp only [Act.put, List.getElem_toArray, List.getElem_cons_succ, List.getElem_cons_zero, List.setIfInBounds_toArray, List.set_cons_succ, List.set_cons_zero]
          refine wpAnyH_ready (rs := [9]) (by kernel_rfl) (by simp) ?_
          refine AllReadyH.cons (o := _) rfl (fun K hK => ?_) AllReadyH.nil
          refine step_row rfl 72 _ _ rfl g7 (wc sg) rfl rfl _ _ (by exact Bk.setRow_far Z7 (by omega) _) (by kernel_rfl) (by kernel_rfl) (by kernel_rfl) ?_
          refine hK.out _ _ (below_setRow hHeld2 (by omega) _) (fun hHeld3 => ?_)
          clear hK K
          try simp only [Act.put, List.getElem_toArray, List.getElem_cons_succ, List.getElem_cons_zero, List.setIfInBounds_toArray, List.set_cons_succ, List.set_cons_zero]
          refine wpAnyH_done (by kernel_rfl) ?_ _
          simp only [Exit.then]
          apply_assumption
          go_meet
          case rel => exact ⟨g6, g7, sf, sg, rfl, rfl, ER.two hHeld Z6 Z7 (by omega) (by omega) (by omega) L2 L5 (noB_new LC2 (by omega)) (noB_new LC2 (by omega)) (noB_hold LW (by omega) EG5 RG5 (by omega)) (noB_new LC5 (by omega))⟩
        · refine step_alloc_wz rfl rfl ?_
          have hb : Below u026.heap.size u026 (u026.alloc (.cells (wc wz) 72)) := (Below.refl _ _).alloc (Nat.le_refl _) _
          have hsz : u026.heap.size + 1 ≤ (u026.alloc (.cells (wc wz) 72)).heap.size := by simp
          have Z7 := Bk.new u026 (wc wz) 72
          obtain ⟨g7, hg7⟩ : ∃ g, g = u026.heap.size := ⟨_, rfl⟩
          rw [← hg7] at Z7 ⊢
          have hga7 : g7 ≤ u026.heap.size := by omega
          have hgb7 : u026.heap.size ≤ g7 := by omega
          clear hg7
          generalize u026.alloc (.cells (wc wz) 72) = u0267 at *
          have hHeld' := hHeld.trans (hb.mono hHeld.size)
          have hszu0267 := hb.size
          refine hK.out _ _ hHeld' (fun hHeld => ?_)
          clear hK K
          try simp only [Act.put, List.getElem_toArray, List.getElem_cons_succ, List.getElem_cons_zero, List.setIfInBounds_toArray, List.set_cons_succ, List.set_cons_zero]
          have L2 := L2.keep hb
          have Z6 := Z6.keep hb
          clear hb hHeld'
          refine wpAnyH_ready (rs := [5]) (by kernel_rfl) (by simp) ?_
          refine AllReadyH.cons (o := _) rfl (fun K hK => ?_) AllReadyH.nil
          go_simp
          refine (HG.out _ (LW.keep hHeld) (HVL.keep hHeld)).mono ?_
          rintro e u02675 ⟨sg, rfl, L5, RG5, EG5, hb⟩
          have LC5 := L5
          have hHeld' := hHeld.trans (hb.mono hHeld.size)
          have hszu02675 := hb.size
          refine hK.out _ _ hHeld' (fun hHeld => ?_)
          clear hK K
          try simp only [Act.put, List.getElem_toArray, List.getElem_cons_succ, List.getElem_cons_zero, List.setIfInBounds_toArray, List.set_cons_succ, List.set_cons_zero]
          have L2 := L2.keep hb
          have Z6 := Z6.keep hb
          have Z7 := Z7.keep hb
          clear hb hHeld'
          refine wpAnyH_ready (rs := [8]) (by kernel_rfl) (by simp) ?_
          refine AllReadyH.cons (o := _) rfl (fun K hK => ?_) AllReadyH.nil
          refine step_row rfl 72 _ _ rfl g6 (wc sf) rfl rfl _ _ (by exact Z6) (by kernel_rfl) (by kernel_rfl) (by kernel_rfl) ?_
          refine hK.out _ _ (below_setRow hHeld (by omega) _) (fun hHeld2 => ?_)
          clear hK K
          try simp only [Act.put, List.getElem_toArray, List.getElem_cons_succ, List.getElem_cons_zero, List.setIfInBounds_toArray, List.set_cons_succ, List.set_cons_zero]
          refine wpAnyH_ready (rs := [9]) (by kernel_rfl) (by simp) ?_
          refine AllReadyH.cons (o := _) rfl (fun K hK => ?_) AllReadyH.nil
          refine step_row rfl 72 _ _ rfl g7 (wc sg) rfl rfl _ _ (by exact Bk.setRow_far Z7 (by omega) _) (by kernel_rfl) (by kernel_rfl) (by kernel_rfl) ?_
          refine hK.out _ _ (below_setRow hHeld2 (by omega) _) (fun hHeld3 => ?_)
          clear hK K
          try simp only [Act.put, List.getElem_toArray, List.getElem_cons_succ, List.getElem_cons_zero, List.setIfInBounds_toArray, List.set_cons_succ, List.set_cons_zero]
          refine wpAnyH_done (by kernel_rfl) ?_ _
          simp only [Exit.then]
          apply_assumption
          go_meet
          case rel => exact ⟨g6, g7, sf, sg, rfl, rfl, ER.two hHeld Z6 Z7 (by omega) (by omega) (by omega) L2 L5 (noB_new LC2 (by omega)) (noB_new LC2 (by omega)) (noB_hold LW (by omega) EG5 RG5 (by omega)) (noB_hold LW (by omega) EG5 RG5 (by omega))⟩
      · refine step_alloc_wz rfl rfl ?_
        have hb : Below u02.heap.size u02 (u02.alloc (.cells (wc wz) 72)) := (Below.refl _ _).alloc (Nat.le_refl _) _
        have hsz : u02.heap.size + 1 ≤ (u02.alloc (.cells (wc wz) 72)).heap.size := by simp
        have Z7 := Bk.new u02 (wc wz) 72
        obtain ⟨g7, hg7⟩ : ∃ g, g = u02.heap.size := ⟨_, rfl⟩
        rw [← hg7] at Z7 ⊢
        have hga7 : g7 ≤ u02.heap.size := by omega
        have hgb7 : u02.heap.size ≤ g7 := by omega
        clear hg7
        generalize u02.alloc (.cells (wc wz) 72) = u027 at *
        have hHeld' := hHeld.trans (hb.mono hHeld.size)
        have hszu027 := hb.size
        refine hK.out _ _ hHeld' (fun hHeld => ?_)
        clear hK K
        try simp only [Act.put, List.getElem_toArray, List.getElem_cons_succ, List.getElem_cons_zero, List.setIfInBounds_toArray, List.set_cons_succ, List.set_cons_zero]
        have L2 := L2.keep hb
        clear hb hHeld'
        refine wpAnyH_ready (rs := [5, 6]) (by kernel_rfl) (by simp) ?_
        refine AllReadyH.cons (o := _) rfl (fun K hK => ?_) (AllReadyH.cons (o := _) rfl (fun K hK => ?_) (AllReadyH.nil))
        · go_simp
          refine (HG.out _ (LW.keep hHeld) (HVL.keep hHeld)).mono ?_
          rintro e u0275 ⟨sg, rfl, L5, RG5, EG5, hb⟩
          have LC5 := L5
          have hHeld' := hHeld.trans (hb.mono hHeld.size)
          have hszu0275 := hb.size
          refine hK.out _ _ hHeld' (fun hHeld => ?_)
          clear hK K
          try simp only [Act.put, List.getElem_toArray, List.getElem_cons_succ, List.getElem_cons_zero, List.setIfInBounds_toArray, List.set_cons_succ, List.set_cons_zero]
          have L2 := L2.keep hb
          have Z7 := Z7.keep hb
          clear hb hHeld'
          refine wpAnyH_ready (rs := [6]) (by kernel_rfl) (by simp) ?_
          refine AllReadyH.cons (o := _) rfl (fun K hK => ?_) AllReadyH.nil
          refine step_alloc_wz rfl rfl ?_
          have hb : Below u0275.heap.size u0275 (u0275.alloc (.cells (wc wz) 72)) := (Below.refl _ _).alloc (Nat.le_refl _) _
          have hsz : u0275.heap.size + 1 ≤ (u0275.alloc (.cells (wc wz) 72)).heap.size := by simp
          have Z6 := Bk.new u0275 (wc wz) 72
          obtain ⟨g6, hg6⟩ : ∃ g, g = u0275.heap.size := ⟨_, rfl⟩
          rw [← hg6] at Z6 ⊢
          have hga6 : g6 ≤ u0275.heap.size := by omega
          have hgb6 : u0275.heap.size ≤ g6 := by omega
          clear hg6
          generalize u0275.alloc (.cells (wc wz) 72) = u02756 at *
          have hHeld' := hHeld.trans (hb.mono hHeld.size)
          have hszu02756 := hb.size
          refine hK.out _ _ hHeld' (fun hHeld => ?_)
          clear hK K
          try simp only [Act.put, List.getElem_toArray, List.getElem_cons_succ, List.getElem_cons_zero, List.setIfInBounds_toArray, List.set_cons_succ, List.set_cons_zero]
          have L2 := L2.keep hb
          have L5 := L5.keep hb
          have Z7 := Z7.keep hb
          clear hb hHeld'
          refine wpAnyH_ready (rs := [8]) (by kernel_rfl) (by simp) ?_
          refine AllReadyH.cons (o := _) rfl (fun K hK => ?_) AllReadyH.nil
          refine step_row rfl 72 _ _ rfl g6 (wc sf) rfl rfl _ _ (by exact Z6) (by kernel_rfl) (by kernel_rfl) (by kernel_rfl) ?_
          refine hK.out _ _ (below_setRow hHeld (by omega) _) (fun hHeld2 => ?_)
          clear hK K
          try simp only [Act.put, List.getElem_toArray, List.getElem_cons_succ, List.getElem_cons_zero, List.setIfInBounds_toArray, List.set_cons_succ, List.set_cons_zero]
          refine wpAnyH_ready (rs := [9]) (by kernel_rfl) (by simp) ?_
          refine AllReadyH.cons (o := _) rfl (fun K hK => ?_) AllReadyH.nil
          refine step_row rfl 72 _ _ rfl g7 (wc sg) rfl rfl _ _ (by exact Bk.setRow_far Z7 (by omega) _) (by kernel_rfl) (by kernel_rfl) (by kernel_rfl) ?_
          refine hK.out _ _ (below_setRow hHeld2 (by omega) _) (fun hHeld3 => ?_)
          clear hK K
          try simp only [Act.put, List.getElem_toArray, List.getElem_cons_succ, List.getElem_cons_zero, List.setIfInBounds_toArray, List.set_cons_succ, List.set_cons_zero]
          refine wpAnyH_done (by kernel_rfl) ?_ _
          simp only [Exit.then]
          apply_assumption
          go_meet
          case rel => exact ⟨g6, g7, sf, sg, rfl, rfl, ER.two hHeld Z6 Z7 (by omega) (by omega) (by omega) L2 L5 (noB_new LC2 (by omega)) (noB_new LC2 (by omega)) (noB_new LC5 (by omega)) (noB_hold LW (by omega) EG5 RG5 (by omega))⟩
        · refine step_alloc_wz rfl rfl ?_
          have hb : Below u027.heap.size u027 (u027.alloc (.cells (wc wz) 72)) := (Below.refl _ _).alloc (Nat.le_refl _) _
          have hsz : u027.heap.size + 1 ≤ (u027.alloc (.cells (wc wz) 72)).heap.size := by simp
          have Z6 := Bk.new u027 (wc wz) 72
          obtain ⟨g6, hg6⟩ : ∃ g, g = u027.heap.size := ⟨_, rfl⟩
          rw [← hg6] at Z6 ⊢
          have hga6 : g6 ≤ u027.heap.size := by omega
          have hgb6 : u027.heap.size ≤ g6 := by omega
          clear hg6
          generalize u027.alloc (.cells (wc wz) 72) = u0276 at *
          have hHeld' := hHeld.trans (hb.mono hHeld.size)
          have hszu0276 := hb.size
          refine hK.out _ _ hHeld' (fun hHeld => ?_)
          clear hK K
          try simp only [Act.put, List.getElem_toArray, List.getElem_cons_succ, List.getElem_cons_zero, List.setIfInBounds_toArray, List.set_cons_succ, List.set_cons_zero]
          have L2 := L2.keep hb
          have Z7 := Z7.keep hb
          clear hb hHeld'
          refine wpAnyH_ready (rs := [5]) (by kernel_rfl) (by simp) ?_
          refine AllReadyH.cons (o := _) rfl (fun K hK => ?_) AllReadyH.nil
          go_simp
          refine (HG.out _ (LW.keep hHeld) (HVL.keep hHeld)).mono ?_
          rintro e u02765 ⟨sg, rfl, L5, RG5, EG5, hb⟩
          have LC5 := L5
          have hHeld' := hHeld.trans (hb.mono hHeld.size)
          have hszu02765 := hb.size
          refine hK.out _ _ hHeld' (fun hHeld => ?_)
          clear hK K
          try simp only [Act.put, List.getElem_toArray, List.getElem_cons_succ, List.getElem_cons_zero, List.setIfInBounds_toArray, List.set_cons_succ, List.set_cons_zero]
          have L2 := L2.keep hb
          have Z6 := Z6.keep hb
          have Z7 := Z7.keep hb
          clear hb hHeld'
          refine wpAnyH_ready (rs := [8]) (by kernel_rfl) (by simp) ?_
          refine AllReadyH.cons (o := _) rfl (fun K hK => ?_) AllReadyH.nil
          refine step_row rfl 72 _ _ rfl g6 (wc sf) rfl rfl _ _ (by exact Z6) (by kernel_rfl) (by kernel_rfl) (by kernel_rfl) ?_
          refine hK.out _ _ (below_setRow hHeld (by omega) _) (fun hHeld2 => ?_)
          clear hK K
          try simp only [Act.put, List.getElem_toArray, List.getElem_cons_succ, List.getElem_cons_zero, List.setIfInBounds_toArray, List.set_cons_succ, List.set_cons_zero]
          refine wpAnyH_ready (rs := [9]) (by kernel_rfl) (by simp) ?_
          refine AllReadyH.cons (o := _) rfl (fun K hK => ?_) AllReadyH.nil
          refine step_row rfl 72 _ _ rfl g7 (wc sg) rfl rfl _ _ (by exact Bk.setRow_far Z7 (by omega) _) (by kernel_rfl) (by kernel_rfl) (by kernel_rfl) ?_
          refine hK.out _ _ (below_setRow hHeld2 (by omega) _) (fun hHeld3 => ?_)
          clear hK K
          try simp only [Act.put, List.getElem_toArray, List.getElem_cons_succ, List.getElem_cons_zero, List.setIfInBounds_toArray, List.set_cons_succ, List.set_cons_zero]
          refine wpAnyH_done (by kernel_rfl) ?_ _
          simp only [Exit.then]
          apply_assumption
          go_meet
          case rel => exact ⟨g6, g7, sf, sg, rfl, rfl, ER.two hHeld Z6 Z7 (by omega) (by omega) (by omega) L2 L5 (noB_new LC2 (by omega)) (noB_new LC2 (by omega)) (noB_hold LW (by omega) EG5 RG5 (by omega)) (noB_hold LW (by omega) EG5 RG5 (by omega))⟩
    · refine step_alloc_wz rfl rfl ?_
      have hb : Below u0.heap.size u0 (u0.alloc (.cells (wc wz) 72)) := (Below.refl _ _).alloc (Nat.le_refl _) _
      have hsz : u0.heap.size + 1 ≤ (u0.alloc (.cells (wc wz) 72)).heap.size := by simp
      have Z6 := Bk.new u0 (wc wz) 72
      obtain ⟨g6, hg6⟩ : ∃ g, g = u0.heap.size := ⟨_, rfl⟩
      rw [← hg6] at Z6 ⊢
      have hga6 : g6 ≤ u0.heap.size := by omega
      have hgb6 : u0.heap.size ≤ g6 := by omega
      clear hg6
      generalize u0.alloc (.cells (wc wz) 72) = u06 at *
      have hHeld' := hHeld.trans (hb.mono hHeld.size)
      have hszu06 := hb.size
      refine hK.out _ _ hHeld' (fun hHeld => ?_)
      clear hK K
      try simp only [Act.put, List.getElem_toArray, List.getElem_cons_succ, List.getElem_cons_zero, List.setIfInBounds_toArray, List.set_cons_succ, List.set_cons_zero]
      clear hb hHeld'
      refine wpAnyH_ready (rs := [2, 7]) (by kernel_rfl) (by simp) ?_
      refine AllReadyH.cons (o := _) rfl (fun K hK => ?_) (AllReadyH.cons (o := _) rfl (fun K hK => ?_) (AllReadyH.nil))
      · go_simp
        refine (HF.out _ (LX.keep hHeld) (HVL.keep hHeld)).mono ?_
        rintro e u062 ⟨sf, rfl, ⟨LF2, _⟩, hb⟩
        have LC2 := LF2.lies
        have L2 := LF2.lies
        have hHeld' := hHeld.trans (hb.mono hHeld.size)
        have hszu062 := hb.size
        refine hK.out _ _ hHeld' (fun hHeld => ?_)
        clear hK K
        try simp only [Act.put, List.getElem_toArray, List.getElem_cons_succ, List.getElem_cons_zero, List.setIfInBounds_toArray, List.set_cons_succ, List.set_cons_zero]
        have Z6 := Z6.keep hb
        clear hb hHeld'
        refine wpAnyH_ready (rs := [5, 7]) (by kernel_rfl) (by simp) ?_
        refine AllReadyH.cons (o := _) rfl (fun K hK => ?_) (AllReadyH.cons (o := _) rfl (fun K hK => ?_) (AllReadyH.nil))
        · go_simp
          refine (HG.out _ (LW.keep hHeld) (HVL.keep hHeld)).mono ?_
          rintro e u0625 ⟨sg, rfl, L5, RG5, EG5, hb⟩
          have LC5 := L5
          have hHeld' := hHeld.trans (hb.mono hHeld.size)
          have hszu0625 := hb.size
          refine hK.out _ _ hHeld' (fun hHeld => ?_)
          clear hK K
          try simp only [Act.put, List.getElem_toArray, List.getElem_cons_succ, List.getElem_cons_zero, List.setIfInBounds_toArray, List.set_cons_succ, List.set_cons_zero]
          have L2 := L2.keep hb
          have Z6 := Z6.keep hb
          clear hb hHeld'
          refine wpAnyH_ready (rs := [7]) (by kernel_rfl) (by simp) ?_
          refine AllReadyH.cons (o := _) rfl (fun K hK => ?_) AllReadyH.nil
          refine step_alloc_wz rfl rfl ?_
          have hb : Below u0625.heap.size u0625 (u0625.alloc (.cells (wc wz) 72)) := (Below.refl _ _).alloc (Nat.le_refl _) _
          have hsz : u0625.heap.size + 1 ≤ (u0625.alloc (.cells (wc wz) 72)).heap.size := by simp
          have Z7 := Bk.new u0625 (wc wz) 72
          obtain ⟨g7, hg7⟩ : ∃ g, g = u0625.heap.size := ⟨_, rfl⟩
          rw [← hg7] at Z7 ⊢
          have hga7 : g7 ≤ u0625.heap.size := by omega
          have hgb7 : u0625.heap.size ≤ g7 := by omega
          clear hg7
          generalize u0625.alloc (.cells (wc wz) 72) = u06257 at *
          have hHeld' := hHeld.trans (hb.mono hHeld.size)
          have hszu06257 := hb.size
          refine hK.out _ _ hHeld' (fun hHeld => ?_)
          clear hK K
          try simp only [Act.put, List.getElem_toArray, List.getElem_cons_succ, List.getElem_cons_zero, List.setIfInBounds_toArray, List.set_cons_succ, List.set_cons_zero]
          have L2 := L2.keep hb
          have L5 := L5.keep hb
          have Z6 := Z6.keep hb
          clear hb hHeld'
          refine wpAnyH_ready (rs := [8]) (by kernel_rfl) (by simp) ?_
          refine AllReadyH.cons (o := _) rfl (fun K hK => ?_) AllReadyH.nil
          refine step_row rfl 72 _ _ rfl g6 (wc sf) rfl rfl _ _ (by exact Z6) (by kernel_rfl) (by kernel_rfl) (by kernel_rfl) ?_
          refine hK.out _ _ (below_setRow hHeld (by omega) _) (fun hHeld2 => ?_)
          clear hK K
          try simp only [Act.put, List.getElem_toArray, List.getElem_cons_succ, List.getElem_cons_zero, List.setIfInBounds_toArray, List.set_cons_succ, List.set_cons_zero]
          refine wpAnyH_ready (rs := [9]) (by kernel_rfl) (by simp) ?_
          refine AllReadyH.cons (o := _) rfl (fun K hK => ?_) AllReadyH.nil
          refine step_row rfl 72 _ _ rfl g7 (wc sg) rfl rfl _ _ (by exact Bk.setRow_far Z7 (by omega) _) (by kernel_rfl) (by kernel_rfl) (by kernel_rfl) ?_
          refine hK.out _ _ (below_setRow hHeld2 (by omega) _) (fun hHeld3 => ?_)
          clear hK K
          try simp only [Act.put, List.getElem_toArray, List.getElem_cons_succ, List.getElem_cons_zero, List.setIfInBounds_toArray, List.set_cons_succ, List.set_cons_zero]
          refine wpAnyH_done (by kernel_rfl) ?_ _
          simp only [Exit.then]
          apply_assumption
          go_meet
          case rel => exact ⟨g6, g7, sf, sg, rfl, rfl, ER.two hHeld Z6 Z7 (by omega) (by omega) (by omega) L2 L5 (noB_far LF2 (by omega)) (noB_new LC2 (by omega)) (noB_hold LW (by omega) EG5 RG5 (by omega)) (noB_new LC5 (by omega))⟩
        · refine step_alloc_wz rfl rfl ?_
          have hb : Below u062.heap.size u062 (u062.alloc (.cells (wc wz) 72)) := (Below.refl _ _).alloc (Nat.le_refl _) _
          have hsz : u062.heap.size + 1 ≤ (u062.alloc (.cells (wc wz) 72)).heap.size := by simp
          have Z7 := Bk.new u062 (wc wz) 72
          obtain ⟨g7, hg7⟩ : ∃ g, g = u062.heap.size := ⟨_, rfl⟩
          rw [← hg7] at Z7 ⊢
          have hga7 : g7 ≤ u062.heap.size := by omega
          have hgb7 : u062.heap.size ≤ g7 := by omega
          clear hg7
          generalize u062.alloc (.cells (wc wz) 72) = u0627 at *
          have hHeld' := hHeld.trans (hb.mono hHeld.size)
          have hszu0627 := hb.size
          refine hK.out _ _ hHeld' (fun hHeld => ?_)
          clear hK K
          try simp only [Act.put, List.getElem_toArray, List.getElem_cons_succ, List.getElem_cons_zero, List.setIfInBounds_toArray, List.set_cons_succ, List.set_cons_zero]
          have L2 := L2.keep hb
          have Z6 := Z6.keep hb
          clear hb hHeld'
          refine wpAnyH_ready (rs := [5]) (by kernel_rfl) (by simp) ?_
          refine AllReadyH.cons (o := _) rfl (fun K hK => ?_) AllReadyH.nil
          go_simp
          refine (HG.out _ (LW.keep hHeld) (HVL.keep hHeld)).mono ?_
          rintro e u06275 ⟨sg, rfl, L5, RG5, EG5, hb⟩
          have LC5 := L5
          have hHeld' := hHeld.trans (hb.mono hHeld.size)
          have hszu06275 := hb.size
          refine hK.out _ _ hHeld' (fun hHeld => ?_)
          clear hK K
          try simp only [Act.put, List.getElem_toArray, List.getElem_cons_succ, List.getElem_cons_zero, List.setIfInBounds_toArray, List.set_cons_succ, List.set_cons_zero]
          have L2 := L2.keep hb
          have Z6 := Z6.keep hb
          have Z7 := Z7.keep hb
          clear hb hHeld'
          refine wpAnyH_ready (rs := [8]) (by kernel_rfl) (by simp) ?_
          refine AllReadyH.cons (o := _) rfl (fun K hK => ?_) AllReadyH.nil
          refine step_row rfl 72 _ _ rfl g6 (wc sf) rfl rfl _ _ (by exact Z6) (by kernel_rfl) (by kernel_rfl) (by kernel_rfl) ?_
          refine hK.out _ _ (below_setRow hHeld (by omega) _) (fun hHeld2 => ?_)
          clear hK K
          try simp only [Act.put, List.getElem_toArray, List.getElem_cons_succ, List.getElem_cons_zero, List.setIfInBounds_toArray, List.set_cons_succ, List.set_cons_zero]
          refine wpAnyH_ready (rs := [9]) (by kernel_rfl) (by simp) ?_
          refine AllReadyH.cons (o := _) rfl (fun K hK => ?_) AllReadyH.nil
          refine step_row rfl 72 _ _ rfl g7 (wc sg) rfl rfl _ _ (by exact Bk.setRow_far Z7 (by omega) _) (by kernel_rfl) (by kernel_rfl) (by kernel_rfl) ?_
          refine hK.out _ _ (below_setRow hHeld2 (by omega) _) (fun hHeld3 => ?_)
          clear hK K
          try simp only [Act.put, List.getElem_toArray, List.getElem_cons_succ, List.getElem_cons_zero, List.setIfInBounds_toArray, List.set_cons_succ, List.set_cons_zero]
          refine wpAnyH_done (by kernel_rfl) ?_ _
          simp only [Exit.then]
          apply_assumption
          go_meet
          case rel => exact ⟨g6, g7, sf, sg, rfl, rfl, ER.two hHeld Z6 Z7 (by omega) (by omega) (by omega) L2 L5 (noB_far LF2 (by omega)) (noB_new LC2 (by omega)) (noB_hold LW (by omega) EG5 RG5 (by omega)) (noB_hold LW (by omega) EG5 RG5 (by omega))⟩
      · refine step_alloc_wz rfl rfl ?_
        have hb : Below u06.heap.size u06 (u06.alloc (.cells (wc wz) 72)) := (Below.refl _ _).alloc (Nat.le_refl _) _
        have hsz : u06.heap.size + 1 ≤ (u06.alloc (.cells (wc wz) 72)).heap.size := by simp
        have Z7 := Bk.new u06 (wc wz) 72
        obtain ⟨g7, hg7⟩ : ∃ g, g = u06.heap.size := ⟨_, rfl⟩
        rw [← hg7] at Z7 ⊢
        have hga7 : g7 ≤ u06.heap.size := by omega
        have hgb7 : u06.heap.size ≤ g7 := by omega
        clear hg7
        generalize u06.alloc (.cells (wc wz) 72) = u067 at *
        have hHeld' := hHeld.trans (hb.mono hHeld.size)
        have hszu067 := hb.size
        refine hK.out _ _ hHeld' (fun hHeld => ?_)
        clear hK K
        try simp only [Act.put, List.getElem_toArray, List.getElem_cons_succ, List.getElem_cons_zero, List.setIfInBounds_toArray, List.set_cons_succ, List.set_cons_zero]
        have Z6 := Z6.keep hb
        clear hb hHeld'
        refine wpAnyH_ready (rs := [2]) (by kernel_rfl) (by simp) ?_
        refine AllReadyH.cons (o := _) rfl (fun K hK => ?_) AllReadyH.nil
        go_simp
        refine (HF.out _ (LX.keep hHeld) (HVL.keep hHeld)).mono ?_
        rintro e u0672 ⟨sf, rfl, ⟨LF2, _⟩, hb⟩
        have LC2 := LF2.lies
        have L2 := LF2.lies
        have hHeld' := hHeld.trans (hb.mono hHeld.size)
        have hszu0672 := hb.size
        refine hK.out _ _ hHeld' (fun hHeld => ?_)
        clear hK K
        try simp only [Act.put, List.getElem_toArray, List.getElem_cons_succ, List.getElem_cons_zero, List.setIfInBounds_toArray, List.set_cons_succ, List.set_cons_zero]
        have Z6 := Z6.keep hb
        have Z7 := Z7.keep hb
        clear hb hHeld'
        refine wpAnyH_ready (rs := [5]) (by kernel_rfl) (by simp) ?_
        refine AllReadyH.cons (o := _) rfl (fun K hK => ?_) AllReadyH.nil
        go_simp
        refine (HG.out _ (LW.keep hHeld) (HVL.keep hHeld)).mono ?_
        rintro e u06725 ⟨sg, rfl, L5, RG5, EG5, hb⟩
        have LC5 := L5
        have hHeld' := hHeld.trans (hb.mono hHeld.size)
        have hszu06725 := hb.size
        refine hK.out _ _ hHeld' (fun hHeld => ?_)
        clear hK K
        try simp only [Act.put, List.getElem_toArray, List.getElem_cons_succ, List.getElem_cons_zero, List.setIfInBounds_toArray, List.set_cons_succ, List.set_cons_zero]
        have L2 := L2.keep hb
        have Z6 := Z6.keep hb
        have Z7 := Z7.keep hb
        clear hb hHeld'
        refine wpAnyH_ready (rs := [8]) (by kernel_rfl) (by simp) ?_
        refine AllReadyH.cons (o := _) rfl (fun K hK => ?_) AllReadyH.nil
        refine step_row rfl 72 _ _ rfl g6 (wc sf) rfl rfl _ _ (by exact Z6) (by kernel_rfl) (by kernel_rfl) (by kernel_rfl) ?_
        refine hK.out _ _ (below_setRow hHeld (by omega) _) (fun hHeld2 => ?_)
        clear hK K
        try simp only [Act.put, List.getElem_toArray, List.getElem_cons_succ, List.getElem_cons_zero, List.setIfInBounds_toArray, List.set_cons_succ, List.set_cons_zero]
        refine wpAnyH_ready (rs := [9]) (by kernel_rfl) (by simp) ?_
        refine AllReadyH.cons (o := _) rfl (fun K hK => ?_) AllReadyH.nil
        refine step_row rfl 72 _ _ rfl g7 (wc sg) rfl rfl _ _ (by exact Bk.setRow_far Z7 (by omega) _) (by kernel_rfl) (by kernel_rfl) (by kernel_rfl) ?_
        refine hK.out _ _ (below_setRow hHeld2 (by omega) _) (fun hHeld3 => ?_)
        clear hK K
        try simp only [Act.put, List.getElem_toArray, List.getElem_cons_succ, List.getElem_cons_zero, List.setIfInBounds_toArray, List.set_cons_succ, List.set_cons_zero]
        refine wpAnyH_done (by kernel_rfl) ?_ _
        simp only [Exit.then]
        apply_assumption
        go_meet
        case rel => exact ⟨g6, g7, sf, sg, rfl, rfl, ER.two hHeld Z6 Z7 (by omega) (by omega) (by omega) L2 L5 (noB_far LF2 (by omega)) (noB_far LF2 (by omega)) (noB_hold LW (by omega) EG5 RG5 (by omega)) (noB_hold LW (by omega) EG5 RG5 (by omega))⟩
    · refine step_alloc_wz rfl rfl ?_
      have hb : Below u0.heap.size u0 (u0.alloc (.cells (wc wz) 72)) := (Below.refl _ _).alloc (Nat.le_refl _) _
      have hsz : u0.heap.size + 1 ≤ (u0.alloc (.cells (wc wz) 72)).heap.size := by simp
      have Z7 := Bk.new u0 (wc wz) 72
      obtain ⟨g7, hg7⟩ : ∃ g, g = u0.heap.size := ⟨_, rfl⟩
      rw [← hg7] at Z7 ⊢
      have hga7 : g7 ≤ u0.heap.size := by omega
      have hgb7 : u0.heap.size ≤ g7 := by omega
      clear hg7
      generalize u0.alloc (.cells (wc wz) 72) = u07 at *
      have hHeld' := hHeld.trans (hb.mono hHeld.size)
      have hszu07 := hb.size
      refine hK.out _ _ hHeld' (fun hHeld => ?_)
      clear hK K
      try simp only [Act.put, List.getElem_toArray, List.getElem_cons_succ, List.getElem_cons_zero, List.setIfInBounds_toArray, List.set_cons_succ, List.set_cons_zero]
      clear hb hHeld'
      refine wpAnyH_ready (rs := [2, 6]) (by kernel_rfl) (by simp) ?_
      refine AllReadyH.cons (o := _) rfl (fun K hK => ?_) (AllReadyH.cons (o := _) rfl (fun K hK => ?_) (AllReadyH.nil))
      · go_simp
        refine (HF.out _ (LX.keep hHeld) (HVL.keep hHeld)).mono ?_
        rintro e u072 ⟨sf, rfl, ⟨LF2, _⟩, hb⟩
        have LC2 := LF2.lies
        have L2 := LF2.lies
        have hHeld' := hHeld.trans (hb.mono hHeld.size)
        have hszu072 := hb.size
        refine hK.out _ _ hHeld' (fun hHeld => ?_)
        clear hK K
        try simp only [Act.put, List.getElem_toArray, List.getElem_cons_succ, List.getElem_cons_zero, List.setIfInBounds_toArray, List.set_cons_succ, List.set_cons_zero]
        have Z7 := Z7.keep hb
        clear hb hHeld'
        refine wpAnyH_ready (rs := [5, 6]) (by kernel_rfl) (by simp) ?_
        refine AllReadyH.cons (o := _) rfl (fun K hK => ?_) (AllReadyH.cons (o := _) rfl (fun K hK => ?_) (AllReadyH.nil))
        · go_simp
          refine (HG.out _ (LW.keep hHeld) (HVL.keep hHeld)).mono ?_
          rintro e u0725 ⟨sg, rfl, L5, RG5, EG5, hb⟩
          have LC5 := L5
          have hHeld' := hHeld.trans (hb.mono hHeld.size)
          have hszu0725 := hb.size
          refine hK.out _ _ hHeld' (fun hHeld => ?_)
          clear hK K
          try simp only [Act.put, List.getElem_toArray, List.getElem_cons_succ, List.getElem_cons_zero, List.setIfInBounds_toArray, List.set_cons_succ, List.set_cons_zero]
          have L2 := L2.keep hb
          have Z7 := Z7.keep hb
          clear hb hHeld'
          refine wpAnyH_ready (rs := [6]) (by kernel_rfl) (by simp) ?_
          refine AllReadyH.cons (o := _) rfl (fun K hK => ?_) AllReadyH.nil
          refine step_alloc_wz rfl rfl ?_
          have hb : Below u0725.heap.size u0725 (u0725.alloc (.cells (wc wz) 72)) := (Below.refl _ _).alloc (Nat.le_refl _) _
          have hsz : u0725.heap.size + 1 ≤ (u0725.alloc (.cells (wc wz) 72)).heap.size := by simp
          have Z6 := Bk.new u0725 (wc wz) 72
          obtain ⟨g6, hg6⟩ : ∃ g, g = u0725.heap.size := ⟨_, rfl⟩
          rw [← hg6] at Z6 ⊢
          have hga6 : g6 ≤ u0725.heap.size := by omega
          have hgb6 : u0725.heap.size ≤ g6 := by omega
          clear hg6
          generalize u0725.alloc (.cells (wc wz) 72) = u07256 at *
          have hHeld' := hHeld.trans (hb.mono hHeld.size)
          have hszu07256 := hb.size
          refine hK.out _ _ hHeld' (fun hHeld => ?_)
          clear hK K
          try simp only [Act.put, List.getElem_toArray, List.getElem_cons_succ, List.getElem_cons_zero, List.setIfInBounds_toArray, List.set_cons_succ, List.set_cons_zero]
          have L2 := L2.keep hb
          have L5 := L5.keep hb
          have Z7 := Z7.keep hb
          clear hb hHeld'
          refine wpAnyH_ready (rs := [8]) (by kernel_rfl) (by simp) ?_
          refine AllReadyH.cons (o := _) rfl (fun K hK => ?_) AllReadyH.nil
          refine step_row rfl 72 _ _ rfl g6 (wc sf) rfl rfl _ _ (by exact Z6) (by kernel_rfl) (by kernel_rfl) (by kernel_rfl) ?_
          refine hK.out _ _ (below_setRow hHeld (by omega) _) (fun hHeld2 => ?_)
          clear hK K
          try simp only [Act.put, List.getElem_toArray, List.getElem_cons_succ, List.getElem_cons_zero, List.setIfInBounds_toArray, List.set_cons_succ, List.set_cons_zero]
          refine wpAnyH_ready (rs := [9]) (by kernel_rfl) (by simp) ?_
          refine AllReadyH.cons (o := _) rfl (fun K hK => ?_) AllReadyH.nil
          refine step_row rfl 72 _ _ rfl g7 (wc sg) rfl rfl _ _ (by exact Bk.setRow_far Z7 (by omega) _) (by kernel_rfl) (by kernel_rfl) (by kernel_rfl) ?_
          refine hK.out _ _ (below_setRow hHeld2 (by omega) _) (fun hHeld3 => ?_)
          clear hK K
          try simp only [Act.put, List.getElem_toArray, List.getElem_cons_succ, List.getElem_cons_zero, List.setIfInBounds_toArray, List.set_cons_succ, List.set_cons_zero]
          refine wpAnyH_done (by kernel_rfl) ?_ _
          simp only [Exit.then]
          apply_assumption
          go_meet
          case rel => exact ⟨g6, g7, sf, sg, rfl, rfl, ER.two hHeld Z6 Z7 (by omega) (by omega) (by omega) L2 L5 (noB_new LC2 (by omega)) (noB_far LF2 (by omega)) (noB_new LC5 (by omega)) (noB_hold LW (by omega) EG5 RG5 (by omega))⟩
        · refine step_alloc_wz rfl rfl ?_
          have hb : Below u072.heap.size u072 (u072.alloc (.cells (wc wz) 72)) := (Below.refl _ _).alloc (Nat.le_refl _) _
          have hsz : u072.heap.size + 1 ≤ (u072.alloc (.cells (wc wz) 72)).heap.size := by simp
          have Z6 := Bk.new u072 (wc wz) 72
          obtain ⟨g6, hg6⟩ : ∃ g, g = u072.heap.size := ⟨_, rfl⟩
          rw [← hg6] at Z6 ⊢
          have hga6 : g6 ≤ u072.heap.size := by omega
          have hgb6 : u072.heap.size ≤ g6 := by omega
          clear hg6
          generalize u072.alloc (.cells (wc wz) 72) = u0726 at *
          have hHeld' := hHeld.trans (hb.mono hHeld.size)
          have hszu0726 := hb.size
          refine hK.out _ _ hHeld' (fun hHeld => ?_)
          clear hK K
          try simp only [Act.put, List.getElem_toArray, List.getElem_cons_succ, List.getElem_cons_zero, List.setIfInBounds_toArray, List.set_cons_succ, List.set_cons_zero]
          have L2 := L2.keep hb
          have Z7 := Z7.keep hb
          clear hb hHeld'
          refine wpAnyH_ready (rs := [5]) (by kernel_rfl) (by simp) ?_
          refine AllReadyH.cons (o := _) rfl (fun K hK => ?_) AllReadyH.nil
          go_simp
          refine (HG.out _ (LW.keep hHeld) (HVL.keep hHeld)).mono ?_
          rintro e u07265 ⟨sg, rfl, L5, RG5, EG5, hb⟩
          have LC5 := L5
          have hHeld' := hHeld.trans (hb.mono hHeld.size)
          have hszu07265 := hb.size
          refine hK.out _ _ hHeld' (fun hHeld => ?_)
          clear hK K
          try simp only [Act.put, List.getElem_toArray, List.getElem_cons_succ, List.getElem_cons_zero, List.setIfInBounds_toArray, List.set_cons_succ, List.set_cons_zero]
          have L2 := L2.keep hb
          have Z6 := Z6.keep hb
          have Z7 := Z7.keep hb
          clear hb hHeld'
          refine wpAnyH_ready (rs := [8]) (by kernel_rfl) (by simp) ?_
          refine AllReadyH.cons (o := _) rfl (fun K hK => ?_) AllReadyH.nil
          refine step_row rfl 72 _ _ rfl g6 (wc sf) rfl rfl _ _ (by exact Z6) (by kernel_rfl) (by kernel_rfl) (by kernel_rfl) ?_
          refine hK.out _ _ (below_setRow hHeld (by omega) _) (fun hHeld2 => ?_)
          clear hK K
          try simp only [Act.put, List.getElem_toArray, List.getElem_cons_succ, List.getElem_cons_zero, List.setIfInBounds_toArray, List.set_cons_succ, List.set_cons_zero]
          refine wpAnyH_ready (rs := [9]) (by kernel_rfl) (by simp) ?_
          refine AllReadyH.cons (o := _) rfl (fun K hK => ?_) AllReadyH.nil
          refine step_row rfl 72 _ _ rfl g7 (wc sg) rfl rfl _ _ (by exact Bk.setRow_far Z7 (by omega) _) (by kernel_rfl) (by kernel_rfl) (by kernel_rfl) ?_
          refine hK.out _ _ (below_setRow hHeld2 (by omega) _) (fun hHeld3 => ?_)
          clear hK K
          try simp only [Act.put, List.getElem_toArray, List.getElem_cons_succ, List.getElem_cons_zero, List.setIfInBounds_toArray, List.set_cons_succ, List.set_cons_zero]
          refine wpAnyH_done (by kernel_rfl) ?_ _
          simp only [Exit.then]
          apply_assumption
          go_meet
          case rel => exact ⟨g6, g7, sf, sg, rfl, rfl, ER.two hHeld Z6 Z7 (by omega) (by omega) (by omega) L2 L5 (noB_new LC2 (by omega)) (noB_far LF2 (by omega)) (noB_hold LW (by omega) EG5 RG5 (by omega)) (noB_hold LW (by omega) EG5 RG5 (by omega))⟩
      · refine step_alloc_wz rfl rfl ?_
        have hb : Below u07.heap.size u07 (u07.alloc (.cells (wc wz) 72)) := (Below.refl _ _).alloc (Nat.le_refl _) _
        have hsz : u07.heap.size + 1 ≤ (u07.alloc (.cells (wc wz) 72)).heap.size := by simp
        have Z6 := Bk.new u07 (wc wz) 72
        obtain ⟨g6, hg6⟩ : ∃ g, g = u07.heap.size := ⟨_, rfl⟩
        rw [← hg6] at Z6 ⊢
        have hga6 : g6 ≤ u07.heap.size := by omega
        have hgb6 : u07.heap.size ≤ g6 := by omega
        clear hg6
        generalize u07.alloc (.cells (wc wz) 72) = u076 at *
        have hHeld' := hHeld.trans (hb.mono hHeld.size)
        have hszu076 := hb.size
        refine hK.out _ _ hHeld' (fun hHeld => ?_)
        clear hK K
        try simp only [Act.put, List.getElem_toArray, List.getElem_cons_succ, List.getElem_cons_zero, List.setIfInBounds_toArray, List.set_cons_succ, List.set_cons_zero]
        have Z7 := Z7.keep hb
        clear hb hHeld'
        refine wpAnyH_ready (rs := [2]) (by kernel_rfl) (by simp) ?_
        refine AllReadyH.cons (o := _) rfl (fun K hK => ?_) AllReadyH.nil
        go_simp
        refine (HF.out _ (LX.keep hHeld) (HVL.keep hHeld)).mono ?_
        rintro e u0762 ⟨sf, rfl, ⟨LF2, _⟩, hb⟩
        have LC2 := LF2.lies
        have L2 := LF2.lies
        have hHeld' := hHeld.trans (hb.mono hHeld.size)
        have hszu0762 := hb.size
        refine hK.out _ _ hHeld' (fun hHeld => ?_)
        clear hK K
        try simp only [Act.put, List.getElem_toArray, List.getElem_cons_succ, List.getElem_cons_zero, List.setIfInBounds_toArray, List.set_cons_succ, List.set_cons_zero]
        have Z6 := Z6.keep hb
        have Z7 := Z7.keep hb
        clear hb hHeld'
        refine wpAnyH_ready (rs := [5]) (by kernel_rfl) (by simp) ?_
        refine AllReadyH.cons (o := _) rfl (fun K hK => ?_) AllReadyH.nil
        go_simp
        refine (HG.out _ (LW.keep hHeld) (HVL.keep hHeld)).mono ?_
        rintro e u07625 ⟨sg, rfl, L5, RG5, EG5, hb⟩
        have LC5 := L5
        have hHeld' := hHeld.trans (hb.mono hHeld.size)
        have hszu07625 := hb.size
        refine hK.out _ _ hHeld' (fun hHeld => ?_)
        clear hK K
        try simp only [Act.put, List.getElem_toArray, List.getElem_cons_succ, List.getElem_cons_zero, List.setIfInBounds_toArray, List.set_cons_succ, List.set_cons_zero]
        have L2 := L2.keep hb
        have Z6 := Z6.keep hb
        have Z7 := Z7.keep hb
        clear hb hHeld'
        refine wpAnyH_ready (rs := [8]) (by kernel_rfl) (by simp) ?_
        refine AllReadyH.cons (o := _) rfl (fun K hK => ?_) AllReadyH.nil
        refine step_row rfl 72 _ _ rfl g6 (wc sf) rfl rfl _ _ (by exact Z6) (by kernel_rfl) (by kernel_rfl) (by kernel_rfl) ?_
        refine hK.out _ _ (below_setRow hHeld (by omega) _) (fun hHeld2 => ?_)
        clear hK K
        try simp only [Act.put, List.getElem_toArray, List.getElem_cons_succ, List.getElem_cons_zero, List.setIfInBounds_toArray, List.set_cons_succ, List.set_cons_zero]
        refine wpAnyH_ready (rs := [9]) (by kernel_rfl) (by simp) ?_
        refine AllReadyH.cons (o := _) rfl (fun K hK => ?_) AllReadyH.nil
        refine step_row rfl 72 _ _ rfl g7 (wc sg) rfl rfl _ _ (by exact Bk.setRow_far Z7 (by omega) _) (by kernel_rfl) (by kernel_rfl) (by kernel_rfl) ?_
        refine hK.out _ _ (below_setRow hHeld2 (by omega) _) (fun hHeld3 => ?_)
        clear hK K
        try simp only [Act.put, List.getElem_toArray, List.getElem_cons_succ, List.getElem_cons_zero, List.setIfInBounds_toArray, List.set_cons_succ, List.set_cons_zero]
        refine wpAnyH_done (by kernel_rfl) ?_ _
        simp only [Exit.then]
        apply_assumption
        go_meet
        case rel => exact ⟨g6, g7, sf, sg, rfl, rfl, ER.two hHeld Z6 Z7 (by omega) (by omega) (by omega) L2 L5 (noB_far LF2 (by omega)) (noB_far LF2 (by omega)) (noB_hold LW (by omega) EG5 RG5 (by omega)) (noB_hold LW (by omega) EG5 RG5 (by omega))⟩
  case rest =>
    revert wc
    intro wcut hcut
    obtain ⟨gf, gg, sf, sg, rfl, rfl, E8⟩ := hcut
    clear E7 ER
    have cc := E8.C.cells
    go_wp2_with (first | (refine wpList_load_row rfl 72 _ rfl (w.heap.size + 1) rfl _ (wc s) (0, 0) _ (by exact (E8.bk (g := w.heap.size + 1) (s := s) (x := x) (by simp))) Try.underlying72 rfl (by kernel_rfl) ?_))
    refine (rackNext s x hx9 _ (E8.lies (g := w.heap.size + 1) (s := s) (x := x) (by simp))).mono ?_
    rintro e w9 ⟨s9, rfl, L9, hb9⟩
    have E9 := E8.box hb9 L9.lies
    have Z9 := Bk.new w9 (wc wz) 72
    clear E8 hb9 cc
    go_wp2_with (first | (refine wpList_alloc_wz rfl rfl ?_) | (refine wpList_store_row rfl 72 _ _ rfl (w9.heap.size) (wc s9) rfl rfl _ _ (by exact Z9) (by kernel_rfl) (by kernel_rfl) (by kernel_rfl) ?_) | (refine wpList_load_row rfl 72 _ rfl (w3.heap.size) rfl _ (wc s3) (0, 0) _ (by exact (E9.bk (g := w3.heap.size) (s := s3) (x := x) (by simp))) Try.underlying72 rfl (by kernel_rfl) ?_))
    refine (refNext s3 x hx9 _ (E9.lies (g := w3.heap.size) (s := s3) (x := x) (by simp))).mono ?_
    rintro e w10 ⟨s10, rfl, L10, hb10⟩
    have E10 := E9.box hb10 L10
    have Z10 := Bk.new w10 (wc wz) 72
    clear E9 hb10
    have hq1 : (takeB x != takeB x) = false := by simp
    have hq2 : (nextB x != nextB x) = false := by simp
    go_wp2_with (first | (refine wpList_alloc_wz rfl rfl ?_) | (refine wpList_store_row rfl 72 _ _ rfl (w10.heap.size) (wc s10) rfl rfl _ _ (by exact Z10) (by kernel_rfl) (by kernel_rfl) (by kernel_rfl) ?_) | (refine wpList_load_row_w rfl 72 _ rfl (w4.heap.size) rfl _ (wc s4) (0, 0) _ (by exact (E10.bk (g := w4.heap.size) (s := s4) (x := (putS c.rk x b)) (by simp))) Try.underlying72 rfl (by kernel_rfl) ?_) | (refine wpList_load_row_w rfl 72 _ rfl (w5.heap.size) rfl _ (wc s5) (0, 0) _ (by exact (E10.bk (g := w5.heap.size) (s := s5) (x := (putS c.rk x b)) (by simp))) Try.underlying72 rfl (by kernel_rfl) ?_))
    refine (refSame (E10.lies (g := w4.heap.size) (s := s4) (x := (putS c.rk x b)) (by simp)) (E10.lies (g := w5.heap.size) (s := s5) (x := (putS c.rk x b)) (by simp))).mono ?_
    rintro e w11 ⟨rfl, hb11⟩
    have E11 := E10.keep hb11
    clear E10 hb11
    go_wp2_with (first | (refine wpList_load_row_w rfl 72 _ rfl (w6.heap.size) rfl _ (wc s6) (0, 0) _ (by exact (E11.bk (g := w6.heap.size) (s := s6) (x := (takeS x)) (by simp))) Try.underlying72 rfl (by kernel_rfl) ?_) | (refine wpList_load_row_w rfl 72 _ rfl (w7.heap.size) rfl _ (wc s7) (0, 0) _ (by exact (E11.bk (g := w7.heap.size) (s := s7) (x := (takeS x)) (by simp))) Try.underlying72 rfl (by kernel_rfl) ?_))
    refine (refSame (E11.lies (g := w6.heap.size) (s := s6) (x := (takeS x)) (by simp)) (E11.lies (g := w7.heap.size) (s := s7) (x := (takeS x)) (by simp))).mono ?_
    rintro e w12 ⟨rfl, hb12⟩
    have E12 := E11.keep hb12
    clear E11 hb12
    go_wp2_with (first | (refine wpList_load_row_w rfl 72 _ rfl (gf) rfl _ (wc sf) (0, 0) _ (by exact (E12.bk (g := gf) (s := sf) (x := (holdS x L)) (by simp))) Try.underlying72 rfl (by kernel_rfl) ?_) | (refine wpList_load_row_w rfl 72 _ rfl (gg) rfl _ (wc sg) (0, 0) _ (by exact (E12.bk (g := gg) (s := sg) (x := (holdS x L)) (by simp))) Try.underlying72 rfl (by kernel_rfl) ?_))
    refine (refSame (E12.lies (g := gf) (s := sf) (x := (holdS x L)) (by simp)) (E12.lies (g := gg) (s := sg) (x := (holdS x L)) (by simp))).mono ?_
    rintro e w13 ⟨rfl, hb13⟩
    have E13 := E12.keep hb13
    clear E12 hb13
    go_wp2_with (first | (refine wpList_load_row_w rfl 72 _ rfl (w9.heap.size) rfl _ (wc s9) (0, 0) _ (by exact (E13.bk (g := w9.heap.size) (s := s9) (x := (nextS x)) (by simp))) Try.underlying72 rfl (by kernel_rfl) ?_) | (refine wpList_load_row_w rfl 72 _ rfl (w10.heap.size) rfl _ (wc s10) (0, 0) _ (by exact (E13.bk (g := w10.heap.size) (s := s10) (x := (nextS x)) (by simp))) Try.underlying72 rfl (by kernel_rfl) ?_))
    refine (refSame (E13.lies (g := w9.heap.size) (s := s9) (x := (nextS x)) (by simp)) (E13.lies (g := w10.heap.size) (s := s10) (x := (nextS x)) (by simp))).mono ?_
    rintro e w14 ⟨rfl, hb14⟩
    have E14 := E13.keep hb14
    clear E13 hb14
    have cc := E14.C.cells
    go_wp2_with (refine wpList_load_row rfl 72 _ rfl (w6.heap.size) rfl _ (wc s6) (0, 0) _ (by exact (E14.bk (g := w6.heap.size) (s := s6) (x := (takeS x)) (by simp))) Try.underlying72 rfl (by kernel_rfl) ?_)
    refine (rackPut c s6 (takeS x) hxt 77 _ (E14.lies (g := w6.heap.size) (s := s6) (x := (takeS x)) (by simp))).mono ?_
    rintro e w15 ⟨s15, rfl, _, hb15⟩
    have E15 := E14.keep hb15
    clear E14 hb15 cc
    go_wp2_with (refine wpList_load_row rfl 72 _ rfl (w9.heap.size) rfl _ (wc s9) (0, 0) _ (by exact (E15.bk (g := w9.heap.size) (s := s9) (x := (nextS x)) (by simp))) Try.underlying72 rfl (by kernel_rfl) ?_)
    have E15' := E15.keep ((Below.refl w15.heap.size w15).alloc (Nat.le_refl _) (.cells #[.int .i64 78, .int .i64 79] 3))
    have hr2 : Reads (w15.alloc (.cells #[.int .i64 78, .int .i64 79] 3)) .i64 (.slice (some ⟨w15.heap.size, 0, none⟩) 2 2) [78, 79] := Reads.of_bk (l := [78, 79]) (Bk.new w15 #[.int .i64 78, .int .i64 79] 3) (by unfold maxLen; simp)
    refine (rackHold s9 (nextS x) hxn ⟨some ⟨w15.heap.size, 0, none⟩, 2, 2⟩ [78, 79] (by simp) _ (E15'.lies (g := w9.heap.size) (s := s9) (x := (nextS x)) (by simp)) hr2).mono ?_
    rintro e w16 ⟨s16, rfl, _, hb16⟩
    have E16 := E15'.keep hb16
    clear E15 E15' hb16 hr2
    go_wp2_with (first | (refine wpList_load_row rfl 72 _ rfl (w.heap.size + 1) rfl _ (wc s) (0, 0) _ (by exact (E16.bk (g := w.heap.size + 1) (s := s) (x := x) (by simp))) Try.underlying72 rfl (by kernel_rfl) ?_) | (refine wpList_load_row rfl 72 _ rfl (w3.heap.size) rfl _ (wc s3) (0, 0) _ (by exact (E16.bk (g := w3.heap.size) (s := s3) (x := x) (by simp))) Try.underlying72 rfl (by kernel_rfl) ?_))
    refine (refSame (E16.lies (g := w.heap.size + 1) (s := s) (x := x) (by simp)) (E16.lies (g := w3.heap.size) (s := s3) (x := x) (by simp))).mono ?_
    rintro e w17 ⟨rfl, hb17⟩
    have E17 := E16.keep hb17
    clear E16 hb17
    go_wp2_with (first | (refine wpList_load_row_w rfl 72 _ rfl (w4.heap.size) rfl _ (wc s4) (0, 0) _ (by exact (E17.bk (g := w4.heap.size) (s := s4) (x := (putS c.rk x b)) (by simp))) Try.underlying72 rfl (by kernel_rfl) ?_) | (refine wpList_load_row_w rfl 72 _ rfl (w5.heap.size) rfl _ (wc s5) (0, 0) _ (by exact (E17.bk (g := w5.heap.size) (s := s5) (x := (putS c.rk x b)) (by simp))) Try.underlying72 rfl (by kernel_rfl) ?_))
    refine (refSame (E17.lies (g := w4.heap.size) (s := s4) (x := (putS c.rk x b)) (by simp)) (E17.lies (g := w5.heap.size) (s := s5) (x := (putS c.rk x b)) (by simp))).mono ?_
    rintro e w18 ⟨rfl, hb18⟩
    have E18 := E17.keep hb18
    clear E17 hb18
    go_wp2_with (first | (refine wpList_load_row_w rfl 72 _ rfl (gf) rfl _ (wc sf) (0, 0) _ (by exact (E18.bk (g := gf) (s := sf) (x := (holdS x L)) (by simp))) Try.underlying72 rfl (by kernel_rfl) ?_) | (refine wpList_load_row_w rfl 72 _ rfl (gg) rfl _ (wc sg) (0, 0) _ (by exact (E18.bk (g := gg) (s := sg) (x := (holdS x L)) (by simp))) Try.underlying72 rfl (by kernel_rfl) ?_))
    refine (refSame (E18.lies (g := gf) (s := sf) (x := (holdS x L)) (by simp)) (E18.lies (g := gg) (s := sg) (x := (holdS x L)) (by simp))).mono ?_
    rintro e w19 ⟨rfl, hb19⟩
    go_wp2
    go_ret
    exact ⟨rfl, (E18.keep hb19).below⟩
theorem rackMoves (c : Cfg) (s : Wk) (x : St) (b : Int) (v : Sl) (L : List Int) (w : World) (h : Lies w s x) (hv : Reads w .i64 v.v L) :
    Calls Try.prog 6 #[cv c, wv s, .int .i64 b, v.v] w fun e w' => e = .returned (.bool true) ∧ Below w.heap.size w w' := by
  by_cases hx : Few 40 x
  · obtain ⟨ad, n, cap⟩ := v
    have hn := reads_len hv
    have hm := reads_le hv
    simp only at hn hm
    subst hn
    by_cases hl : L.length ≤ 40
    · exact rackMoves_few c s x hx b ad cap L hl w h hv
    · exact rackMoves_long c s x hx b ad L.length cap (by omega) (by unfold maxLen at hm; omega) w h
  · exact rackMoves_great c s x hx b v w h
end Go.Proofs.Yteppofpmbmmcaaa.Wo

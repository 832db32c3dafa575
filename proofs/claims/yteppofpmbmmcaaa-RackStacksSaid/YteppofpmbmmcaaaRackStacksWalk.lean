/- The law RackStacks, walked (made by genrackst.py). -/
import Derived.Test.YteppofpmbmmcaaaHeldRow
namespace Go.Proofs.Yteppofpmbmmcaaa.Wo
open Go Go.RowKit Go.Proofs.Yteppofpmbmmcaaa.Gro Go.Proofs.Yteppofpmbmmcaaa.Own Go.Proofs.Yteppofpmbmmcaaa.Wd Go.Proofs.Yteppofpmbmmcaaa.Ap Go.Proofs.Yteppofpmbmmcaaa.Pl
set_option linter.unusedVariables false
set_option linter.unusedSimpArgs false

def stk (l : List Int) : St := { zS with rk := l }
def hst (l : List Int) : St := { zS with hl := l }
theorem few_stk {l : List Int} (h : l.length ≤ 900) : Few 900 (stk l) := ⟨h, Nat.zero_le _, Nat.zero_le _, Nat.zero_le _, Nat.zero_le _, Nat.zero_le _⟩
theorem few_hst {l : List Int} (h : l.length ≤ 900) : Few 900 (hst l) := ⟨Nat.zero_le _, Nat.zero_le _, Nat.zero_le _, Nat.zero_le _, h, Nat.zero_le _⟩
theorem cfg8 {c : Cfg} {w : World} {g : Nat} (h : Bk w g (ccW c) 24) : ∀ j, w.cell? ⟨g, j, none⟩ = (ccW c)[j]? := h.cells
/-- The variables of the law: the configuration's box, the state's box. -/
def Sx (w0 : World) (c : Cfg) (gx : Nat) (x : St) (s : Wk) (w : World) : Prop := Bk w w0.heap.size (ccW c) 24 ∧ Bk w gx (wc s) 72 ∧ Lies w s x ∧ Below w0.heap.size w0 w
def Sx' (w0 : World) (c : Cfg) (gx : Nat) (x : St) (w : World) : Prop := ∃ s, Sx w0 c gx x s w
/-- The state's variable is set anew from a variable that was made for it. -/
theorem Sx.next {w0 w1 w2 : World} {c : Cfg} {gx : Nat} {x x' : St} {s s' : Wk} (h : Sx w0 c gx x s w1) (hb : Below w1.heap.size w1 w2) (hl : LiesF w1.heap.size w2 s' x') (h0 : w0.heap.size < gx) :
    Sx' w0 c gx x' (((w2.alloc (.cells (wc wz) 72)).setRow w2.heap.size (wc s')).setRow gx (wc s')) := by
  obtain ⟨h1, h2, h3, h4⟩ := h
  have b1 := boxed_below w2 s'
  have hw := (h4.trans (hb.mono h4.size)).trans (b1.mono (by have := hb.size; have := h4.size; omega))
  refine ⟨s', ((h1.keep hb).keep b1).setRow_far (by omega) _, ((h2.keep hb).keep b1).setRow _, ?_, below_setRow hw (by omega) _⟩
  exact ((hl.keep b1).setRow (by have := h2.lt; omega) _).lies
theorem Sx.fin {w0 w1 w2 : World} {c : Cfg} {gx : Nat} {x x' : St} {s s' : Wk} (h : Sx w0 c gx x s w1) (hb : Below w1.heap.size w1 w2) (hl : LiesF w1.heap.size w2 s' x') (h0 : w0.heap.size < gx) : Sx' w0 c gx x' (w2.setRow gx (wc s')) := by
  obtain ⟨h1, h2, h3, h4⟩ := h
  exact ⟨s', (h1.keep hb).setRow_far (by omega) _, (h2.keep hb).setRow _, (hl.setRow (by have := h2.lt; omega) _).lies, below_setRow (h4.trans (hb.mono h4.size)) (by omega) _⟩
theorem reads_lt {w : World} {k : IntKind} {b off n cap : Nat} {l : List Int} (h : Reads w k (.slice (some ⟨b, off, none⟩) n cap) l) (hl : 0 < l.length) : b < w.heap.size := by
  obtain ⟨ad', cap', he, _, _, h3⟩ := h
  simp only [Value.slice.injEq] at he
  rcases h3 with rfl | ⟨b', off', rfl, hb', _⟩
  · simp at hl
  · have e := he.1
    simp only [Option.some.injEq, Addr.mk.injEq] at e
    omega
theorem stk_snoc (L : List Int) (k : Nat) (hk : k < L.length) : ({ stk (L.take k) with rk := (stk (L.take k)).rk ++ [L[k]] } : St) = stk (L.take (k + 1)) := by
  rw [List.take_succ_eq_append_getElem hk]; rfl
theorem stk_take (L : List Int) (m : Nat) (hm : m < L.length) : takeS (stk (L.take (m + 1))) = stk (L.take m) ∧ takeB (stk (L.take (m + 1))) = L[m] := by
  constructor
  · simp only [takeS, stk, zS]
    congr 1
    rw [List.dropLast_eq_take, List.take_take]; congr 1; simp; omega
  · simp only [takeB, stk]
    rw [List.getLastD_eq_getLast?, List.getLast?_eq_getElem?]
    simp; rw [Nat.min_eq_left (by omega)]; simp [hm]
theorem hst_drop (L : List Int) (k : Nat) (hk : k < L.length) : nextS (hst (L.drop k)) = hst (L.drop (k + 1)) ∧ nextB (hst (L.drop k)) = L[k] := by
  constructor
  · simp [nextS, hst, zS]
  · simp only [nextB, hst]
    rw [List.headD_eq_head?_getD, List.head?_drop]; simp [hk]
theorem Sx.put {w0 w1 w2 : World} {c : Cfg} {gx : Nat} {x : St} {s : Wk} (h : Sx w0 c gx x s w1) (hb : Below w1.heap.size w1 w2) : Sx w0 c gx x s w2 := ⟨h.1.keep hb, h.2.1.keep hb, h.2.2.1.keep hb, h.2.2.2.trans (hb.mono h.2.2.2.size)⟩
set_option maxRecDepth 100000 in
set_option maxHeartbeats 4000000 in
theorem rackStacks_few (c : Cfg) (ad : Option Addr) (cap : Nat) (L : List Int) (h40 : L.length ≤ 40) (w : World) (hv : Reads w .i64 (.slice ad L.length cap) L) :
    Calls Try.prog 8 #[cv c, .slice ad L.length cap] w fun e w' => e = .returned (.bool true) ∧ Below w.heap.size w w' := by
  obtain ⟨R, hR⟩ : ∃ R, R = c.rk.toNat := ⟨_, rfl⟩
  have HR := Lib.hid hR
  clear hR
  have HV := Lib.hid hv
  clear hv
  go_enter Try.func8, Try.ntmps8
  go_wp2_with fail
  refine (awake4 _).mono ?_
  rintro e w1 ⟨rfl, hb1⟩
  have C1 := (Bk.new w (ccW c) 24).keep hb1
  have hw1 : Below w.heap.size w w1 := ((Below.refl _ _).alloc (Nat.le_refl _) _).trans (hb1.mono (by simp))
  have hgx : w.heap.size < w1.heap.size := C1.lt
  have h0 : Sx' w c w1.heap.size (stk (L.take (min 0 R))) (w1.alloc (.cells (wc wz) 72)) := ⟨wz, C1.alloc _, Bk.new w1 (wc wz) 72, by rw [Nat.zero_min]; exact lies_z _, hw1.alloc hw1.size _⟩
  clear hb1 C1
  go_wp2_with (refine wpList_alloc_wz rfl rfl ?_)
  generalize w1.heap.size = gx at *
  go_loopw [6, 7] (fun nn i wr => ∃ k : Nat, k ≤ L.length ∧ i = .int .i64 k ∧ nn = .int .i64 (min k R : Nat) ∧ Sx' w c gx (stk (L.take (min k R))) wr) (fun _ i _ => L.length - (intOf i).toNat)
  case atStart => exact ⟨0, by omega, rfl, by simp, h0⟩
  case round =>
    clear h0
    obtain ⟨k, hk, rfl, rfl, s, HS⟩ := hrel
    by_cases hlt : k < L.length
    · obtain ⟨b, off, had, hc⟩ := reads_at (x := ⟨ad, L.length, cap⟩) (HV.out.keep HS.2.2.2) hlt
      simp only at had
      subst had
      have xc := HS.1
      have xx := HS.2.1
      have hbl := reads_lt HV.out (by omega)
      have hsz := HS.2.2.2.size
      have hbr : b < wr.heap.size := by omega
      by_cases hkr : (k : Int) < c.rk
      · have hmin : min k R = k := by have := HR.out; omega
        have hmin' : min (k + 1) R = k + 1 := by have := HR.out; omega
        have hp := rackPut_yes c s (stk (L.take k)) (few_stk (by simp; omega)) L[k] 
        rw [stk_snoc L k hlt] at hp
        have HP := Lib.hid hp
        clear hp
        rw [hmin] at HS ⊢
        have HM := Lib.hid hmin'
        clear hmin hmin'
        go_wp2
        refine wp_region_held_drew (S := fun w' => Below wr.heap.size wr w') (by kernel_rfl) (Below.drew (Below.refl _ _)) (fun hHeld => ?_)
        refine wpAnyH_take (i := 0) (oi := _) (v := .agg (ccW c)) rfl (by kernel_rfl) (by kernel_rfl) (by kernel_rfl) (fun _ _ _ h => h) (yieldsIf_row rfl 24 _ rfl (w.heap.size) rfl (ccW c) 24 _ (fun w' hw' => Bk.keep xc hw') Try.underlying24 rfl (by kernel_rfl)) hHeld ?_
        simp only [Act.put, List.getElem_toArray, List.getElem_cons_succ, List.getElem_cons_zero, List.setIfInBounds_toArray, List.set_cons_succ, List.set_cons_zero]
        refine wpAnyH_take (i := 1) (oi := _) (v := .agg (wc s)) rfl (by kernel_rfl) (by kernel_rfl) (by kernel_rfl) (fun _ _ _ h => h) (yieldsIf_row rfl 72 _ rfl (gx) rfl (wc s) 72 _ (fun w' hw' => Bk.keep xx hw') Try.underlying72 rfl (by kernel_rfl)) hHeld ?_
        simp only [Act.put, List.getElem_toArray, List.getElem_cons_succ, List.getElem_cons_zero, List.setIfInBounds_toArray, List.set_cons_succ, List.set_cons_zero]
        refine wpAnyH_take (i := 2) (oi := _) (v := .slice (some ⟨b, off, none⟩) L.length cap) rfl (by kernel_rfl) (by kernel_rfl) (by kernel_rfl) (fun _ _ _ h => h) (Or.inl ⟨by rfl, fun w' hSw => by go_simp⟩) hHeld ?_
        simp only [Act.put, List.getElem_toArray, List.getElem_cons_succ, List.getElem_cons_zero, List.setIfInBounds_toArray, List.set_cons_succ, List.set_cons_zero]
        refine wpAnyH_take (i := 3) (oi := _) (v := .int .i64 (k : Int)) rfl (by kernel_rfl) (by kernel_rfl) (by kernel_rfl) (fun _ _ _ h => h) (Or.inl ⟨by rfl, fun w' hSw => by go_simp⟩) hHeld ?_
        simp only [Act.put, List.getElem_toArray, List.getElem_cons_succ, List.getElem_cons_zero, List.setIfInBounds_toArray, List.set_cons_succ, List.set_cons_zero]
        refine wpAnyH_take (i := 4) (oi := _) (v := .pointer (some ⟨b, off + k, none⟩)) rfl (by kernel_rfl) (by kernel_rfl) (by kernel_rfl) (fun _ _ _ h => h) (Or.inl ⟨by rfl, fun w' hSw => by go_simp⟩) hHeld ?_
        simp only [Act.put, List.getElem_toArray, List.getElem_cons_succ, List.getElem_cons_zero, List.setIfInBounds_toArray, List.set_cons_succ, List.set_cons_zero]
        refine wpAnyH_take (i := 5) (oi := _) (v := .int .i64 L[k]) rfl (by kernel_rfl) (by kernel_rfl) (by kernel_rfl) (fun _ _ _ h => h) (Or.inl ⟨by rfl, fun w' hSw => by have hcw := (Below.cell (p := ⟨b, off + k, none⟩) hSw hbr).trans hc; go_simp⟩) hHeld ?_
        simp only [Act.put, List.getElem_toArray, List.getElem_cons_succ, List.getElem_cons_zero, List.setIfInBounds_toArray, List.set_cons_succ, List.set_cons_zero]
        refine wpAnyH_ready (rs := [6, 10]) (by kernel_rfl) (by simp) ?_
        refine AllReadyH.cons (o := _) rfl (fun K hK => ?_) (AllReadyH.cons (o := _) rfl (fun K hK => ?_) AllReadyH.nil)
        · go_simp
          refine (HP.out _ (HS.put hHeld).2.2.1 (by simp [stk]; omega)).mono ?_
          rintro e w9 ⟨s9, rfl, L9, hb9⟩
          refine hK.out _ _ (hHeld.trans (hb9.mono hHeld.size)) (fun hHeld => ?_)
          clear hK K
          refine wpAnyH_take (i := 7) (oi := _) (v := .tuple #[wv s9, .bool true]) rfl (by kernel_rfl) (by kernel_rfl) (by kernel_rfl) (fun _ _ _ h => h) (Or.inl ⟨by rfl, fun w' hSw => by go_simp⟩) hHeld ?_
          simp only [Act.put, List.getElem_toArray, List.getElem_cons_succ, List.getElem_cons_zero, List.setIfInBounds_toArray, List.set_cons_succ, List.set_cons_zero]
          refine wpAnyH_take (i := 8) (oi := _) (v := wv s9) rfl (by kernel_rfl) (by kernel_rfl) (by kernel_rfl) (fun _ _ _ h => h) (Or.inl ⟨by rfl, fun w' hSw => by go_simp⟩) hHeld ?_
          simp only [Act.put, List.getElem_toArray, List.getElem_cons_succ, List.getElem_cons_zero, List.setIfInBounds_toArray, List.set_cons_succ, List.set_cons_zero]
          refine wpAnyH_take (i := 9) (oi := _) (v := .bool true) rfl (by kernel_rfl) (by kernel_rfl) (by kernel_rfl) (fun _ _ _ h => h) (Or.inl ⟨by rfl, fun w' hSw => by go_simp⟩) hHeld ?_
          simp only [Act.put, List.getElem_toArray, List.getElem_cons_succ, List.getElem_cons_zero, List.setIfInBounds_toArray, List.set_cons_succ, List.set_cons_zero]
          refine wpAnyH_ready (rs := [10]) (by kernel_rfl) (by simp) ?_
          refine AllReadyH.cons (o := _) rfl (fun K hK => ?_) AllReadyH.nil
          refine step_alloc_wz rfl rfl ?_
          refine hK.out _ _ (hHeld.alloc hHeld.size _) (fun hHeld => ?_)
          clear hK K
          simp only [Act.put, List.getElem_toArray, List.getElem_cons_succ, List.getElem_cons_zero, List.setIfInBounds_toArray, List.set_cons_succ, List.set_cons_zero]
          refine wpAnyH_ready (rs := [11]) (by kernel_rfl) (by simp) ?_
          refine AllReadyH.cons (o := _) rfl (fun K hK => ?_) AllReadyH.nil
          refine step_row rfl 72 _ _ rfl (w9.heap.size) (wc s9) rfl rfl _ _ (by exact Bk.new w9 (wc wz) 72) (by kernel_rfl) (by kernel_rfl) (by kernel_rfl) ?_
          refine hK.out _ _ (below_setRow hHeld (by have h1 := hb9.size; have h2 : wr.heap.size ≤ wr.drew.heap.size := Nat.le_refl _; omega) _) (fun hHeld => ?_)
          clear hK K
          simp only [Act.put, List.getElem_toArray, List.getElem_cons_succ, List.getElem_cons_zero, List.setIfInBounds_toArray, List.set_cons_succ, List.set_cons_zero]
          refine wpAnyH_take (i := 12) (oi := _) (v := .bool true) rfl (by kernel_rfl) (by kernel_rfl) (by kernel_rfl) (fun _ _ _ h => h) (Or.inl ⟨by rfl, fun w' hSw => by go_simp⟩) hHeld ?_
          simp only [Act.put, List.getElem_toArray, List.getElem_cons_succ, List.getElem_cons_zero, List.setIfInBounds_toArray, List.set_cons_succ, List.set_cons_zero]
          refine wpAnyH_done (by kernel_rfl) ?_ _
          simp only [Exit.then]
          apply_assumption
          have X9 : Bk _ (w9.heap.size) (wc s9) 72 := (Bk.new w9 (wc wz) 72).setRow (wc s9)
          have xg : Bk _ gx (wc s) 72 := xx.keep hHeld
          have HF := HS.fin (s' := s9) hHeld (L9.keep (boxed_below w9 s9)) hgx
          have cg := (xc.keep hHeld).cells
          go_wp2_with (first | (refine wpList_load_row rfl 72 _ rfl (w9.heap.size) rfl _ (wc s9) (0, 0) _ (by exact X9) Try.underlying72 rfl (by kernel_rfl) ?_) | (refine wpList_load_row rfl 72 _ rfl (wr.heap.size) rfl _ (wc s9) (0, 0) _ (by exact X9) Try.underlying72 rfl (by kernel_rfl) ?_) | (refine wpList_store_row rfl 72 _ _ rfl (gx) (wc s9) rfl rfl _ _ (by exact xg) (by kernel_rfl) (by kernel_rfl) (by kernel_rfl) ?_))
          go_roundw
          case rel => exact ⟨k + 1, by omega, by go_num, by rw [HM.out]; go_num, by rw [HM.out]; exact HF⟩
          case measure => simp [intOf]; omega
        · refine step_alloc_wz rfl rfl ?_
          refine hK.out _ _ (hHeld.alloc hHeld.size _) (fun hHeld => ?_)
          clear hK K
          simp only [Act.put, List.getElem_toArray, List.getElem_cons_succ, List.getElem_cons_zero, List.setIfInBounds_toArray, List.set_cons_succ, List.set_cons_zero]
          refine wpAnyH_ready (rs := [6]) (by kernel_rfl) (by simp) ?_
          refine AllReadyH.cons (o := _) rfl (fun K hK => ?_) AllReadyH.nil
          go_simp
          refine (HP.out _ (HS.put hHeld).2.2.1 (by simp [stk]; omega)).mono ?_
          rintro e w9 ⟨s9, rfl, L9, hb9⟩
          refine hK.out _ _ (hHeld.trans (hb9.mono hHeld.size)) (fun hHeld => ?_)
          clear hK K
          refine wpAnyH_take (i := 7) (oi := _) (v := .tuple #[wv s9, .bool true]) rfl (by kernel_rfl) (by kernel_rfl) (by kernel_rfl) (fun _ _ _ h => h) (Or.inl ⟨by rfl, fun w' hSw => by go_simp⟩) hHeld ?_
          simp only [Act.put, List.getElem_toArray, List.getElem_cons_succ, List.getElem_cons_zero, List.setIfInBounds_toArray, List.set_cons_succ, List.set_cons_zero]
          refine wpAnyH_take (i := 8) (oi := _) (v := wv s9) rfl (by kernel_rfl) (by kernel_rfl) (by kernel_rfl) (fun _ _ _ h => h) (Or.inl ⟨by rfl, fun w' hSw => by go_simp⟩) hHeld ?_
          simp only [Act.put, List.getElem_toArray, List.getElem_cons_succ, List.getElem_cons_zero, List.setIfInBounds_toArray, List.set_cons_succ, List.set_cons_zero]
          refine wpAnyH_take (i := 9) (oi := _) (v := .bool true) rfl (by kernel_rfl) (by kernel_rfl) (by kernel_rfl) (fun _ _ _ h => h) (Or.inl ⟨by rfl, fun w' hSw => by go_simp⟩) hHeld ?_
          simp only [Act.put, List.getElem_toArray, List.getElem_cons_succ, List.getElem_cons_zero, List.setIfInBounds_toArray, List.set_cons_succ, List.set_cons_zero]
          have Z9 := Bk.keep (Bk.new wr.drew (wc wz) 72) hb9
          refine wpAnyH_ready (rs := [11]) (by kernel_rfl) (by simp) ?_
          refine AllReadyH.cons (o := _) rfl (fun K hK => ?_) AllReadyH.nil
          refine step_row rfl 72 _ _ rfl (wr.heap.size) (wc s9) rfl rfl _ _ (by exact Z9) (by kernel_rfl) (by kernel_rfl) (by kernel_rfl) ?_
          refine hK.out _ _ (below_setRow hHeld (by omega) _) (fun hHeld => ?_)
          clear hK K
          simp only [Act.put, List.getElem_toArray, List.getElem_cons_succ, List.getElem_cons_zero, List.setIfInBounds_toArray, List.set_cons_succ, List.set_cons_zero]
          refine wpAnyH_take (i := 12) (oi := _) (v := .bool true) rfl (by kernel_rfl) (by kernel_rfl) (by kernel_rfl) (fun _ _ _ h => h) (Or.inl ⟨by rfl, fun w' hSw => by go_simp⟩) hHeld ?_
          simp only [Act.put, List.getElem_toArray, List.getElem_cons_succ, List.getElem_cons_zero, List.setIfInBounds_toArray, List.set_cons_succ, List.set_cons_zero]
          refine wpAnyH_done (by kernel_rfl) ?_ _
          simp only [Exit.then]
          apply_assumption
          have X9 : Bk _ (wr.heap.size) (wc s9) 72 := (show Bk w9 wr.heap.size (wc wz) 72 from Z9).setRow (wc s9)
          have xg : Bk _ gx (wc s) 72 := xx.keep hHeld
          have HF := HS.fin (s' := s9) hHeld ((L9.setRow (g := wr.heap.size) (by simp) (wc s9)).base (by simp)) hgx
          have cg := (xc.keep hHeld).cells
          go_wp2_with (first | (refine wpList_load_row rfl 72 _ rfl (w9.heap.size) rfl _ (wc s9) (0, 0) _ (by exact X9) Try.underlying72 rfl (by kernel_rfl) ?_) | (refine wpList_load_row rfl 72 _ rfl (wr.heap.size) rfl _ (wc s9) (0, 0) _ (by exact X9) Try.underlying72 rfl (by kernel_rfl) ?_) | (refine wpList_store_row rfl 72 _ _ rfl (gx) (wc s9) rfl rfl _ _ (by exact xg) (by kernel_rfl) (by kernel_rfl) (by kernel_rfl) ?_))
          go_roundw
          case rel => exact ⟨k + 1, by omega, by go_num, by rw [HM.out]; go_num, by rw [HM.out]; exact HF⟩
          case measure => simp [intOf]; omega
      · have hmin : min k R = R := by have := HR.out; omega
        have hmin' : min (k + 1) R = R := by have := HR.out; omega
        have hRL : R ≤ L.length := by omega
        have hp := rackPut_no c s (stk (L.take R)) (few_stk (by simp; omega)) L[k]
        have HP := Lib.hid hp
        clear hp
        have hnl : ¬ (((stk (L.take R)).rk.length : Int) < c.rk) := by simp [stk]; have := HR.out; omega
        rw [hmin] at HS ⊢
        have HM := Lib.hid hmin'
        have HNL := Lib.hid hnl
        clear hmin hmin' hnl
        go_wp2
        refine wp_region_held_drew (S := fun w' => Below wr.heap.size wr w') (by kernel_rfl) (Below.drew (Below.refl _ _)) (fun hHeld => ?_)
        refine wpAnyH_take (i := 0) (oi := _) (v := .agg (ccW c)) rfl (by kernel_rfl) (by kernel_rfl) (by kernel_rfl) (fun _ _ _ h => h) (yieldsIf_row rfl 24 _ rfl (w.heap.size) rfl (ccW c) 24 _ (fun w' hw' => Bk.keep xc hw') Try.underlying24 rfl (by kernel_rfl)) hHeld ?_
        simp only [Act.put, List.getElem_toArray, List.getElem_cons_succ, List.getElem_cons_zero, List.setIfInBounds_toArray, List.set_cons_succ, List.set_cons_zero]
        refine wpAnyH_take (i := 1) (oi := _) (v := .agg (wc s)) rfl (by kernel_rfl) (by kernel_rfl) (by kernel_rfl) (fun _ _ _ h => h) (yieldsIf_row rfl 72 _ rfl (gx) rfl (wc s) 72 _ (fun w' hw' => Bk.keep xx hw') Try.underlying72 rfl (by kernel_rfl)) hHeld ?_
        simp only [Act.put, List.getElem_toArray, List.getElem_cons_succ, List.getElem_cons_zero, List.setIfInBounds_toArray, List.set_cons_succ, List.set_cons_zero]
        refine wpAnyH_take (i := 2) (oi := _) (v := .slice (some ⟨b, off, none⟩) L.length cap) rfl (by kernel_rfl) (by kernel_rfl) (by kernel_rfl) (fun _ _ _ h => h) (Or.inl ⟨by rfl, fun w' hSw => by go_simp⟩) hHeld ?_
        simp only [Act.put, List.getElem_toArray, List.getElem_cons_succ, List.getElem_cons_zero, List.setIfInBounds_toArray, List.set_cons_succ, List.set_cons_zero]
        refine wpAnyH_take (i := 3) (oi := _) (v := .int .i64 (k : Int)) rfl (by kernel_rfl) (by kernel_rfl) (by kernel_rfl) (fun _ _ _ h => h) (Or.inl ⟨by rfl, fun w' hSw => by go_simp⟩) hHeld ?_
        simp only [Act.put, List.getElem_toArray, List.getElem_cons_succ, List.getElem_cons_zero, List.setIfInBounds_toArray, List.set_cons_succ, List.set_cons_zero]
        refine wpAnyH_take (i := 4) (oi := _) (v := .pointer (some ⟨b, off + k, none⟩)) rfl (by kernel_rfl) (by kernel_rfl) (by kernel_rfl) (fun _ _ _ h => h) (Or.inl ⟨by rfl, fun w' hSw => by go_simp⟩) hHeld ?_
        simp only [Act.put, List.getElem_toArray, List.getElem_cons_succ, List.getElem_cons_zero, List.setIfInBounds_toArray, List.set_cons_succ, List.set_cons_zero]
        refine wpAnyH_take (i := 5) (oi := _) (v := .int .i64 L[k]) rfl (by kernel_rfl) (by kernel_rfl) (by kernel_rfl) (fun _ _ _ h => h) (Or.inl ⟨by rfl, fun w' hSw => by have hcw := (Below.cell (p := ⟨b, off + k, none⟩) hSw hbr).trans hc; go_simp⟩) hHeld ?_
        simp only [Act.put, List.getElem_toArray, List.getElem_cons_succ, List.getElem_cons_zero, List.setIfInBounds_toArray, List.set_cons_succ, List.set_cons_zero]
        refine wpAnyH_ready (rs := [6, 10]) (by kernel_rfl) (by simp) ?_
        refine AllReadyH.cons (o := _) rfl (fun K hK => ?_) (AllReadyH.cons (o := _) rfl (fun K hK => ?_) AllReadyH.nil)
        · go_simp
          refine (HP.out _ (HS.put hHeld).2.2.1 HNL.out).mono ?_
          rintro e w9 ⟨s9, rfl, L9, hb9⟩
          refine hK.out _ _ (hHeld.trans (hb9.mono hHeld.size)) (fun hHeld => ?_)
          clear hK K
          refine wpAnyH_take (i := 7) (oi := _) (v := .tuple #[wv s9, .bool false]) rfl (by kernel_rfl) (by kernel_rfl) (by kernel_rfl) (fun _ _ _ h => h) (Or.inl ⟨by rfl, fun w' hSw => by go_simp⟩) hHeld ?_
          simp only [Act.put, List.getElem_toArray, List.getElem_cons_succ, List.getElem_cons_zero, List.setIfInBounds_toArray, List.set_cons_succ, List.set_cons_zero]
          refine wpAnyH_take (i := 8) (oi := _) (v := wv s9) rfl (by kernel_rfl) (by kernel_rfl) (by kernel_rfl) (fun _ _ _ h => h) (Or.inl ⟨by rfl, fun w' hSw => by go_simp⟩) hHeld ?_
          simp only [Act.put, List.getElem_toArray, List.getElem_cons_succ, List.getElem_cons_zero, List.setIfInBounds_toArray, List.set_cons_succ, List.set_cons_zero]
          refine wpAnyH_take (i := 9) (oi := _) (v := .bool false) rfl (by kernel_rfl) (by kernel_rfl) (by kernel_rfl) (fun _ _ _ h => h) (Or.inl ⟨by rfl, fun w' hSw => by go_simp⟩) hHeld ?_
          simp only [Act.put, List.getElem_toArray, List.getElem_cons_succ, List.getElem_cons_zero, List.setIfInBounds_toArray, List.set_cons_succ, List.set_cons_zero]
          refine wpAnyH_ready (rs := [10]) (by kernel_rfl) (by simp) ?_
          refine AllReadyH.cons (o := _) rfl (fun K hK => ?_) AllReadyH.nil
          refine step_alloc_wz rfl rfl ?_
          refine hK.out _ _ (hHeld.alloc hHeld.size _) (fun hHeld => ?_)
          clear hK K
          simp only [Act.put, List.getElem_toArray, List.getElem_cons_succ, List.getElem_cons_zero, List.setIfInBounds_toArray, List.set_cons_succ, List.set_cons_zero]
          refine wpAnyH_ready (rs := [11]) (by kernel_rfl) (by simp) ?_
          refine AllReadyH.cons (o := _) rfl (fun K hK => ?_) AllReadyH.nil
          refine step_row rfl 72 _ _ rfl (w9.heap.size) (wc s9) rfl rfl _ _ (by exact Bk.new w9 (wc wz) 72) (by kernel_rfl) (by kernel_rfl) (by kernel_rfl) ?_
          refine hK.out _ _ (below_setRow hHeld (by have h1 := hb9.size; have h2 : wr.heap.size ≤ wr.drew.heap.size := Nat.le_refl _; omega) _) (fun hHeld => ?_)
          clear hK K
          simp only [Act.put, List.getElem_toArray, List.getElem_cons_succ, List.getElem_cons_zero, List.setIfInBounds_toArray, List.set_cons_succ, List.set_cons_zero]
          refine wpAnyH_take (i := 12) (oi := _) (v := .bool false) rfl (by kernel_rfl) (by kernel_rfl) (by kernel_rfl) (fun _ _ _ h => h) (Or.inl ⟨by rfl, fun w' hSw => by go_simp⟩) hHeld ?_
          simp only [Act.put, List.getElem_toArray, List.getElem_cons_succ, List.getElem_cons_zero, List.setIfInBounds_toArray, List.set_cons_succ, List.set_cons_zero]
          refine wpAnyH_done (by kernel_rfl) ?_ _
          simp only [Exit.then]
          apply_assumption
          have X9 : Bk _ (w9.heap.size) (wc s9) 72 := (Bk.new w9 (wc wz) 72).setRow (wc s9)
          have xg : Bk _ gx (wc s) 72 := xx.keep hHeld
          have HF := HS.fin (s' := s9) hHeld (L9.keep (boxed_below w9 s9)) hgx
          have cg := (xc.keep hHeld).cells
          go_wp2_with (first | (refine wpList_load_row rfl 72 _ rfl (w9.heap.size) rfl _ (wc s9) (0, 0) _ (by exact X9) Try.underlying72 rfl (by kernel_rfl) ?_) | (refine wpList_load_row rfl 72 _ rfl (wr.heap.size) rfl _ (wc s9) (0, 0) _ (by exact X9) Try.underlying72 rfl (by kernel_rfl) ?_) | (refine wpList_store_row rfl 72 _ _ rfl (gx) (wc s9) rfl rfl _ _ (by exact xg) (by kernel_rfl) (by kernel_rfl) (by kernel_rfl) ?_))
          go_roundw
          case rel => exact ⟨k + 1, by omega, by go_num, by rw [HM.out], by rw [HM.out]; exact HF⟩
          case measure => simp [intOf]; omega
        · refine step_alloc_wz rfl rfl ?_
          refine hK.out _ _ (hHeld.alloc hHeld.size _) (fun hHeld => ?_)
          clear hK K
          simp only [Act.put, List.getElem_toArray, List.getElem_cons_succ, List.getElem_cons_zero, List.setIfInBounds_toArray, List.set_cons_succ, List.set_cons_zero]
          refine wpAnyH_ready (rs := [6]) (by kernel_rfl) (by simp) ?_
          refine AllReadyH.cons (o := _) rfl (fun K hK => ?_) AllReadyH.nil
          go_simp
          refine (HP.out _ (HS.put hHeld).2.2.1 HNL.out).mono ?_
          rintro e w9 ⟨s9, rfl, L9, hb9⟩
          refine hK.out _ _ (hHeld.trans (hb9.mono hHeld.size)) (fun hHeld => ?_)
          clear hK K
          refine wpAnyH_take (i := 7) (oi := _) (v := .tuple #[wv s9, .bool false]) rfl (by kernel_rfl) (by kernel_rfl) (by kernel_rfl) (fun _ _ _ h => h) (Or.inl ⟨by rfl, fun w' hSw => by go_simp⟩) hHeld ?_
          simp only [Act.put, List.getElem_toArray, List.getElem_cons_succ, List.getElem_cons_zero, List.setIfInBounds_toArray, List.set_cons_succ, List.set_cons_zero]
          refine wpAnyH_take (i := 8) (oi := _) (v := wv s9) rfl (by kernel_rfl) (by kernel_rfl) (by kernel_rfl) (fun _ _ _ h => h) (Or.inl ⟨by rfl, fun w' hSw => by go_simp⟩) hHeld ?_
          simp only [Act.put, List.getElem_toArray, List.getElem_cons_succ, List.getElem_cons_zero, List.setIfInBounds_toArray, List.set_cons_succ, List.set_cons_zero]
          refine wpAnyH_take (i := 9) (oi := _) (v := .bool false) rfl (by kernel_rfl) (by kernel_rfl) (by kernel_rfl) (fun _ _ _ h => h) (Or.inl ⟨by rfl, fun w' hSw => by go_simp⟩) hHeld ?_
          simp only [Act.put, List.getElem_toArray, List.getElem_cons_succ, List.getElem_cons_zero, List.setIfInBounds_toArray, List.set_cons_succ, List.set_cons_zero]
          have Z9 := Bk.keep (Bk.new wr.drew (wc wz) 72) hb9
          refine wpAnyH_ready (rs := [11]) (by kernel_rfl) (by simp) ?_
          refine AllReadyH.cons (o := _) rfl (fun K hK => ?_) AllReadyH.nil
          refine step_row rfl 72 _ _ rfl (wr.heap.size) (wc s9) rfl rfl _ _ (by exact Z9) (by kernel_rfl) (by kernel_rfl) (by kernel_rfl) ?_
          refine hK.out _ _ (below_setRow hHeld (by omega) _) (fun hHeld => ?_)
          clear hK K
          simp only [Act.put, List.getElem_toArray, List.getElem_cons_succ, List.getElem_cons_zero, List.setIfInBounds_toArray, List.set_cons_succ, List.set_cons_zero]
          refine wpAnyH_take (i := 12) (oi := _) (v := .bool false) rfl (by kernel_rfl) (by kernel_rfl) (by kernel_rfl) (fun _ _ _ h => h) (Or.inl ⟨by rfl, fun w' hSw => by go_simp⟩) hHeld ?_
          simp only [Act.put, List.getElem_toArray, List.getElem_cons_succ, List.getElem_cons_zero, List.setIfInBounds_toArray, List.set_cons_succ, List.set_cons_zero]
          refine wpAnyH_done (by kernel_rfl) ?_ _
          simp only [Exit.then]
          apply_assumption
          have X9 : Bk _ (wr.heap.size) (wc s9) 72 := (show Bk w9 wr.heap.size (wc wz) 72 from Z9).setRow (wc s9)
          have xg : Bk _ gx (wc s) 72 := xx.keep hHeld
          have HF := HS.fin (s' := s9) hHeld ((L9.setRow (g := wr.heap.size) (by simp) (wc s9)).base (by simp)) hgx
          have cg := (xc.keep hHeld).cells
          go_wp2_with (first | (refine wpList_load_row rfl 72 _ rfl (w9.heap.size) rfl _ (wc s9) (0, 0) _ (by exact X9) Try.underlying72 rfl (by kernel_rfl) ?_) | (refine wpList_load_row rfl 72 _ rfl (wr.heap.size) rfl _ (wc s9) (0, 0) _ (by exact X9) Try.underlying72 rfl (by kernel_rfl) ?_) | (refine wpList_store_row rfl 72 _ _ rfl (gx) (wc s9) rfl rfl _ _ (by exact xg) (by kernel_rfl) (by kernel_rfl) (by kernel_rfl) ?_))
          go_roundw
          case rel => exact ⟨k + 1, by omega, by go_num, by rw [HM.out], by rw [HM.out]; exact HF⟩
          case measure => simp [intOf]; omega
    · obtain rfl : L.length = k := by omega
      have H1 : Sx' w c gx (stk (L.take (min L.length R))) wr := ⟨s, HS⟩
      clear HS
      obtain ⟨m0, hm0, hm40⟩ : ∃ m0, m0 = min L.length R ∧ m0 ≤ 40 := ⟨_, rfl, by omega⟩
      have hmL : m0 ≤ L.length := by omega
      rw [← hm0] at H1 ⊢
      clear hm0
      obtain ⟨wo, rfl⟩ : ∃ wo : World, wo = wr := ⟨_, rfl⟩
      go_wp2
      go_loopw [10] (fun i wr => ∃ m : Nat, m ≤ L.length ∧ i = .int .i64 ((m : Int) - 1) ∧ Sx' w c gx (stk (L.take m)) wr) (fun i _ => (intOf i + 1).toNat)
      case atStart => exact ⟨m0, by omega, rfl, H1⟩
      case round =>
        clear H1
        obtain ⟨m, hm, rfl, s, HS⟩ := hrel
        have xx := HS.2.1
        by_cases hlt : 0 < m
        · obtain ⟨m, rfl⟩ : ∃ q, m = q + 1 := ⟨m - 1, by omega⟩
          obtain ⟨b, off, had, hc⟩ := reads_at (x := ⟨ad, L.length, cap⟩) (HV.out.keep HS.2.2.2) (i := m) (by omega)
          simp only at had
          subst had
          have hbl := reads_lt HV.out (by omega)
          have hsz := HS.2.2.2.size
          have hc0 := (Below.cell (p := ⟨b, off + m, none⟩) HS.2.2.2 hbl).symm.trans hc
          have hsx := stk_take L m (by omega)
          have hp := rackTake s (stk (L.take (m + 1))) (few_stk (by simp; omega))
          rw [hsx.1, hsx.2] at hp
          have HP := Lib.hid hp
          clear hp hsx hc
          have e1 : ((m + 1 : Nat) : Int) - 1 = (m : Int) := by omega
          rw [e1]
          clear e1
          go_wp2_with (refine wpList_load_row rfl 72 _ rfl (gx) rfl _ (wc s) (0, 0) _ (by exact xx) Try.underlying72 rfl (by kernel_rfl) ?_)
          refine (HP.out _ HS.2.2.1).mono ?_
          rintro e w9 ⟨s9, rfl, L9, hb9⟩
          have X9 := boxed_bk w9 s9
          have Z9 := Bk.new w9 (wc wz) 72
          have xg := (xx.keep hb9).keep (boxed_below w9 s9)
          have HF := HS.fin (s' := s9) (hb9.trans ((boxed_below w9 s9).mono hb9.size)) (L9.keep (boxed_below w9 s9)) hgx
          have hcc := (Below.cell (p := ⟨b, off + m, none⟩) (HS.2.2.2.trans ((hb9.trans ((boxed_below w9 s9).mono hb9.size)).mono hsz)) hbl).trans hc0
          go_wp2_with (first | (refine wpList_alloc_wz rfl rfl ?_) | (refine wpList_store_row rfl 72 _ _ rfl (w9.heap.size) (wc s9) rfl rfl _ _ (by exact Z9) (by kernel_rfl) (by kernel_rfl) (by kernel_rfl) ?_) | (refine wpList_load_row rfl 72 _ rfl (w9.heap.size) rfl _ (wc s9) (0, 0) _ (by exact X9) Try.underlying72 rfl (by kernel_rfl) ?_) | (refine wpList_store_row rfl 72 _ _ rfl (gx) (wc s9) rfl rfl _ _ (by exact xg) (by kernel_rfl) (by kernel_rfl) (by kernel_rfl) ?_))
          go_roundw
          case rel => exact ⟨m, by omega, rfl, HF⟩
          case measure => simp [intOf] <;> omega
        · obtain rfl : m = 0 := by omega
          have hp := rackTake s (stk []) (few_stk (by simp))
          rw [show takeB (stk []) = -1 from rfl, show takeS (stk []) = stk [] from rfl] at hp
          have HP := Lib.hid hp
          clear hp
          rw [List.take_zero] at HS
          go_wp2_with (refine wpList_load_row rfl 72 _ rfl (gx) rfl _ (wc s) (0, 0) _ (by exact xx) Try.underlying72 rfl (by kernel_rfl) ?_)
          refine (HP.out _ HS.2.2.1).mono ?_
          rintro e w9 ⟨s9, rfl, L9, hb9⟩
          have X9 := boxed_bk w9 s9
          have Z9 := Bk.new w9 (wc wz) 72
          have HS9 := (HS.put hb9).put (boxed_below w9 s9)
          have xg := HS9.2.1
          have lg := HS9.2.2.1
          have vg := HV.out.keep HS9.2.2.2
          go_wp2_with (first | (refine wpList_alloc_wz rfl rfl ?_) | (refine wpList_store_row rfl 72 _ _ rfl (w9.heap.size) (wc s9) rfl rfl _ _ (by exact Z9) (by kernel_rfl) (by kernel_rfl) (by kernel_rfl) ?_) | (refine wpList_load_row rfl 72 _ rfl (gx) rfl _ (wc s) (0, 0) _ (by exact xg) Try.underlying72 rfl (by kernel_rfl) ?_))
          have hp := rackHold s (stk []) (few_stk (by simp)) ⟨ad, L.length, cap⟩ L (by omega) _ lg vg
          refine hp.mono ?_
          rintro e w10 ⟨s10, rfl, ⟨L10, _⟩, hb10⟩
          have H10 : Sx' w c gx (hst L) (w10.setRow gx (wc s10)) := HS9.fin hb10 L10 hgx
          have xh := (HS9.put hb10).2.1
          clear hp HP L10 hb10 lg vg xg HS9 L9 hb9 X9 Z9
          go_wp2_with (refine wpList_store_row rfl 72 _ _ rfl (gx) (wc s10) rfl rfl _ _ (by exact xh) (by kernel_rfl) (by kernel_rfl) (by kernel_rfl) ?_)
          generalize w10.setRow gx (wc s10) = w11 at *
          clear xh
          go_loopw [15] (fun i wr => ∃ k : Nat, k ≤ L.length ∧ i = .int .i64 k ∧ Sx' w c gx (hst (L.drop k)) wr) (fun i _ => L.length - (intOf i).toNat)
          case atStart => exact ⟨0, by omega, rfl, H10⟩
          case round =>
            clear H10 HS xx
            obtain ⟨k, hk, rfl, s, HS⟩ := hrel
            have xx := HS.2.1
            by_cases hlt : k < L.length
            · obtain ⟨b, off, had, hc⟩ := reads_at (x := ⟨ad, L.length, cap⟩) (HV.out.keep HS.2.2.2) hlt
              simp only at had
              subst had
              have hbl := reads_lt HV.out (by omega)
              have hsz := HS.2.2.2.size
              have hc0 := (Below.cell (p := ⟨b, off + k, none⟩) HS.2.2.2 hbl).symm.trans hc
              have hsx := hst_drop L k hlt
              have hp := rackNext s (hst (L.drop k)) (few_hst (by simp; omega))
              rw [hsx.1, hsx.2] at hp
              have HP := Lib.hid hp
              clear hp hsx hc
              go_wp2_with (refine wpList_load_row rfl 72 _ rfl (gx) rfl _ (wc s) (0, 0) _ (by exact xx) Try.underlying72 rfl (by kernel_rfl) ?_)
              refine (HP.out _ HS.2.2.1).mono ?_
              rintro e w9 ⟨s9, rfl, L9, hb9⟩
              have X9 := boxed_bk w9 s9
              have Z9 := Bk.new w9 (wc wz) 72
              have xg := (xx.keep hb9).keep (boxed_below w9 s9)
              have HF := HS.fin (s' := s9) (hb9.trans ((boxed_below w9 s9).mono hb9.size)) (L9.keep (boxed_below w9 s9)) hgx
              have hcc := (Below.cell (p := ⟨b, off + k, none⟩) (HS.2.2.2.trans ((hb9.trans ((boxed_below w9 s9).mono hb9.size)).mono hsz)) hbl).trans hc0
              go_wp2_with (first | (refine wpList_alloc_wz rfl rfl ?_) | (refine wpList_store_row rfl 72 _ _ rfl (w9.heap.size) (wc s9) rfl rfl _ _ (by exact Z9) (by kernel_rfl) (by kernel_rfl) (by kernel_rfl) ?_) | (refine wpList_load_row rfl 72 _ rfl (w9.heap.size) rfl _ (wc s9) (0, 0) _ (by exact X9) Try.underlying72 rfl (by kernel_rfl) ?_) | (refine wpList_store_row rfl 72 _ _ rfl (gx) (wc s9) rfl rfl _ _ (by exact xg) (by kernel_rfl) (by kernel_rfl) (by kernel_rfl) ?_))
              go_roundw
              case rel => exact ⟨k + 1, by omega, by go_num, HF⟩
              case measure => simp [intOf]; omega
            · obtain rfl : L.length = k := by omega
              have hp := rackNext s (hst (L.drop L.length)) (few_hst (by simp))
              rw [List.drop_length, show nextB (hst []) = -1 from rfl, show nextS (hst []) = hst [] from rfl] at hp
              rw [List.drop_length] at HS
              have HP := Lib.hid hp
              clear hp
              go_wp2_with (refine wpList_load_row rfl 72 _ rfl (gx) rfl _ (wc s) (0, 0) _ (by exact xx) Try.underlying72 rfl (by kernel_rfl) ?_)
              refine (HP.out _ HS.2.2.1).mono ?_
              rintro e w9 ⟨s9, rfl, L9, hb9⟩
              have Z9 := Bk.new w9 (wc wz) 72
              have HS9 := (HS.put hb9).put (boxed_below w9 s9)
              go_wp2_with (first | (refine wpList_alloc_wz rfl rfl ?_) | (refine wpList_store_row rfl 72 _ _ rfl (w9.heap.size) (wc s9) rfl rfl _ _ (by exact Z9) (by kernel_rfl) (by kernel_rfl) (by kernel_rfl) ?_))
              go_ret
              exact ⟨rfl, HS9.2.2.2⟩
theorem rackStacks_many (c : Cfg) (ad : Option Addr) (n cap : Nat) (h40 : 40 < n) (hn : n ≤ maxLen) (w : World) :
    Calls Try.prog 8 #[cv c, .slice ad n cap] w fun e w' => e = .returned (.bool true) ∧ Below w.heap.size w w' := by
  unfold maxLen at hn
  go_enter Try.func8, Try.ntmps8
  go_wp2_with fail
  refine (awake4 _).mono ?_
  rintro e w1 ⟨rfl, hb1⟩
  have hw1 : Below w.heap.size w w1 := ((Below.refl _ _).alloc (Nat.le_refl _) _).trans (hb1.mono (by simp))
  go_wp2
  go_ret
  exact ⟨rfl, hw1⟩
theorem rackStacks (c : Cfg) (x : Sl) (L : List Int) (w : World) (hv : Reads w .i64 x.v L) :
    Calls Try.prog 8 #[cv c, x.v] w fun e w' => e = .returned (.bool true) ∧ Below w.heap.size w w' := by
  obtain ⟨ad, n, cap⟩ := x
  have hn := reads_len hv
  have hm := reads_le hv
  simp only at hn hm
  subst hn
  by_cases h : L.length ≤ 40
  · exact rackStacks_few c ad cap L h w hv
  · exact rackStacks_many c ad L.length cap (by omega) (by omega) w
end Go.Proofs.Yteppofpmbmmcaaa.Wo

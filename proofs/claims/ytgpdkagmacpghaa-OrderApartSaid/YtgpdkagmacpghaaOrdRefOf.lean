/- The reference's Of for every input, and Same on equal answers (made by genord6.py). -/
import Derived.Test.YtgpdkagmacpghaaOrdRef
import Derived.Deep.Cut
import Derived.Deep.CutRange
namespace Go.Proofs.Ytgpdkagmacpghaa.Od
open Go Go.RowKit Go.Proofs.Ytgpdkagmacpghaa.Gro Go.Proofs.Ytgpdkagmacpghaa.Own Go.Proofs.Ytgpdkagmacpghaa.Wd Go.Proofs.Ytgpdkagmacpghaa.Ap Go.Proofs.Ytgpdkagmacpghaa.Pl Go.Proofs.Ytgpdkagmacpghaa.Wo Go.Proofs.Ytgpdkagmacpghaa.Shp Go.Proofs.Ytgpdkagmacpghaa.Mr Go.ChangeMaps
set_option linter.unusedVariables false
set_option linter.unusedSimpArgs false
def gO (es : List Shp.Ev) (xs : List (List Int)) (i : Nat) : Ao := (es.getD i ez, (es.getD i ez).rd, xs.getD i [])
def rO (es : List Shp.Ev) (xs : List (List Int)) (n : Nat) : List Ao := (ofF (es.map evo) (rdF es) n).map (gO es xs)
theorem rO_succ (es : List Shp.Ev) (xs : List (List Int)) (n : Nat) : rO es xs (n + 1) = rO es xs n ++ ((pick (es.map evo) (rdF es) n).toList.map (gO es xs)) := by
  unfold rO
  rw [ofF_succ, List.map_append]
theorem rO_fA (es : List Shp.Ev) (xs : List (List Int)) (n : Nat) : (rO es xs n).map fA = ofP es xs n := by
  unfold rO ofP
  rw [List.map_map]
  rfl
theorem pick_eq {es : List Shp.Ev} {k : Nat} (h : k < es.length) : pick (es.map evo) (rdF es) k = if es[k].kd = 3 ∧ fst (es.map evo) 3 (es[k].wo, es[k].n) 0 = some k then (match fst (es.map evo) 4 (es[k].wo, es[k].n) (k + 1) with | some r => some r | none => if isRd es[k] = true then none else some k) else none := by
  unfold pick
  rw [map_at h]
  have e : rdF es k = isRd es[k] := by
    unfold rdF
    rw [List.getD_eq_getElem?_getD, List.getElem?_eq_getElem h]
    rfl
  simp only [e]
  rfl
def RfPost (es : List Shp.Ev) (xs : List (List Int)) (w : World) (e : Ending) (w' : World) : Prop := ∃ (y : Sl) (O : List Ao), e = .returned y.v ∧ w'.ownsRow w.heap.size 57 10 y.v O.length (acs O) ∧ O = rO es xs es.length ∧ Below w.heap.size w w'
theorem refOf_nil (ad : Option Addr) (cap : Nat) (w : World) : Calls Try.prog 21 #[.slice ad 0 cap] w (RfPost [] [] w) := by
  go_enter Try.func21, Try.ntmps21
  go_wp2
  refine wp_loop_rounds 1 ?_
  rw [rounds_succ]
  go_wp2
  go_ret
  exact ⟨nilS, [], rfl, World.ownsRow_nil _ _ _ _, rfl, Below.refl _ _⟩
set_option maxRecDepth 10000 in
set_option maxHeartbeats 16000000 in
theorem refOf_pos (b off cap : Nat) (es : List Shp.Ev) (xs : List (List Int)) (w : World) (hm : es.length ≤ 100000) (hb : b < w.heap.size) (hr : ∀ i (h : i < es.length), w.rangeAt b (off + i * 20) (ec es[i]).toList) :
    Calls Try.prog 21 #[.slice (some ⟨b, off, none⟩) es.length cap] w (RfPost es xs w) := by
  have HFI := Lib.hid (fun (e : Shp.Ev) (kd : Int) (m : Nat) (hm' : m ≤ es.length) (w0 : World) (h : Below w.heap.size w w0) => first_pos b off cap es e kd m w0 hm' hm (Nat.lt_of_lt_of_le hb h.size) (fun i hi j v hv => (h.cell (p := ⟨b, _, none⟩) hb).trans (hr i hi j v hv)))
  have HR := Lib.hid hr
  have HBL := Lib.hid hb
  clear hr hb
  have a8 : ∀ s : Shp.Ev, ∀ x : Sl, (ac s x)[8]? = some (.int .i64 s.rt) := fun _ _ => rfl
  have a0 : ∀ s : Shp.Ev, ∀ x : Sl, (ac s x)[0]? = some (.int .i64 s.o0) := fun _ _ => rfl
  go_enter Try.func21, Try.ntmps21
  go_wp2
  go_loopw [3, 4, 60] (fun l i z wr => ∃ (k : Nat) (y : Sl) (O : List Ao), (z = undef ∨ z = .bool true ∨ z = .bool false) ∧ k ≤ es.length ∧ l = .slice y.ad y.len y.cap ∧ i = .int .i64 k ∧ wr.ownsRow w.heap.size 57 10 y.v O.length (acs O) ∧ O = rO es xs k ∧ Below w.heap.size w wr) (fun _ i _ _ => es.length - (intOf i).toNat)
  case atStart => exact ⟨0, nilS, [], .inl rfl, Nat.zero_le _, rfl, rfl, World.ownsRow_nil _ _ _ _, rfl, Below.refl _ _⟩
  case round =>
    obtain ⟨k, y, O, hz60, hk, rfl, rfl, hA, hO, hbw⟩ := hrel
    by_cases hlt : k < es.length
    · have hr' : wr.rangeAt b (off + k * 20) (ec es[k]).toList := fun j v hv => (hbw.cell (p := ⟨b, _, none⟩) HBL.out).trans (HR.out k hlt j v hv)
      have hnx := rO_succ es xs k
      rw [pick_eq hlt, ← hO] at hnx
      have hOl : O.length ≤ es.length := by
        have h1 := congrArg List.length hO
        have h2 := ofF_len (es.map evo) (rdF es) k
        unfold rO at h1
        rw [List.length_map] at h1
        omega
      have hsg : es.getD k ez = es[k] := by rw [List.getD_eq_getElem?_getD, List.getElem?_eq_getElem hlt]; rfl
      have hR1 := fun (w0 : World) (h : Below w.heap.size w w0) j v hv => (h.cell (p := ⟨b, off + k * 20 + j, none⟩) HBL.out).trans (HR.out k hlt j v hv)
      obtain ⟨s, hs⟩ : ∃ s, s = es[k] := ⟨_, rfl⟩
      rw [← hs] at hr' hnx hsg hR1
      have HRK : RowKit.Hid (∀ w0, Below w.heap.size w w0 → w0.rangeAt b (off + k * 20) (ec s).toList) := Lib.hid hR1
      have HSG := Lib.hid hsg
      have hk3 : wr.cell? ⟨b, off + k * 20 + 3, none⟩ = some (.int .i64 s.kd) := hr' 3 _ rfl
      have hbb : b < wr.heap.size := Nat.lt_of_lt_of_le HBL.out hbw.size
      have hsum : IntKind.i64.wrap ((k : Int) + 1) = (k : Int) + 1 := IntWalk.i64_in _ (by omega)
      clear hs hsg hO hR1
      have sz := hbw.size
      by_cases hkd : s.kd = 3
      · have tk : (s.kd != 3) = false := by simp [hkd]
        have hc := HFI.out s 3 0 (Nat.zero_le _) wr hbw
        by_cases hfk : fst (es.map evo) 3 (s.wo, s.n) 0 = some k
        · rw [hfk] at hc
          rw [if_pos ⟨hkd, hfk⟩] at hnx
          have tp : ((k : Int) != (k : Int)) = false := by simp
          have hc' : Calls Try.prog 56 #[.slice (some ⟨b, off, none⟩) es.length cap, .agg (ec s), .int .i64 3, .int .i64 0] wr fun en w' => en = .returned (.int .i64 (k : Int)) ∧ Below wr.heap.size wr w' := hc
          have HC := Lib.hid hc'
          clear hc hc' hkd hfk
          go_wp2_with (refine wpList_load_mid_w rfl 99 _ rfl b (off + k * 20) rfl (ec s).toList _ (by exact hr') Try.underlying99 rfl (by kernel_rfl) ?_)
          refine HC.out.mono ?_
          rintro e w2 ⟨rfl, hb2⟩
          have hA2 := owns_below hA hb2 (fun g hg => (World.ownsRow.lt hA g hg).2)
          have hbw2 := hbw.trans (hb2.mono hbw.size)
          have hc2 := HFI.out s 4 (k + 1) (by omega) w2 hbw2
          rw [show ((k + 1 : Nat) : Int) = (k : Int) + 1 by simp] at hc2
          clear hA hbw hb2 hr' hk3
          have hr' := HRK.out w2 hbw2
          cases hf4 : fst (es.map evo) 4 (s.wo, s.n) (k + 1) with
          | some r =>
            rw [hf4] at hnx hc2
            obtain ⟨hrl, hkr⟩ := fst_lt hf4
            rw [List.length_map] at hrl
            have hc3 : Calls Try.prog 56 #[.slice (some ⟨b, off, none⟩) es.length cap, .agg (ec s), .int .i64 4, .int .i64 ((k : Int) + 1)] w2 fun en w' => en = .returned (.int .i64 (r : Int)) ∧ Below w2.heap.size w2 w' := hc2
            have HC2 := Lib.hid hc3
            simp only [Option.toList_some, List.map_cons, List.map_nil] at hnx
            have e1 : es.getD r ez = es[r] := by rw [List.getD_eq_getElem?_getD, List.getElem?_eq_getElem hrl]; rfl
            have hnx' : rO es xs (k + 1) = O ++ [(es[r], es[r].rd, xs.getD r [])] := by rw [hnx]; unfold gO; rw [e1]
            have hR2 := fun (w0 : World) (h : Below w.heap.size w w0) j v hv => (h.cell (p := ⟨b, off + r * 20 + j, none⟩) HBL.out).trans (HR.out r hrl j v hv)
            obtain ⟨sr, hsr⟩ : ∃ s, s = es[r] := ⟨_, rfl⟩
            obtain ⟨xr, hxr⟩ : ∃ x, x = xs.getD r [] := ⟨_, rfl⟩
            rw [← hsr, ← hxr] at hnx'
            rw [← hsr] at hR2
            have HRR : RowKit.Hid (∀ w0, Below w.heap.size w w0 → w0.rangeAt b (off + r * 20) (ec sr).toList) := Lib.hid hR2
            have HN := Lib.hid hnx'
            have t0 : decide ((0 : Int) ≤ (r : Int)) = true := by simp
            clear hnx hnx' hc2 hc3 hf4 e1 hsr hxr hR2
            go_wp2_with (refine wpList_load_mid_w rfl 99 _ rfl b (off + k * 20) rfl (ec s).toList _ (by exact hr') Try.underlying99 rfl (by kernel_rfl) ?_)
            refine HC2.out.mono ?_
            rintro e w3 ⟨rfl, hb3⟩
            have hA3 := owns_below hA2 hb3 (fun g hg => (World.ownsRow.lt hA2 g hg).2)
            have hbw3 := hbw2.trans (hb3.mono hbw2.size)
            have hrm := ac_mid (HRR.out w3 hbw3)
            have sz3 := hbw3.size
            clear hA2 hbw2 hb3 hr'
            go_wp2_with (first | (refine wpList_load_mid rfl 57 _ rfl b (off + r * 20 + 4) rfl (ac sr sr.rd).toList _ (by exact hrm) Try.underlying57 rfl (by kernel_rfl) ?_) | (refine wpList_one rfl _ rfl sr sr.rd rfl ?_) | (at_builtin; refine append_rowT elemA rfl _ _ rfl w.heap.size y.v O.length (acs O) rfl (owns_below hA3 ((Below.refl _ _).alloc (Nat.le_refl _) _) (fun g hg => (World.ownsRow.lt hA3 g hg).2)) w3.heap.size 1 _ (ac sr sr.rd).toList rfl rfl (new_cells _ _ _) (ac_one _ _) (by decide) (by omega) (by simp; omega) ?_; intro y5 w5 R5 hb5 hk5))
            have hbw6 := (hbw3.trans (((Below.refl _ _).alloc (Nat.le_refl _) (.cells (ac sr sr.rd) 57) : Below w3.heap.size w3 _).mono hbw3.size)).trans hb5
            go_roundw
            case rel =>
              refine ⟨k + 1, y5, O ++ [(sr, sr.rd, xr)], (by first | exact hz60 | exact .inr (.inl rfl) | exact .inr (.inr rfl) | exact .inl rfl), by omega, rfl, by go_num, ?_, HN.out.symm, hbw6⟩
              rw [acs_push, List.length_append]
              exact R5
            case measure => simp [intOf]; omega
          | none =>
            rw [hf4] at hnx hc2
            have hc3 : Calls Try.prog 56 #[.slice (some ⟨b, off, none⟩) es.length cap, .agg (ec s), .int .i64 4, .int .i64 ((k : Int) + 1)] w2 fun en w' => en = .returned (.int .i64 (-1)) ∧ Below w2.heap.size w2 w' := hc2
            have HC2 := Lib.hid hc3
            obtain ⟨xr, hxr⟩ : ∃ x, x = xs.getD k [] := ⟨_, rfl⟩
            have hgo : gO es xs k = (s, s.rd, xr) := by unfold gO; rw [HSG.out, hxr]
            simp only at hnx
            have HGO := Lib.hid hgo
            clear hc2 hc3 hf4 hxr hgo
            go_wp2_with (refine wpList_load_mid_w rfl 99 _ rfl b (off + k * 20) rfl (ec s).toList _ (by exact hr') Try.underlying99 rfl (by kernel_rfl) ?_)
            refine HC2.out.mono ?_
            rintro e w3 ⟨rfl, hb3⟩
            have hA3' := owns_below hA2 hb3 (fun g hg => (World.ownsRow.lt hA2 g hg).2)
            have hbw3' := hbw2.trans (hb3.mono hbw2.size)
            have hrm := ac_mid (HRK.out w3 hbw3')
            have Z3 := Bk.new w3 (ac ez nilS) 57
            have X4 := Z3.setRow (ac s s.rd)
            have hb4 : Below w3.heap.size w3 ((w3.alloc (.cells (ac ez nilS) 57)).setRow w3.heap.size (ac s s.rd)) := below_setRow ((Below.refl _ _).alloc (Nat.le_refl _) _) (Nat.le_refl _) _
            have hA4 := owns_below hA3' hb4 (fun g hg => (World.ownsRow.lt hA3' g hg).2)
            have hbw4 := hbw3'.trans (hb4.mono hbw3'.size)
            have sz4 := hbw4.size
            obtain ⟨w4, hw4⟩ : ∃ u, u = (w3.alloc (.cells (ac ez nilS) 57)).setRow w3.heap.size (ac s s.rd) := ⟨_, rfl⟩
            rw [← hw4] at X4 hA4 hbw4 sz4
            have x4 := X4.cells
            have lx4 := X4.lt
            clear hA2 hbw2 hb3 hr' hA3' hbw3' hb4
            by_cases h0 : s.rt = 0
            · have t0 : (s.rt != 0) = false := by simp [h0]
              by_cases h6 : s.o0 = 6
              · have t6 : (s.o0 != 6) = false := by simp [h6]
                have hir : isRd s = true := by simp [isRd, h0, h6]
                clear h0 h6
                simp only [hir, if_true, Option.toList_none, List.map_nil, List.append_nil] at hnx
                have HN := Lib.hid hnx
                clear hnx hir
                go_upto_region 10 with (first | (refine wpList_load_mid rfl 57 _ rfl b (off + k * 20 + 4) rfl (ac s s.rd).toList _ (by exact hrm) Try.underlying57 rfl (by kernel_rfl) ?_) | (refine wpList_alloc_az rfl rfl ?_) | (refine wpList_store_row rfl 57 _ _ rfl (w3.heap.size) (ac s s.rd) rfl rfl _ _ (by exact Z3) (by kernel_rfl) (by kernel_rfl) (by kernel_rfl) ?_; rw [← hw4]; clear hw4 Z3))
                go_upto_if 66 with fail
                go_wp2
                go_roundw
                case rel => exact ⟨k + 1, y, O, (by first | exact hz60 | exact .inr (.inl rfl) | exact .inr (.inr rfl) | exact .inl rfl), by omega, rfl, by go_num, hA4, HN.out.symm, hbw4⟩
                case measure => simp [intOf]; omega
              · have t6 : (s.o0 != 6) = true := by simp [h6]
                by_cases h7 : s.o0 = 7
                · have t7 : (s.o0 != 7) = false := by simp [h7]
                  have hir : isRd s = true := by simp [isRd, h0, h7]
                  clear h0 h6 h7
                  simp only [hir, if_true, Option.toList_none, List.map_nil, List.append_nil] at hnx
                  have HN := Lib.hid hnx
                  clear hnx hir
                  go_upto_region 10 with (first | (refine wpList_load_mid rfl 57 _ rfl b (off + k * 20 + 4) rfl (ac s s.rd).toList _ (by exact hrm) Try.underlying57 rfl (by kernel_rfl) ?_) | (refine wpList_alloc_az rfl rfl ?_) | (refine wpList_store_row rfl 57 _ _ rfl (w3.heap.size) (ac s s.rd) rfl rfl _ _ (by exact Z3) (by kernel_rfl) (by kernel_rfl) (by kernel_rfl) ?_; rw [← hw4]; clear hw4 Z3))
                  go_upto_if 66 with fail
                  go_wp2
                  go_roundw
                  case rel => exact ⟨k + 1, y, O, (by first | exact hz60 | exact .inr (.inl rfl) | exact .inr (.inr rfl) | exact .inl rfl), by omega, rfl, by go_num, hA4, HN.out.symm, hbw4⟩
                  case measure => simp [intOf]; omega
                · have t7 : (s.o0 != 7) = true := by simp [h7]
                  have hir : isRd s = false := by simp [isRd, h6, h7]
                  clear h0 h6 h7
                  rw [hir] at hnx
                  simp only [Bool.false_eq_true, if_false, Option.toList_some, List.map_cons, List.map_nil, HGO.out] at hnx
                  have HN := Lib.hid hnx
                  clear hnx hir
                  go_upto_region 10 with (first | (refine wpList_load_mid rfl 57 _ rfl b (off + k * 20 + 4) rfl (ac s s.rd).toList _ (by exact hrm) Try.underlying57 rfl (by kernel_rfl) ?_) | (refine wpList_alloc_az rfl rfl ?_) | (refine wpList_store_row rfl 57 _ _ rfl (w3.heap.size) (ac s s.rd) rfl rfl _ _ (by exact Z3) (by kernel_rfl) (by kernel_rfl) (by kernel_rfl) ?_; rw [← hw4]; clear hw4 Z3))
                  go_upto_if 66 with fail
                  go_wp2_with (first | (refine wpList_load_row rfl 57 _ rfl (w3.heap.size) rfl _ (ac s s.rd) (0, 0) _ (by exact X4) Try.underlying57 rfl (by kernel_rfl) ?_) | (refine wpList_one rfl _ rfl s s.rd rfl ?_) | (at_builtin; refine append_rowT elemA rfl _ _ rfl w.heap.size y.v O.length (acs O) rfl (owns_below hA4 ((Below.refl _ _).alloc (Nat.le_refl _) _) (fun g hg => (World.ownsRow.lt hA4 g hg).2)) w4.heap.size 1 _ (ac s s.rd).toList rfl rfl (new_cells _ _ _) (ac_one _ _) (by decide) (by omega) (by simp; omega) ?_; intro y5 w5 R5 hb5 hk5))
                  have hbw6 := (hbw4.trans (((Below.refl _ _).alloc (Nat.le_refl _) (.cells (ac s s.rd) 57) : Below w4.heap.size w4 _).mono hbw4.size)).trans hb5
                  go_roundw
                  case rel =>
                    refine ⟨k + 1, y5, O ++ [(s, s.rd, xr)], (by first | exact hz60 | exact .inr (.inl rfl) | exact .inr (.inr rfl) | exact .inl rfl), by omega, rfl, by go_num, ?_, HN.out.symm, hbw6⟩
                    rw [acs_push, List.length_append]
                    exact R5
                  case measure => simp [intOf]; omega
            · have t0 : (s.rt != 0) = true := by simp [h0]
              have hir : isRd s = false := by simp [isRd, h0]
              clear h0
              rcases hz60 with rfl | rfl | rfl
              · rw [hir] at hnx
                simp only [Bool.false_eq_true, if_false, Option.toList_some, List.map_cons, List.map_nil, HGO.out] at hnx
                have HN := Lib.hid hnx
                clear hnx hir
                go_upto_region 10 with (first | (refine wpList_load_mid rfl 57 _ rfl b (off + k * 20 + 4) rfl (ac s s.rd).toList _ (by exact hrm) Try.underlying57 rfl (by kernel_rfl) ?_) | (refine wpList_alloc_az rfl rfl ?_) | (refine wpList_store_row rfl 57 _ _ rfl (w3.heap.size) (ac s s.rd) rfl rfl _ _ (by exact Z3) (by kernel_rfl) (by kernel_rfl) (by kernel_rfl) ?_; rw [← hw4]; clear hw4 Z3))
                go_upto_if 66 with fail
                go_wp2_with (first | (refine wpList_load_row rfl 57 _ rfl (w3.heap.size) rfl _ (ac s s.rd) (0, 0) _ (by exact X4) Try.underlying57 rfl (by kernel_rfl) ?_) | (refine wpList_one rfl _ rfl s s.rd rfl ?_) | (at_builtin; refine append_rowT elemA rfl _ _ rfl w.heap.size y.v O.length (acs O) rfl (owns_below hA4 ((Below.refl _ _).alloc (Nat.le_refl _) _) (fun g hg => (World.ownsRow.lt hA4 g hg).2)) w4.heap.size 1 _ (ac s s.rd).toList rfl rfl (new_cells _ _ _) (ac_one _ _) (by decide) (by omega) (by simp; omega) ?_; intro y5 w5 R5 hb5 hk5))
                have hbw6 := (hbw4.trans (((Below.refl _ _).alloc (Nat.le_refl _) (.cells (ac s s.rd) 57) : Below w4.heap.size w4 _).mono hbw4.size)).trans hb5
                go_roundw
                case rel =>
                  refine ⟨k + 1, y5, O ++ [(s, s.rd, xr)], (by first | exact hz60 | exact .inr (.inl rfl) | exact .inr (.inr rfl) | exact .inl rfl), by omega, rfl, by go_num, ?_, HN.out.symm, hbw6⟩
                  rw [acs_push, List.length_append]
                  exact R5
                case measure => simp [intOf]; omega
              · rw [hir] at hnx
                simp only [Bool.false_eq_true, if_false, Option.toList_some, List.map_cons, List.map_nil, HGO.out] at hnx
                have HN := Lib.hid hnx
                clear hnx hir
                go_upto_region 10 with (first | (refine wpList_load_mid rfl 57 _ rfl b (off + k * 20 + 4) rfl (ac s s.rd).toList _ (by exact hrm) Try.underlying57 rfl (by kernel_rfl) ?_) | (refine wpList_alloc_az rfl rfl ?_) | (refine wpList_store_row rfl 57 _ _ rfl (w3.heap.size) (ac s s.rd) rfl rfl _ _ (by exact Z3) (by kernel_rfl) (by kernel_rfl) (by kernel_rfl) ?_; rw [← hw4]; clear hw4 Z3))
                go_upto_if 66 with fail
                go_wp2_with (first | (refine wpList_load_row rfl 57 _ rfl (w3.heap.size) rfl _ (ac s s.rd) (0, 0) _ (by exact X4) Try.underlying57 rfl (by kernel_rfl) ?_) | (refine wpList_one rfl _ rfl s s.rd rfl ?_) | (at_builtin; refine append_rowT elemA rfl _ _ rfl w.heap.size y.v O.length (acs O) rfl (owns_below hA4 ((Below.refl _ _).alloc (Nat.le_refl _) _) (fun g hg => (World.ownsRow.lt hA4 g hg).2)) w4.heap.size 1 _ (ac s s.rd).toList rfl rfl (new_cells _ _ _) (ac_one _ _) (by decide) (by omega) (by simp; omega) ?_; intro y5 w5 R5 hb5 hk5))
                have hbw6 := (hbw4.trans (((Below.refl _ _).alloc (Nat.le_refl _) (.cells (ac s s.rd) 57) : Below w4.heap.size w4 _).mono hbw4.size)).trans hb5
                go_roundw
                case rel =>
                  refine ⟨k + 1, y5, O ++ [(s, s.rd, xr)], (by first | exact hz60 | exact .inr (.inl rfl) | exact .inr (.inr rfl) | exact .inl rfl), by omega, rfl, by go_num, ?_, HN.out.symm, hbw6⟩
                  rw [acs_push, List.length_append]
                  exact R5
                case measure => simp [intOf]; omega
              · rw [hir] at hnx
                simp only [Bool.false_eq_true, if_false, Option.toList_some, List.map_cons, List.map_nil, HGO.out] at hnx
                have HN := Lib.hid hnx
                clear hnx hir
                go_upto_region 10 with (first | (refine wpList_load_mid rfl 57 _ rfl b (off + k * 20 + 4) rfl (ac s s.rd).toList _ (by exact hrm) Try.underlying57 rfl (by kernel_rfl) ?_) | (refine wpList_alloc_az rfl rfl ?_) | (refine wpList_store_row rfl 57 _ _ rfl (w3.heap.size) (ac s s.rd) rfl rfl _ _ (by exact Z3) (by kernel_rfl) (by kernel_rfl) (by kernel_rfl) ?_; rw [← hw4]; clear hw4 Z3))
                go_upto_if 66 with fail
                go_wp2_with (first | (refine wpList_load_row rfl 57 _ rfl (w3.heap.size) rfl _ (ac s s.rd) (0, 0) _ (by exact X4) Try.underlying57 rfl (by kernel_rfl) ?_) | (refine wpList_one rfl _ rfl s s.rd rfl ?_) | (at_builtin; refine append_rowT elemA rfl _ _ rfl w.heap.size y.v O.length (acs O) rfl (owns_below hA4 ((Below.refl _ _).alloc (Nat.le_refl _) _) (fun g hg => (World.ownsRow.lt hA4 g hg).2)) w4.heap.size 1 _ (ac s s.rd).toList rfl rfl (new_cells _ _ _) (ac_one _ _) (by decide) (by omega) (by simp; omega) ?_; intro y5 w5 R5 hb5 hk5))
                have hbw6 := (hbw4.trans (((Below.refl _ _).alloc (Nat.le_refl _) (.cells (ac s s.rd) 57) : Below w4.heap.size w4 _).mono hbw4.size)).trans hb5
                go_roundw
                case rel =>
                  refine ⟨k + 1, y5, O ++ [(s, s.rd, xr)], (by first | exact hz60 | exact .inr (.inl rfl) | exact .inr (.inr rfl) | exact .inl rfl), by omega, rfl, by go_num, ?_, HN.out.symm, hbw6⟩
                  rw [acs_push, List.length_append]
                  exact R5
                case measure => simp [intOf]; omega
        · have hne : fst (es.map evo) 3 (s.wo, s.n) 0 ≠ some k := hfk
          obtain ⟨z, hz⟩ : ∃ z, z = fI (fst (es.map evo) 3 (s.wo, s.n) 0) := ⟨_, rfl⟩
          have hzk : (z != (k : Int)) = true := by
            rw [hz]
            cases hq : fst (es.map evo) 3 (s.wo, s.n) 0 with
            | none => simp [fI] <;> omega
            | some j =>
              have : j ≠ k := fun e => hne (by rw [hq, e])
              simp only [fI, bne_iff_ne, ne_eq]
              omega
          rw [← hz] at hc
          have hc' : Calls Try.prog 56 #[.slice (some ⟨b, off, none⟩) es.length cap, .agg (ec s), .int .i64 3, .int .i64 0] wr fun en w' => en = .returned (.int .i64 z) ∧ Below wr.heap.size wr w' := hc
          have HC := Lib.hid hc'
          rw [if_neg (fun h => hne h.2)] at hnx
          simp only [Option.toList_none, List.map_nil, List.append_nil] at hnx
          have HN := Lib.hid hnx
          clear hc hc' hz hne hfk hnx hkd
          go_wp2_with (refine wpList_load_mid_w rfl 99 _ rfl b (off + k * 20) rfl (ec s).toList _ (by exact hr') Try.underlying99 rfl (by kernel_rfl) ?_)
          refine HC.out.mono ?_
          rintro e w2 ⟨rfl, hb2⟩
          have hA2 := owns_below hA hb2 (fun g hg => (World.ownsRow.lt hA g hg).2)
          have hbw2 := hbw.trans (hb2.mono hbw.size)
          go_wp2
          go_roundw
          case rel => exact ⟨k + 1, y, O, (by first | exact hz60 | exact .inr (.inl rfl) | exact .inr (.inr rfl) | exact .inl rfl), by omega, rfl, by go_num, hA2, HN.out.symm, hbw2⟩
          case measure => simp [intOf]; omega
      · have tk : (s.kd != 3) = true := by simp [hkd]
        rw [if_neg (fun h => hkd h.1)] at hnx
        simp only [Option.toList_none, List.map_nil, List.append_nil] at hnx
        have HN := Lib.hid hnx
        clear hnx hkd
        go_wp2
        go_roundw
        case rel => exact ⟨k + 1, y, O, (by first | exact hz60 | exact .inr (.inl rfl) | exact .inr (.inr rfl) | exact .inl rfl), by omega, rfl, by go_num, hA, HN.out.symm, hbw⟩
        case measure => simp [intOf]; omega
    · obtain rfl : k = es.length := by omega
      go_wp2
      go_ret
      exact ⟨y, O, rfl, hA, hO, hbw⟩
end Go.Proofs.Ytgpdkagmacpghaa.Od

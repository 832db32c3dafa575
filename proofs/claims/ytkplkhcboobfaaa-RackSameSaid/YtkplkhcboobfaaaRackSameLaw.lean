/- The law RackSame, walked (made by genrs.py). -/
import Derived.Test.YtkplkhcboobfaaaEnvs
import Derived.Test.YtkplkhcboobfaaaRackSameW
import Derived.Test.YtkplkhcboobfaaaRefSameW
namespace Go.Proofs.Ytkplkhcboobfaaa.Wo
open Go Go.RowKit Go.Proofs.Ytkplkhcboobfaaa.Gro Go.Proofs.Ytkplkhcboobfaaa.Own Go.Proofs.Ytkplkhcboobfaaa.Wd Go.Proofs.Ytkplkhcboobfaaa.Ap Go.Proofs.Ytkplkhcboobfaaa.Pl
set_option linter.unusedVariables false
set_option linter.unusedSimpArgs false
set_option maxRecDepth 100000 in
set_option maxHeartbeats 4000000 in
theorem rackSameL_great (s t : Wk) (x y : St) (hx : ¬ Few 40 x) (w : World) (h : Lies w s x) (h2 : Lies w t y) :
    Calls Try.prog 4 #[wv s, wv t] w fun e w' => e = .returned (.bool true) ∧ Below w.heap.size w w' := by
  have E0 : Envs w [(w.heap.size, s, x), (w.heap.size + 1, t, y)] ((w.alloc (.cells (wc s) 63)).alloc (.cells (wc t) 63)) :=
    have hb : Below w.heap.size w ((w.alloc (.cells (wc s) 63)).alloc (.cells (wc t) 63)) := ((Below.refl _ _).alloc (Nat.le_refl _) _).alloc (by simp) _
    ⟨(fun e he => by
      rcases List.mem_cons.1 he with rfl | he
      · exact ⟨(Bk.new w (wc s) 63).alloc _, h.keep hb⟩
      · rcases List.mem_cons.1 he with rfl | he
        · have := Bk.new (w.alloc (.cells (wc s) 63)) (wc t) 63
          exact ⟨by simpa using this, h2.keep hb⟩
        · cases he), hb⟩
  go_enter Try.func4, Try.ntmps4
  go_wp2_with fail
  refine (awake4 _).mono ?_
  rintro e w1 ⟨rfl, hb1⟩
  have E1 := E0.keep hb1
  clear E0 hb1
  go_wp2_with (refine wpList_load_row rfl 63 _ rfl (w.heap.size) rfl _ (wc s) (0, 0) _ (by exact (E1.bk (g := w.heap.size) (s := s) (x := x) (by simp))) Try.underlying63 rfl (by kernel_rfl) ?_)
  refine (great_yes s x _ (E1.lies (g := w.heap.size) (s := s) (x := x) (by simp)) hx).mono ?_
  rintro e w2 ⟨rfl, hb2⟩
  go_wp2
  go_ret
  exact ⟨rfl, (E1.keep hb2).below⟩
set_option maxRecDepth 100000 in
set_option maxHeartbeats 4000000 in
theorem rackSameL_great2 (s t : Wk) (x y : St) (hx : Few 40 x) (hy : ¬ Few 40 y) (w : World) (h : Lies w s x) (h2 : Lies w t y) :
    Calls Try.prog 4 #[wv s, wv t] w fun e w' => e = .returned (.bool true) ∧ Below w.heap.size w w' := by
  have E0 : Envs w [(w.heap.size, s, x), (w.heap.size + 1, t, y)] ((w.alloc (.cells (wc s) 63)).alloc (.cells (wc t) 63)) :=
    have hb : Below w.heap.size w ((w.alloc (.cells (wc s) 63)).alloc (.cells (wc t) 63)) := ((Below.refl _ _).alloc (Nat.le_refl _) _).alloc (by simp) _
    ⟨(fun e he => by
      rcases List.mem_cons.1 he with rfl | he
      · exact ⟨(Bk.new w (wc s) 63).alloc _, h.keep hb⟩
      · rcases List.mem_cons.1 he with rfl | he
        · have := Bk.new (w.alloc (.cells (wc s) 63)) (wc t) 63
          exact ⟨by simpa using this, h2.keep hb⟩
        · cases he), hb⟩
  go_enter Try.func4, Try.ntmps4
  go_wp2_with fail
  refine (awake4 _).mono ?_
  rintro e w1 ⟨rfl, hb1⟩
  have E1 := E0.keep hb1
  clear E0 hb1
  go_wp2_with (refine wpList_load_row rfl 63 _ rfl (w.heap.size) rfl _ (wc s) (0, 0) _ (by exact (E1.bk (g := w.heap.size) (s := s) (x := x) (by simp))) Try.underlying63 rfl (by kernel_rfl) ?_)
  refine (great_no s x _ (E1.lies (g := w.heap.size) (s := s) (x := x) (by simp)) hx).mono ?_
  rintro e w2 ⟨rfl, hb2⟩
  have E2 := E1.keep hb2
  clear E1 hb2
  go_wp2_with (refine wpList_load_row_w rfl 63 _ rfl (w.heap.size + 1) rfl _ (wc t) (0, 0) _ (by exact (E2.bk (g := w.heap.size + 1) (s := t) (x := y) (by simp))) Try.underlying63 rfl (by kernel_rfl) ?_)
  refine (great_yes t y _ (E2.lies (g := w.heap.size + 1) (s := t) (x := y) (by simp)) hy).mono ?_
  rintro e w3 ⟨rfl, hb3⟩
  go_wp2
  go_ret
  exact ⟨rfl, (E2.keep hb3).below⟩
set_option maxRecDepth 100000 in
set_option maxHeartbeats 40000000 in
theorem rackSameL_few (s t : Wk) (x y : St) (hx : Few 40 x) (hy : Few 40 y) (w : World) (h : Lies w s x) (h2 : Lies w t y) :
    Calls Try.prog 4 #[wv s, wv t] w fun e w' => e = .returned (.bool true) ∧ Below w.heap.size w w' := by
  have hx9 := hx.mono (show 40 ≤ 900 by omega)
  have hx10 := hx.mono (show 40 ≤ 1000 by omega)
  have E0 : Envs w [(w.heap.size, s, x), (w.heap.size + 1, t, y)] ((w.alloc (.cells (wc s) 63)).alloc (.cells (wc t) 63)) :=
    have hb : Below w.heap.size w ((w.alloc (.cells (wc s) 63)).alloc (.cells (wc t) 63)) := ((Below.refl _ _).alloc (Nat.le_refl _) _).alloc (by simp) _
    ⟨(fun e he => by
      rcases List.mem_cons.1 he with rfl | he
      · exact ⟨(Bk.new w (wc s) 63).alloc _, h.keep hb⟩
      · rcases List.mem_cons.1 he with rfl | he
        · have := Bk.new (w.alloc (.cells (wc s) 63)) (wc t) 63
          exact ⟨by simpa using this, h2.keep hb⟩
        · cases he), hb⟩
  go_enter Try.func4, Try.ntmps4
  go_wp2_with fail
  refine (awake4 _).mono ?_
  rintro e w1 ⟨rfl, hb1⟩
  have E1 := E0.keep hb1
  clear E0 hb1
  go_wp2_with (refine wpList_load_row rfl 63 _ rfl (w.heap.size) rfl _ (wc s) (0, 0) _ (by exact (E1.bk (g := w.heap.size) (s := s) (x := x) (by simp))) Try.underlying63 rfl (by kernel_rfl) ?_)
  refine (great_no s x _ (E1.lies (g := w.heap.size) (s := s) (x := x) (by simp)) hx).mono ?_
  rintro e w2 ⟨rfl, hb2⟩
  have E2 := E1.keep hb2
  clear E1 hb2
  go_wp2_with (refine wpList_load_row_w rfl 63 _ rfl (w.heap.size + 1) rfl _ (wc t) (0, 0) _ (by exact (E2.bk (g := w.heap.size + 1) (s := t) (x := y) (by simp))) Try.underlying63 rfl (by kernel_rfl) ?_)
  refine (great_no t y _ (E2.lies (g := w.heap.size + 1) (s := t) (x := y) (by simp)) hy).mono ?_
  rintro e w3 ⟨rfl, hb3⟩
  have E3 := E2.keep hb3
  clear E2 hb3
  obtain ⟨b, hb⟩ : ∃ b, decide (x = y) = b := ⟨_, rfl⟩
  have HB := Lib.hid hb
  clear hb
  have XA := (E3.bk (g := w.heap.size) (s := s) (x := x) (by simp))
  have XB := (E3.bk (g := w.heap.size + 1) (s := t) (x := y) (by simp))
  have LA := (E3.lies (g := w.heap.size) (s := s) (x := x) (by simp))
  have LB := (E3.lies (g := w.heap.size + 1) (s := t) (x := y) (by simp))
  have hbb : (b != b) = false := by simp
  have RS : ∀ n : Gr w3, Calls Try.prog 31 #[wv s, wv t] n.1 fun e w'' => e = .returned (.bool b) ∧ ∃ m : Gr w3, w'' = m.1 := fun n => by
    have := rackSame (LA.keep n.2) (LB.keep n.2)
    rw [HB.out] at this
    exact grown_of this
  have FS : ∀ n : Gr w3, Calls Try.prog 32 #[wv s, wv t] n.1 fun e w'' => e = .returned (.bool b) ∧ ∃ m : Gr w3, w'' = m.1 := fun n => by
    have := refSameD (LA.keep n.2) (LB.keep n.2)
    rw [HB.out] at this
    exact grown_of this
  have RX : ∀ n : Gr w3, Calls Try.prog 31 #[wv s, wv s] n.1 fun e w'' => e = .returned (.bool true) ∧ ∃ m : Gr w3, w'' = m.1 := fun n => by
    have := rackSame (LA.keep n.2) (LA.keep n.2)
    rw [decide_eq_true rfl] at this
    exact grown_of this
  have HRS := Lib.hid RS
  have HFS := Lib.hid FS
  have HRX := Lib.hid RX
  clear RS FS RX
  go_wp2
  refine wp_region_grown (by kernel_rfl) (by kernel_rfl) ?_
  (refine wpQuiet_load_row rfl 63 _ rfl (w.heap.size) rfl (wc s) 63 _ (by rintro _ ⟨n, rfl⟩; exact Bk.keep XA n.2) Try.underlying63 rfl (by kernel_rfl) ?_; simp only [Act.put, List.setIfInBounds_toArray, List.set_cons_succ, List.set_cons_zero])
  (refine wpQuiet_load_row rfl 63 _ rfl (w.heap.size + 1) rfl (wc t) 63 _ (by rintro _ ⟨n, rfl⟩; exact Bk.keep XB n.2) Try.underlying63 rfl (by kernel_rfl) ?_; simp only [Act.put, List.setIfInBounds_toArray, List.set_cons_succ, List.set_cons_zero])
  go_big_quiet_step (exact HRS.out _)
  (refine wpQuiet_load_row rfl 63 _ rfl (w.heap.size) rfl (wc s) 63 _ (by rintro _ ⟨n, rfl⟩; exact Bk.keep XA n.2) Try.underlying63 rfl (by kernel_rfl) ?_; simp only [Act.put, List.setIfInBounds_toArray, List.set_cons_succ, List.set_cons_zero])
  (refine wpQuiet_load_row rfl 63 _ rfl (w.heap.size + 1) rfl (wc t) 63 _ (by rintro _ ⟨n, rfl⟩; exact Bk.keep XB n.2) Try.underlying63 rfl (by kernel_rfl) ?_; simp only [Act.put, List.setIfInBounds_toArray, List.set_cons_succ, List.set_cons_zero])
  go_big_quiet_step (exact HFS.out _)
  go_big_quiet_step (fail)
  go_big_quiet_step (fail)
  (refine wpQuiet_load_row_w rfl 63 _ rfl (w.heap.size) rfl (wc s) 63 _ (by rintro _ ⟨n, rfl⟩; exact Bk.keep XA n.2) Try.underlying63 rfl (by kernel_rfl) ?_; simp only [Act.put, List.setIfInBounds_toArray, List.set_cons_succ, List.set_cons_zero])
  (refine wpQuiet_load_row_w rfl 63 _ rfl (w.heap.size) rfl (wc s) 63 _ (by rintro _ ⟨n, rfl⟩; exact Bk.keep XA n.2) Try.underlying63 rfl (by kernel_rfl) ?_; simp only [Act.put, List.setIfInBounds_toArray, List.set_cons_succ, List.set_cons_zero])
  go_big_quiet_step (exact HRX.out _)
  repeat (go_big_quiet_step (fail))
  refine wpQuiet_nil ?_
  rintro w4 ⟨⟨_, hb4⟩, rfl⟩
  have E4 := E3.keep hb4
  clear E3 hb4 XA XB LA LB HB HRS HFS HRX hbb
  go_wp2_with (refine wpList_load_row rfl 63 _ rfl (w.heap.size) rfl _ (wc s) (0, 0) _ (by exact (E4.bk (g := w.heap.size) (s := s) (x := x) (by simp))) Try.underlying63 rfl (by kernel_rfl) ?_)
  refine (refCopy s x hx9 _ (E4.lies (g := w.heap.size) (s := s) (x := x) (by simp))).mono ?_
  rintro e w5 ⟨s5, rfl, L5, hb5⟩
  have E5 := E4.box hb5 L5.lies
  have Z5 := Bk.new w5 (wc wz) 63
  clear E4 hb5
  go_wp2_with (first | (refine wpList_alloc_wz rfl rfl ?_) | (refine wpList_store_row rfl 63 _ _ rfl (w5.heap.size) (wc s5) rfl rfl _ _ (by exact Z5) (by kernel_rfl) (by kernel_rfl) (by kernel_rfl) ?_) | (refine wpList_load_row rfl 63 _ rfl (w.heap.size) rfl _ (wc s) (0, 0) _ (by exact (E5.bk (g := w.heap.size) (s := s) (x := x) (by simp))) Try.underlying63 rfl (by kernel_rfl) ?_))
  have hz5 : w5.heap.size < ((w5.alloc (.cells (wc wz) 63)).setRow w5.heap.size (wc s5)).heap.size := by simp
  obtain ⟨wB, hwB⟩ : ∃ wB, wB = (w5.alloc (.cells (wc wz) 63)).setRow w5.heap.size (wc s5) := ⟨_, rfl⟩
  rw [← hwB] at E5 hz5 ⊢
  clear hwB
  refine (copyWork s x hx10 _ (E5.lies (g := w.heap.size) (s := s) (x := x) (by simp))).mono ?_
  rintro e w6 ⟨s6, rfl, L6, hb6⟩
  have E6 := E5.box hb6 L6.lies
  have Z6 := Bk.new w6 (wc wz) 63
  have I6 := Inc.start L6 hb6
  have HL := Lib.hid (⟨by rw [reads_len L6.lies.rk]; exact hx.rk, by rw [reads_len L6.lies.l0]; exact hx.l0, by rw [reads_len L6.lies.l1]; exact hx.l1, by rw [reads_len L6.lies.l2]; exact hx.l2, by rw [reads_len L6.lies.hl]; exact hx.hl, by rw [reads_len L6.lies.rd]; exact hx.rd⟩ : s6.rk.len ≤ 40 ∧ s6.l0.len ≤ 40 ∧ s6.l1.len ≤ 40 ∧ s6.l2.len ≤ 40 ∧ s6.hl.len ≤ 40 ∧ s6.rd.len ≤ 40)
  clear hb6 L6
  go_wp2_with (first | (refine wpList_alloc_wz rfl rfl ?_) | (refine wpList_store_row rfl 63 _ _ rfl (w6.heap.size) (wc s6) rfl rfl _ _ (by exact Z6) (by kernel_rfl) (by kernel_rfl) (by kernel_rfl) ?_) | (refine wpList_load_row rfl 63 _ rfl (w6.heap.size) rfl _ (wc s6) (0, 0) _ (by exact (E6.bk (g := w6.heap.size) (s := s6) (x := x) (by simp))) Try.underlying63 rfl (by kernel_rfl) ?_) | (refine wpList_load_row rfl 63 _ rfl (w5.heap.size) rfl _ (wc s5) (0, 0) _ (by exact (E6.bk (g := w5.heap.size) (s := s5) (x := x) (by simp))) Try.underlying63 rfl (by kernel_rfl) ?_))
  refine (refSame (E6.lies (g := w6.heap.size) (s := s6) (x := x) (by simp)) (E6.lies (g := w5.heap.size) (s := s5) (x := x) (by simp))).mono ?_
  rintro e w7 ⟨rfl, hb7⟩
  have I7 := I6.keep hb7
  clear E6 Z6 I6 hb7
  obtain ⟨gk, hgk⟩ : ∃ g, g = w6.heap.size := ⟨_, rfl⟩
  rw [← hgk] at I7 ⊢
  clear hgk
  go_wp2_with fail
  have hlen : s6.rk.len ≤ 40 := by have := HL.out; omega
  have I0 := Lib.hid I7
  clear I7
  go_loopw [7] (fun i wr => ∃ k : Nat, k ≤ s6.rk.len ∧ i = .int .i64 k ∧ Inc wB gk s6 wr) (fun i _ => s6.rk.len - (intOf i).toNat)
  case atStart => exact ⟨0, Nat.zero_le _, rfl, I0.out⟩
  case round =>
    obtain ⟨k, hk, rfl, I⟩ := hrel
    by_cases hlt : k < s6.rk.len
    · obtain ⟨g, off, cs, v, had, hg0, hG, hc, hz⟩ := I.rk.at hlt
      have q10 : wr.cell? ⟨gk, 10, none⟩ = some (.slice (some ⟨g, off, none⟩) s6.rk.len s6.rk.cap) := by rw [I.K.cells, ← had]; rfl
      have HI := Lib.hid (I.storeI hG hg0 (off + k))
      clear I hG had I0
      go_wp2
      go_roundw
      case rel => exact ⟨k + 1, by omega, by go_num, HI.out _⟩
      case measure => simp [intOf]; omega
    · obtain rfl : k = s6.rk.len := by omega
      have q10 : wr.cell? ⟨gk, 10, none⟩ = some (.slice s6.rk.ad s6.rk.len s6.rk.cap) := by rw [I.K.cells]; rfl
      have J0 := I
      clear I hlt hk hlen I0
      obtain ⟨wq, rfl⟩ : ∃ wq : World, wq = wr := ⟨_, rfl⟩
      go_wp2_with fail
      clear q10
      have hlen : s6.hl.len ≤ 40 := by have := HL.out; omega
      have I0 := Lib.hid J0
      clear J0
      go_loopw [8] (fun i wr => ∃ k : Nat, k ≤ s6.hl.len ∧ i = .int .i64 k ∧ Inc wB gk s6 wr) (fun i _ => s6.hl.len - (intOf i).toNat)
      case atStart => exact ⟨0, Nat.zero_le _, rfl, I0.out⟩
      case round =>
        obtain ⟨k, hk, rfl, I⟩ := hrel
        by_cases hlt : k < s6.hl.len
        · obtain ⟨g, off, cs, v, had, hg0, hG, hc, hz⟩ := I.hl.at hlt
          have q10 : wr.cell? ⟨gk, 17, none⟩ = some (.slice (some ⟨g, off, none⟩) s6.hl.len s6.hl.cap) := by rw [I.K.cells, ← had]; rfl
          have HI := Lib.hid (I.storeI hG hg0 (off + k))
          clear I hG had I0
          go_wp2
          go_roundw
          case rel => exact ⟨k + 1, by omega, by go_num, HI.out _⟩
          case measure => simp [intOf]; omega
        · obtain rfl : k = s6.hl.len := by omega
          have q10 : wr.cell? ⟨gk, 17, none⟩ = some (.slice s6.hl.ad s6.hl.len s6.hl.cap) := by rw [I.K.cells]; rfl
          have J1 := I
          clear I hlt hk hlen I0
          obtain ⟨wq, rfl⟩ : ∃ wq : World, wq = wr := ⟨_, rfl⟩
          go_wp2_with fail
          clear q10
          have hlen : s6.rd.len ≤ 40 := by have := HL.out; omega
          have I0 := Lib.hid J1
          clear J1
          go_loopw [9] (fun i wr => ∃ k : Nat, k ≤ s6.rd.len ∧ i = .int .i64 k ∧ Inc wB gk s6 wr) (fun i _ => s6.rd.len - (intOf i).toNat)
          case atStart => exact ⟨0, Nat.zero_le _, rfl, I0.out⟩
          case round =>
            obtain ⟨k, hk, rfl, I⟩ := hrel
            by_cases hlt : k < s6.rd.len
            · obtain ⟨g, off, cs, v, had, hg0, hG, hc, hz⟩ := I.rd.at hlt
              have q10 : wr.cell? ⟨gk, 29, none⟩ = some (.slice (some ⟨g, off, none⟩) s6.rd.len s6.rd.cap) := by rw [I.K.cells, ← had]; rfl
              have HI := Lib.hid (I.storeU hG hg0 (off + k))
              clear I hG had I0
              go_wp2
              go_roundw
              case rel => exact ⟨k + 1, by omega, by go_num, HI.out _⟩
              case measure => simp [intOf]; omega
            · obtain rfl : k = s6.rd.len := by omega
              have q10 : wr.cell? ⟨gk, 29, none⟩ = some (.slice s6.rd.ad s6.rd.len s6.rd.cap) := by rw [I.K.cells]; rfl
              have J2 := I
              clear I hlt hk hlen I0
              obtain ⟨wq, rfl⟩ : ∃ wq : World, wq = wr := ⟨_, rfl⟩
              go_wp2_with fail
              clear q10
              refine wp_loop_rounds 4 ?_
              rw [rounds_succ]
              go_wp2_with fail
              have hlen : s6.l0.len ≤ 40 := by have := HL.out; omega
              have I0 := Lib.hid J2
              clear J2
              go_loopw [11] (fun i wr => ∃ k : Nat, k ≤ s6.l0.len ∧ i = .int .i64 k ∧ Inc wB gk s6 wr) (fun i _ => s6.l0.len - (intOf i).toNat)
              case atStart => exact ⟨0, Nat.zero_le _, rfl, I0.out⟩
              case round =>
                obtain ⟨k, hk, rfl, I⟩ := hrel
                by_cases hlt : k < s6.l0.len
                · obtain ⟨g, off, cs, v, had, hg0, hG, hc, hz⟩ := I.l0.at hlt
                  have q10 : wr.cell? ⟨gk, 12, none⟩ = some (.slice (some ⟨g, off, none⟩) s6.l0.len s6.l0.cap) := by rw [I.K.cells, ← had]; rfl
                  have HI := Lib.hid (I.storeI hG hg0 (off + k))
                  clear I hG had I0
                  go_wp2
                  go_roundw
                  case rel => exact ⟨k + 1, by omega, by go_num, HI.out _⟩
                  case measure => simp [intOf]; omega
                · obtain rfl : k = s6.l0.len := by omega
                  have q10 : wr.cell? ⟨gk, 12, none⟩ = some (.slice s6.l0.ad s6.l0.len s6.l0.cap) := by rw [I.K.cells]; rfl
                  have K0 := I
                  clear I hlt hk hlen I0
                  obtain ⟨wq, rfl⟩ : ∃ wq : World, wq = wr := ⟨_, rfl⟩
                  go_wp2_with fail
                  clear q10
                  rw [rounds_succ]
                  go_wp2_with fail
                  have hlen : s6.l1.len ≤ 40 := by have := HL.out; omega
                  have I0 := Lib.hid K0
                  clear K0
                  go_loopw [11] (fun i wr => ∃ k : Nat, k ≤ s6.l1.len ∧ i = .int .i64 k ∧ Inc wB gk s6 wr) (fun i _ => s6.l1.len - (intOf i).toNat)
                  case atStart => exact ⟨0, Nat.zero_le _, rfl, I0.out⟩
                  case round =>
                    obtain ⟨k, hk, rfl, I⟩ := hrel
                    by_cases hlt : k < s6.l1.len
                    · obtain ⟨g, off, cs, v, had, hg0, hG, hc, hz⟩ := I.l1.at hlt
                      have q10 : wr.cell? ⟨gk, 14, none⟩ = some (.slice (some ⟨g, off, none⟩) s6.l1.len s6.l1.cap) := by rw [I.K.cells, ← had]; rfl
                      have HI := Lib.hid (I.storeI hG hg0 (off + k))
                      clear I hG had I0
                      go_wp2
                      go_roundw
                      case rel => exact ⟨k + 1, by omega, by go_num, HI.out _⟩
                      case measure => simp [intOf]; omega
                    · obtain rfl : k = s6.l1.len := by omega
                      have q10 : wr.cell? ⟨gk, 14, none⟩ = some (.slice s6.l1.ad s6.l1.len s6.l1.cap) := by rw [I.K.cells]; rfl
                      have K1 := I
                      clear I hlt hk hlen I0
                      obtain ⟨wq, rfl⟩ : ∃ wq : World, wq = wr := ⟨_, rfl⟩
                      go_wp2_with fail
                      clear q10
                      rw [rounds_succ]
                      go_wp2_with fail
                      have hlen : s6.l2.len ≤ 40 := by have := HL.out; omega
                      have I0 := Lib.hid K1
                      clear K1
                      go_loopw [11] (fun i wr => ∃ k : Nat, k ≤ s6.l2.len ∧ i = .int .i64 k ∧ Inc wB gk s6 wr) (fun i _ => s6.l2.len - (intOf i).toNat)
                      case atStart => exact ⟨0, Nat.zero_le _, rfl, I0.out⟩
                      case round =>
                        obtain ⟨k, hk, rfl, I⟩ := hrel
                        by_cases hlt : k < s6.l2.len
                        · obtain ⟨g, off, cs, v, had, hg0, hG, hc, hz⟩ := I.l2.at hlt
                          have q10 : wr.cell? ⟨gk, 16, none⟩ = some (.slice (some ⟨g, off, none⟩) s6.l2.len s6.l2.cap) := by rw [I.K.cells, ← had]; rfl
                          have HI := Lib.hid (I.storeI hG hg0 (off + k))
                          clear I hG had I0
                          go_wp2
                          go_roundw
                          case rel => exact ⟨k + 1, by omega, by go_num, HI.out _⟩
                          case measure => simp [intOf]; omega
                        · obtain rfl : k = s6.l2.len := by omega
                          have q10 : wr.cell? ⟨gk, 16, none⟩ = some (.slice s6.l2.ad s6.l2.len s6.l2.cap) := by rw [I.K.cells]; rfl
                          have K2 := I
                          clear I hlt hk hlen I0
                          obtain ⟨wq, rfl⟩ : ∃ wq : World, wq = wr := ⟨_, rfl⟩
                          go_wp2_with fail
                          clear q10
                          rw [rounds_succ]
                          have E7 := E5.keep K2.below
                          go_wp2_with (first | (refine wpList_load_row rfl 63 _ rfl (w.heap.size) rfl _ (wc s) (0, 0) _ (by exact (E7.bk (g := w.heap.size) (s := s) (x := x) (by simp))) Try.underlying63 rfl (by kernel_rfl) ?_) | (refine wpList_load_row rfl 63 _ rfl (w5.heap.size) rfl _ (wc s5) (0, 0) _ (by exact (E7.bk (g := w5.heap.size) (s := s5) (x := x) (by simp))) Try.underlying63 rfl (by kernel_rfl) ?_))
                          refine (refSame (E7.lies (g := w.heap.size) (s := s) (x := x) (by simp)) (E7.lies (g := w5.heap.size) (s := s5) (x := x) (by simp))).mono ?_
                          rintro e w9 ⟨rfl, hb9⟩
                          go_wp2
                          go_ret
                          exact ⟨rfl, (E7.keep hb9).below⟩
theorem rackSameL (s t : Wk) (x y : St) (w : World) (h : Lies w s x) (h2 : Lies w t y) :
    Calls Try.prog 4 #[wv s, wv t] w fun e w' => e = .returned (.bool true) ∧ Below w.heap.size w w' := by
  by_cases hx : Few 40 x
  · by_cases hy : Few 40 y
    · exact rackSameL_few s t x y hx hy w h h2
    · exact rackSameL_great2 s t x y hx hy w h h2
  · exact rackSameL_great s t x y hx w h h2
end Go.Proofs.Ytkplkhcboobfaaa.Wo

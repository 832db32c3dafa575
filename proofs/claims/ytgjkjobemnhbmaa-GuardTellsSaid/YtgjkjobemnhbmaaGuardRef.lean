/- The block that an event writes, by the reference; the reference's Sees; guard.Clean. -/
import Derived.Test.YtgjkjobemnhbmaaGuardOwner
import Derived.Test.YtgjkjobemnhbmaaRefPlan
import Derived.Test.YtgjkjobemnhbmaaGuardSeen
import Derived.IntWalk
namespace Go.Proofs.Ytgjkjobemnhbmaa.Wo
open Go Go.RowKit Go.Proofs.Ytgjkjobemnhbmaa.Gro Go.Proofs.Ytgjkjobemnhbmaa.Own Go.Proofs.Ytgjkjobemnhbmaa.Wd Go.Proofs.Ytgjkjobemnhbmaa.Ap Go.Proofs.Ytgjkjobemnhbmaa.Pl Go.Proofs.Ytgjkjobemnhbmaa.Shp
set_option linter.unusedVariables false
set_option linter.unusedSimpArgs false
theorem spots_mem6 {c : Cfg} (h : Ok c) {b i : Nat} (hb : (b : Int) < tot c) (hi : (i : Int) < c.wd) : ((6 : Int), (b : Int), (i : Int)) ∈ spots c := by
  rw [spots_eq]
  refine List.mem_append_right _ ?_
  unfold M4
  have ht := tot_nat h
  refine List.mem_flatMap.2 ⟨b, List.mem_range.2 (by omega), List.mem_cons_of_mem _ ?_⟩
  unfold wrd
  exact List.mem_map.2 ⟨i, List.mem_range.2 (by omega), rfl⟩
theorem spots6 {c : Cfg} (h : Ok c) {a i : Int} (hm : ((6 : Int), a, i) ∈ spots c) : ∃ b j : Nat, a = b ∧ i = j ∧ (b : Int) < tot c ∧ (j : Int) < c.wd := by
  rw [spots_eq] at hm
  have ht := tot_nat h
  have hd := h.wd
  rcases List.mem_append.1 hm with hm | hm
  · exact absurd hm (not_low3 (show (4 : Int) < 6 by decide))
  · unfold M4 at hm
    obtain ⟨b, hb, hm⟩ := List.mem_flatMap.1 hm
    have hb' := List.mem_range.1 hb
    rcases List.mem_cons.1 hm with e | hm
    · simp at e
    · unfold wrd at hm
      obtain ⟨j, hj, e⟩ := List.mem_map.1 hm
      have hj' := List.mem_range.1 hj
      simp only [Prod.mk.injEq, true_and] at e
      exact ⟨b, j, e.1.symm, e.2.symm, by omega, by omega⟩
/-- The kind-6 spots before k don't have the address. -/
def NoSpot (c : Cfg) (at_ : Int) (k : Nat) : Prop := ∀ j (h : j < (spots c).length), j < k → (spots c)[j].1 = 6 → refAt c (spots c)[j] ≠ at_
theorem writ_of_none {c : Cfg} (h : Ok c) {at_ : Int} (hn : NoSpot c at_ (spots c).length) : Writ c at_ (-1) := by
  refine .inl ⟨rfl, fun b i hb hi e => ?_⟩
  obtain ⟨j, hj, he⟩ := List.getElem_of_mem (spots_mem6 h hb hi)
  exact hn j hj hj (by rw [he]) (by rw [he, at6 h]; exact e)
theorem writ_of_spot {c : Cfg} (h : Ok c) {at_ a i : Int} (hm : ((6 : Int), a, i) ∈ spots c) (he : refAt c (6, a, i) = at_) : Writ c at_ a := by
  obtain ⟨b, j, rfl, rfl, hb, hj⟩ := spots6 h hm
  exact .inr ⟨b, j, rfl, hb, hj, by rw [← at6 h]; exact he⟩
set_option maxRecDepth 10000 in
set_option maxHeartbeats 8000000 in
theorem refWritten_ok (c : Cfg) (hf : c.Wf) (hk : Ok c) (v : Ev) (hkd : v.kd = 2) (hak : v.ak = 2) (w : World) : Calls Try.prog 62 #[cv c, .agg (ec v)] w fun e w' => ∃ r, e = .returned (.int .i64 r) ∧ EvW c v r ∧ Below w.heap.size w w' := by
  have C0 := (Bk.new w (ccG c) 24).alloc (.cells (ec v) 94)
  have E0 := Bk.new (w.alloc (.cells (ccG c) 24)) (ec v) 94
  have e3 : (ec v)[3]? = some (.int .i64 v.kd) := rfl
  have e15 : (ec v)[15]? = some (.int .i64 v.ak) := rfl
  have e16 : (ec v)[16]? = some (.int .i64 v.at_) := rfl
  have hw0 : Below w.heap.size w ((w.alloc (.cells (ccG c) 24)).alloc (.cells (ec v) 94)) := ((Below.refl _ _).alloc (Nat.le_refl _) _).alloc (by simp) _
  rw [show (w.alloc (.cells (ccG c) 24)).heap.size = w.heap.size + 1 by simp] at E0
  have tk : (v.kd != 2) = false := by simp [hkd]
  have ta : (v.ak != 2) = false := by simp [hak]
  have HC := Lib.hid (fun w => (chk_ok.2 hk) ▸ refCheck c hf w)
  have HA := Lib.hid (refAll c hk)
  have HW := Lib.hid (refAt_walk c hf)
  have HOK := Lib.hid hk
  have HKA := Lib.hid (And.intro hkd hak)
  have hsl : (spots c).length ≤ 1000 := by
    have h1 := spots_len hk
    have q1 := hk.ww
    have q2 := hk.sl
    have q3 := hk.en
    have q4 := hk.bl
    have q5 := hk.wd
    have := mul_range (a := c.sl) (b := c.bl) (A := 8) (B := 16) (by omega) (by omega) (by omega) (by omega)
    have := mul_range (a := c.sl * c.bl) (b := 1 + c.wd) (A := 128) (B := 5) (by omega) (by omega) (by omega) (by omega)
    rw [siz, if_pos (okB_of_ok hk)] at h1
    omega
  have hs0 : 0 < (spots c).length := by
    rw [spots_eq, S0]
    simp
  clear hk hkd hak
  go_enter Try.func62, Try.ntmps62
  go_wp2_with (refine wpList_load_row_w rfl 24 _ rfl w.heap.size rfl _ (ccG c) (0, 0) _ (by exact C0) Try.underlying24 rfl (by kernel_rfl) ?_)
  refine (HC.out _).mono ?_
  rintro e w1 ⟨rfl, hb1⟩
  have C1 := C0.keep hb1
  have E1 := E0.keep hb1
  have hw1 := hw0.trans (hb1.mono hw0.size)
  clear C0 E0 hw0 hb1
  go_wp2_with (refine wpList_load_row rfl 24 _ rfl w.heap.size rfl _ (ccG c) (0, 0) _ (by exact C1) Try.underlying24 rfl (by kernel_rfl) ?_)
  refine (HA.out _).mono ?_
  rintro e w2 ⟨z, rfl, hz, hb2⟩
  have C2 := C1.keep hb2
  have E2 := E1.keep hb2
  have hw2 := hw1.trans (hb2.mono hw1.size)
  obtain ⟨g, cap, rfl, _, hg, hcap, hcm, hcl⟩ := owns_cells hz hs0
  have hsp : ∀ k (h : k < (spots c).length) {w' : World}, Below w2.heap.size w2 w' → w'.cell? ⟨g, k * 3, none⟩ = some (.int .i64 (spots c)[k].1) ∧ w'.cell? ⟨g, k * 3 + 1, none⟩ = some (.int .i64 (spots c)[k].2.1) ∧ w'.cell? ⟨g, k * 3 + 2, none⟩ = some (.int .i64 (spots c)[k].2.2) := fun k h w' hb => by
    obtain ⟨h0, h1, h2⟩ := sc_get (spots c) k h
    have hl := sc_length (spots c)
    exact ⟨(hb.cell (p := ⟨g, _, none⟩) hg).trans ((hcl _ (by omega)).trans h0), (hb.cell (p := ⟨g, _, none⟩) hg).trans ((hcl _ (by omega)).trans h1), (hb.cell (p := ⟨g, _, none⟩) hg).trans ((hcl _ (by omega)).trans h2)⟩
  have HSP := Lib.hid hsp
  clear hz hb2 C1 E1 hw1 hcl hsp
  go_wp2
  go_loopw [6] (fun i wr => ∃ k : Nat, k ≤ (spots c).length ∧ i = .int .i64 k ∧ NoSpot c v.at_ k ∧ Below w2.heap.size w2 wr) (fun i _ => (spots c).length - (intOf i).toNat)
  case atStart => exact ⟨0, Nat.zero_le _, rfl, fun j h h0 => by omega, Below.refl _ _⟩
  case round =>
    obtain ⟨k, hk, rfl, hno, hbr⟩ := hrel
    have HN := Lib.hid hno
    clear hno
    have C3 := C2.keep hbr
    have E3 := E2.keep hbr
    have lc := C3.lt
    have le := E3.lt
    have lg : g < wr.heap.size := Nat.lt_of_lt_of_le hg hbr.size
    by_cases hlt : k < (spots c).length
    · obtain ⟨q0, q1, q2⟩ := HSP.out k hlt hbr
      obtain ⟨s, hs⟩ : ∃ s, s = (spots c)[k] := ⟨_, rfl⟩
      rw [← hs] at q0 q1 q2
      have hsm : s ∈ spots c := by rw [hs]; exact List.getElem_mem hlt
      have HS := Lib.hid hs
      have HSM := Lib.hid hsm
      clear hs hsm
      obtain ⟨s0, sa, sb⟩ := s
      simp only at q0 q1 q2
      have x3 := E3.cells
      by_cases h6 : s0 = 6
      · have t6 : (s0 == 6) = true := by simp [h6]
        obtain ⟨z, hz⟩ : ∃ z, refAt c (s0, sa, sb) = z := ⟨_, rfl⟩
        have HAT : RowKit.Hid (∀ w, Calls Try.prog 83 #[cv c, .agg #[.int .i64 s0, .int .i64 sa, .int .i64 sb]] w fun e w' => e = .returned (.int .i64 z) ∧ Below w.heap.size w w') := Lib.hid (fun w => hz ▸ HW.out (s0, sa, sb) w)
        by_cases he : z = v.at_
        · have tz : (z == v.at_) = true := by simp [he]
          have HE := Lib.hid (And.intro (And.intro h6 he) hz)
          clear h6 he hz
          go_wp2
          refine wp_region_grown (by kernel_rfl) (by kernel_rfl) ?_
          have hg' := @gcell
          repeat (first | (refine wpQuiet_load_row_w rfl 24 _ rfl w.heap.size rfl (ccG c) 24 _ (by rintro _ ⟨n, rfl⟩; exact Bk.keep C3 n.2) Try.underlying24 rfl (by kernel_rfl) ?_; simp only [Act.put, List.setIfInBounds_toArray, List.set_cons_succ, List.set_cons_zero]) | go_big_quiet_step (exact grown_of (HAT.out _)))
          refine wpQuiet_nil ?_
          rintro w4 ⟨⟨_, hb4⟩, rfl⟩
          clear hg'
          have hbr4 := hbr.trans (hb4.mono hbr.size)
          obtain ⟨p0, p1, p2⟩ := HSP.out k hlt hbr4
          rw [← HS.out] at p0 p1 p2
          simp only at p0 p1 p2
          go_wp2
          go_ret
          have hmem := HSM.out
          rw [HE.out.1.1] at hmem
          have hre := HE.out.2
          rw [HE.out.1.1] at hre
          exact ⟨sa, rfl, .inl ⟨HKA.out.1, HKA.out.2, writ_of_spot HOK.out hmem (hre.trans HE.out.1.2)⟩, hw2.trans (hbr4.mono hw2.size)⟩
        · have tz : (z == v.at_) = false := by simp [he]
          have HE := Lib.hid (And.intro he hz)
          clear h6 he hz
          go_wp2
          refine wp_region_grown (by kernel_rfl) (by kernel_rfl) ?_
          have hg' := @gcell
          repeat (first | (refine wpQuiet_load_row_w rfl 24 _ rfl w.heap.size rfl (ccG c) 24 _ (by rintro _ ⟨n, rfl⟩; exact Bk.keep C3 n.2) Try.underlying24 rfl (by kernel_rfl) ?_; simp only [Act.put, List.setIfInBounds_toArray, List.set_cons_succ, List.set_cons_zero]) | go_big_quiet_step (exact grown_of (HAT.out _)))
          refine wpQuiet_nil ?_
          rintro w4 ⟨⟨_, hb4⟩, rfl⟩
          clear hg'
          have hbr4 := hbr.trans (hb4.mono hbr.size)
          clear hbr hb4
          go_wp2
          go_roundw
          case rel =>
            refine ⟨k + 1, by omega, by go_num, fun j hj h hs => ?_, hbr4⟩
            rcases Nat.lt_succ_iff_lt_or_eq.1 h with h | rfl
            · exact HN.out j hj h hs
            · rw [← HS.out]
              exact fun e => HE.out.1 (HE.out.2.symm.trans e)
          case measure => simp [intOf]; omega
      · have t6 : (s0 == 6) = false := by simp [h6]
        have HE := Lib.hid h6
        clear h6
        go_wp2
        refine wp_region_grown (by kernel_rfl) (by kernel_rfl) ?_
        have hg' := @gcell
        repeat (go_big_quiet_step (fail))
        refine wpQuiet_nil ?_
        rintro w4 ⟨⟨_, hb4⟩, rfl⟩
        clear hg'
        have hbr4 := hbr.trans (hb4.mono hbr.size)
        clear hbr hb4
        go_wp2
        go_roundw
        case rel =>
          refine ⟨k + 1, by omega, by go_num, fun j hj h hs => ?_, hbr4⟩
          rcases Nat.lt_succ_iff_lt_or_eq.1 h with h | rfl
          · exact HN.out j hj h hs
          · rw [← HS.out] at hs
            exact absurd hs HE.out
        case measure => simp [intOf]; omega
    · obtain rfl : k = (spots c).length := by omega
      go_wp2
      go_ret
      exact ⟨-1, rfl, .inl ⟨HKA.out.1, HKA.out.2, writ_of_none HOK.out HN.out⟩, hw2.trans (hbr.mono hw2.size)⟩
end Go.Proofs.Ytgjkjobemnhbmaa.Wo

/- slices.Index and slices.Contains of ints; bag.Waits. -/
import Derived.Test.YtkplkhcboobfaaaBagCount
import Derived.Test.YtkplkhcboobfaaaWords
namespace Go.Proofs.Ytkplkhcboobfaaa.Wo
open Go Go.RowKit Go.Proofs.Ytkplkhcboobfaaa.Gro Go.Proofs.Ytkplkhcboobfaaa.Own Go.Proofs.Ytkplkhcboobfaaa.Wd Go.Proofs.Ytkplkhcboobfaaa.Ap Go.Proofs.Ytkplkhcboobfaaa.Pl
set_option linter.unusedVariables false
set_option linter.unusedSimpArgs false
def IdxPost (l : List Int) (b : Int) (w : World) (e : Ending) (w' : World) : Prop := ∃ r : Int, e = .returned (.int .i64 r) ∧ (0 ≤ r ↔ b ∈ l) ∧ w = w'
theorem index_zero (ad : Option Addr) (cap : Nat) (b : Int) (w : World) : Calls Try.prog 87 #[.slice ad 0 cap, .int .i64 b] w (IdxPost [] b w) := by
  go_enter Try.func87, Try.ntmps87
  go_wp2
  refine wp_loop_rounds 1 ?_
  rw [rounds_succ]
  go_wp2
  go_ret
  exact ⟨-1, rfl, by simp, rfl⟩
set_option maxHeartbeats 1000000 in
theorem index_pos (bb off cap : Nat) (l : List Int) (b : Int) (w : World) (hm : l.length ≤ 1000) (hc : ∀ i (h : i < l.length), w.cell? ⟨bb, off + i, none⟩ = some (.int .i64 l[i])) :
    Calls Try.prog 87 #[.slice (some ⟨bb, off, none⟩) l.length cap, .int .i64 b] w (IdxPost l b w) := by
  have HC := Lib.hid hc
  clear hc
  go_enter Try.func87, Try.ntmps87
  go_wp2
  go_loop [5, 8] (fun v i => ∃ k : Nat, k ≤ l.length ∧ i = .int .i64 k ∧ ∀ j (h : j < k) (h1 : j < l.length), ¬ b = l[j]) (fun _ i => l.length - (intOf i).toNat)
  case atStart => exact ⟨0, Nat.zero_le _, rfl, fun j h => by omega⟩
  case round =>
    obtain ⟨k, hk, rfl, hall⟩ := hrel
    have HA := Lib.hid hall
    clear hall
    by_cases hlt : k < l.length
    · have q1 := HC.out k hlt
      by_cases he : b = l[k]
      · have hb : (b == l[k]) = true := by simp [he]
        have HE := Lib.hid he
        clear he
        go_wp2
        go_ret
        exact ⟨k, rfl, ⟨fun _ => by have := HE.out; rw [this]; exact List.getElem_mem hlt, fun _ => by omega⟩, rfl⟩
      · have hb : (b == l[k]) = false := by simp [he]
        have HE := Lib.hid he
        clear he
        go_wp2
        go_round
        case rel => exact ⟨k + 1, by omega, by go_num, fun j h h1 => by rcases Nat.lt_succ_iff_lt_or_eq.1 h with h | rfl; exact HA.out j h h1; exact HE.out⟩
        case measure => simp [intOf]; omega
    · obtain rfl : l.length = k := by omega
      go_wp2
      go_ret
      exact ⟨-1, rfl, ⟨fun h => by omega, fun h => by
        obtain ⟨j, hj, e⟩ := List.getElem_of_mem h
        exact absurd e.symm (HA.out j hj hj)⟩, rfl⟩
theorem indexI {w : World} {v : Value} {l : List Int} (h : Reads w .i64 v l) (hm : l.length ≤ 1000) (b : Int) : Calls Try.prog 87 #[v, .int .i64 b] w (IdxPost l b w) := by
  obtain ⟨ad, cap, rfl, _, _, h3⟩ := h
  rcases h3 with rfl | ⟨bb, off, rfl, _, hc⟩
  · exact index_zero ad cap b w
  · exact index_pos bb off cap l b w hm hc
theorem containsI {w : World} {v : Sl} {l : List Int} (h : Reads w .i64 v.v l) (hm : l.length ≤ 1000) (b : Int) {q : Bool} (hq : decide (b ∈ l) = q) : Calls Try.prog 71 #[v.v, .int .i64 b] w fun e w' => e = .returned (.bool q) ∧ w = w' := by
  have HI := Lib.hid (indexI h hm b)
  go_enter Try.func71, Try.ntmps71
  go_wp2_with fail
  refine HI.out.mono ?_
  rintro e w1 ⟨r, rfl, hr, rfl⟩
  have hd : decide (0 ≤ r) = q := by rw [← hq]; exact decide_eq_decide.2 hr
  clear hr hq
  go_wp2
  go_ret
  exact ⟨rfl, rfl⟩
set_option maxRecDepth 10000 in
set_option maxHeartbeats 1000000 in
theorem waits_0 (s : Wk) (x : St) (hx : Few 900 x) (b : Int) (w : World) (h : Lies w s x) (h0 : decide (b ∈ x.l0) = true) :
    Calls Try.prog 43 #[wv s, .int .i64 b] w fun e w' => e = .returned (.bool true) ∧ Below w.heap.size w w' := by
  have H0 := Lib.hid h0
  clear h0
  have e11 : ∀ s : Wk, (wc s)[11]? = some (.int .u64 s.p.t0) := fun _ => rfl
  have e12 : ∀ s : Wk, (wc s)[12]? = some (.slice s.l0.ad s.l0.len s.l0.cap) := fun _ => rfl
  have e13 : ∀ s : Wk, (wc s)[13]? = some (.int .u64 s.p.t1) := fun _ => rfl
  have e14 : ∀ s : Wk, (wc s)[14]? = some (.slice s.l1.ad s.l1.len s.l1.cap) := fun _ => rfl
  have e15 : ∀ s : Wk, (wc s)[15]? = some (.int .u64 s.p.t2) := fun _ => rfl
  have e16 : ∀ s : Wk, (wc s)[16]? = some (.slice s.l2.ad s.l2.len s.l2.cap) := fun _ => rfl
  have i0 := bag_index0 s
  have i1 := bag_index1 s
  have i2 := bag_index2 s
  have X0 := (Bk.new w (wc s) 63).cells
  have hw0 : Below w.heap.size w (w.alloc (.cells (wc s) 63)) := (Below.refl _ _).alloc (Nat.le_refl _) _
  have L0 := h.keep hw0
  have m0 := hx.l0
  have m1 := hx.l1
  have m2 := hx.l2
  go_enter Try.func43, Try.ntmps43
  go_wp2_with fail
  refine wp_loop_rounds 4 ?_
  rw [rounds_succ]
  go_wp2_with fail
  have hw1 := hw0.alloc hw0.size (.cells #[.int .u64 s.p.t0, .slice s.l0.ad s.l0.len s.l0.cap] 60)
  have L1 := h.keep hw1
  refine (containsI L1.l0 (by omega) b H0.out).mono ?_
  rintro e w1 ⟨rfl, rfl⟩
  go_wp2
  go_ret
  exact ⟨rfl, hw1⟩
set_option maxRecDepth 10000 in
set_option maxHeartbeats 1000000 in
theorem waits_1 (s : Wk) (x : St) (hx : Few 900 x) (b : Int) (w : World) (h : Lies w s x) (h0 : decide (b ∈ x.l0) = false) (h1 : decide (b ∈ x.l1) = true) :
    Calls Try.prog 43 #[wv s, .int .i64 b] w fun e w' => e = .returned (.bool true) ∧ Below w.heap.size w w' := by
  have H0 := Lib.hid h0
  have H1 := Lib.hid h1
  clear h0 h1
  have e11 : ∀ s : Wk, (wc s)[11]? = some (.int .u64 s.p.t0) := fun _ => rfl
  have e12 : ∀ s : Wk, (wc s)[12]? = some (.slice s.l0.ad s.l0.len s.l0.cap) := fun _ => rfl
  have e13 : ∀ s : Wk, (wc s)[13]? = some (.int .u64 s.p.t1) := fun _ => rfl
  have e14 : ∀ s : Wk, (wc s)[14]? = some (.slice s.l1.ad s.l1.len s.l1.cap) := fun _ => rfl
  have e15 : ∀ s : Wk, (wc s)[15]? = some (.int .u64 s.p.t2) := fun _ => rfl
  have e16 : ∀ s : Wk, (wc s)[16]? = some (.slice s.l2.ad s.l2.len s.l2.cap) := fun _ => rfl
  have i0 := bag_index0 s
  have i1 := bag_index1 s
  have i2 := bag_index2 s
  have X0 := (Bk.new w (wc s) 63).cells
  have hw0 : Below w.heap.size w (w.alloc (.cells (wc s) 63)) := (Below.refl _ _).alloc (Nat.le_refl _) _
  have L0 := h.keep hw0
  have m0 := hx.l0
  have m1 := hx.l1
  have m2 := hx.l2
  go_enter Try.func43, Try.ntmps43
  go_wp2_with fail
  refine wp_loop_rounds 4 ?_
  rw [rounds_succ]
  go_wp2_with fail
  have hw1 := hw0.alloc hw0.size (.cells #[.int .u64 s.p.t0, .slice s.l0.ad s.l0.len s.l0.cap] 60)
  have L1 := h.keep hw1
  refine (containsI L1.l0 (by omega) b H0.out).mono ?_
  rintro e w1 ⟨rfl, rfl⟩
  go_wp2_with fail
  rw [rounds_succ]
  go_wp2_with fail
  have hw2 := hw1.alloc hw1.size (.cells #[.int .u64 s.p.t1, .slice s.l1.ad s.l1.len s.l1.cap] 60)
  have L2 := h.keep hw2
  refine (containsI L2.l1 (by omega) b H1.out).mono ?_
  rintro e w2 ⟨rfl, rfl⟩
  go_wp2
  go_ret
  exact ⟨rfl, hw2⟩
set_option maxRecDepth 10000 in
set_option maxHeartbeats 1000000 in
theorem waits_2 (s : Wk) (x : St) (hx : Few 900 x) (b : Int) (w : World) (h : Lies w s x) (h0 : decide (b ∈ x.l0) = false) (h1 : decide (b ∈ x.l1) = false) (h2 : decide (b ∈ x.l2) = true) :
    Calls Try.prog 43 #[wv s, .int .i64 b] w fun e w' => e = .returned (.bool true) ∧ Below w.heap.size w w' := by
  have H0 := Lib.hid h0
  have H1 := Lib.hid h1
  have H2 := Lib.hid h2
  clear h0 h1 h2
  have e11 : ∀ s : Wk, (wc s)[11]? = some (.int .u64 s.p.t0) := fun _ => rfl
  have e12 : ∀ s : Wk, (wc s)[12]? = some (.slice s.l0.ad s.l0.len s.l0.cap) := fun _ => rfl
  have e13 : ∀ s : Wk, (wc s)[13]? = some (.int .u64 s.p.t1) := fun _ => rfl
  have e14 : ∀ s : Wk, (wc s)[14]? = some (.slice s.l1.ad s.l1.len s.l1.cap) := fun _ => rfl
  have e15 : ∀ s : Wk, (wc s)[15]? = some (.int .u64 s.p.t2) := fun _ => rfl
  have e16 : ∀ s : Wk, (wc s)[16]? = some (.slice s.l2.ad s.l2.len s.l2.cap) := fun _ => rfl
  have i0 := bag_index0 s
  have i1 := bag_index1 s
  have i2 := bag_index2 s
  have X0 := (Bk.new w (wc s) 63).cells
  have hw0 : Below w.heap.size w (w.alloc (.cells (wc s) 63)) := (Below.refl _ _).alloc (Nat.le_refl _) _
  have L0 := h.keep hw0
  have m0 := hx.l0
  have m1 := hx.l1
  have m2 := hx.l2
  go_enter Try.func43, Try.ntmps43
  go_wp2_with fail
  refine wp_loop_rounds 4 ?_
  rw [rounds_succ]
  go_wp2_with fail
  have hw1 := hw0.alloc hw0.size (.cells #[.int .u64 s.p.t0, .slice s.l0.ad s.l0.len s.l0.cap] 60)
  have L1 := h.keep hw1
  refine (containsI L1.l0 (by omega) b H0.out).mono ?_
  rintro e w1 ⟨rfl, rfl⟩
  go_wp2_with fail
  rw [rounds_succ]
  go_wp2_with fail
  have hw2 := hw1.alloc hw1.size (.cells #[.int .u64 s.p.t1, .slice s.l1.ad s.l1.len s.l1.cap] 60)
  have L2 := h.keep hw2
  refine (containsI L2.l1 (by omega) b H1.out).mono ?_
  rintro e w2 ⟨rfl, rfl⟩
  go_wp2_with fail
  rw [rounds_succ]
  go_wp2_with fail
  have hw3 := hw2.alloc hw2.size (.cells #[.int .u64 s.p.t2, .slice s.l2.ad s.l2.len s.l2.cap] 60)
  have L3 := h.keep hw3
  refine (containsI L3.l2 (by omega) b H2.out).mono ?_
  rintro e w3 ⟨rfl, rfl⟩
  go_wp2
  go_ret
  exact ⟨rfl, hw3⟩
set_option maxRecDepth 10000 in
set_option maxHeartbeats 1000000 in
theorem waits_3 (s : Wk) (x : St) (hx : Few 900 x) (b : Int) (w : World) (h : Lies w s x) (h0 : decide (b ∈ x.l0) = false) (h1 : decide (b ∈ x.l1) = false) (h2 : decide (b ∈ x.l2) = false) :
    Calls Try.prog 43 #[wv s, .int .i64 b] w fun e w' => e = .returned (.bool false) ∧ Below w.heap.size w w' := by
  have H0 := Lib.hid h0
  have H1 := Lib.hid h1
  have H2 := Lib.hid h2
  clear h0 h1 h2
  have e11 : ∀ s : Wk, (wc s)[11]? = some (.int .u64 s.p.t0) := fun _ => rfl
  have e12 : ∀ s : Wk, (wc s)[12]? = some (.slice s.l0.ad s.l0.len s.l0.cap) := fun _ => rfl
  have e13 : ∀ s : Wk, (wc s)[13]? = some (.int .u64 s.p.t1) := fun _ => rfl
  have e14 : ∀ s : Wk, (wc s)[14]? = some (.slice s.l1.ad s.l1.len s.l1.cap) := fun _ => rfl
  have e15 : ∀ s : Wk, (wc s)[15]? = some (.int .u64 s.p.t2) := fun _ => rfl
  have e16 : ∀ s : Wk, (wc s)[16]? = some (.slice s.l2.ad s.l2.len s.l2.cap) := fun _ => rfl
  have i0 := bag_index0 s
  have i1 := bag_index1 s
  have i2 := bag_index2 s
  have X0 := (Bk.new w (wc s) 63).cells
  have hw0 : Below w.heap.size w (w.alloc (.cells (wc s) 63)) := (Below.refl _ _).alloc (Nat.le_refl _) _
  have L0 := h.keep hw0
  have m0 := hx.l0
  have m1 := hx.l1
  have m2 := hx.l2
  go_enter Try.func43, Try.ntmps43
  go_wp2_with fail
  refine wp_loop_rounds 4 ?_
  rw [rounds_succ]
  go_wp2_with fail
  have hw1 := hw0.alloc hw0.size (.cells #[.int .u64 s.p.t0, .slice s.l0.ad s.l0.len s.l0.cap] 60)
  have L1 := h.keep hw1
  refine (containsI L1.l0 (by omega) b H0.out).mono ?_
  rintro e w1 ⟨rfl, rfl⟩
  go_wp2_with fail
  rw [rounds_succ]
  go_wp2_with fail
  have hw2 := hw1.alloc hw1.size (.cells #[.int .u64 s.p.t1, .slice s.l1.ad s.l1.len s.l1.cap] 60)
  have L2 := h.keep hw2
  refine (containsI L2.l1 (by omega) b H1.out).mono ?_
  rintro e w2 ⟨rfl, rfl⟩
  go_wp2_with fail
  rw [rounds_succ]
  go_wp2_with fail
  have hw3 := hw2.alloc hw2.size (.cells #[.int .u64 s.p.t2, .slice s.l2.ad s.l2.len s.l2.cap] 60)
  have L3 := h.keep hw3
  refine (containsI L3.l2 (by omega) b H2.out).mono ?_
  rintro e w3 ⟨rfl, rfl⟩
  go_wp2_with fail
  rw [rounds_succ]
  go_wp2
  go_ret
  exact ⟨rfl, hw3⟩
theorem bagWaitsC (s : Wk) (x : St) (hx : Few 900 x) (b : Int) (w : World) (h : Lies w s x) :
    Calls Try.prog 43 #[wv s, .int .i64 b] w fun e w' => e = .returned (.bool (decide (b ∈ x.l0) || decide (b ∈ x.l1) || decide (b ∈ x.l2))) ∧ Below w.heap.size w w' := by
  cases h0 : decide (b ∈ x.l0)
  · cases h1 : decide (b ∈ x.l1)
    · cases h2 : decide (b ∈ x.l2)
      · exact waits_3 s x hx b w h h0 h1 h2
      · exact waits_2 s x hx b w h h0 h1 h2
    · exact waits_1 s x hx b w h h0 h1
  · exact waits_0 s x hx b w h h0
end Go.Proofs.Ytkplkhcboobfaaa.Wo

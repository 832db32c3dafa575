/- The reference's sees, Sees and Written; guard.Clean (made by genguard2.py). -/
import Derived.Test.YtgjkjobemnhbmaaGuardRef
namespace Go.Proofs.Ytgjkjobemnhbmaa.Wo
open Go Go.RowKit Go.Proofs.Ytgjkjobemnhbmaa.Gro Go.Proofs.Ytgjkjobemnhbmaa.Own Go.Proofs.Ytgjkjobemnhbmaa.Wd Go.Proofs.Ytgjkjobemnhbmaa.Ap Go.Proofs.Ytgjkjobemnhbmaa.Pl Go.Proofs.Ytgjkjobemnhbmaa.Shp
set_option linter.unusedVariables false
set_option linter.unusedSimpArgs false
theorem mem_sawOf {p : Pl} {b : Int} (hb : 0 ≤ b) : b ∈ sawOf p ↔ (p.ln = 61 ∧ p.c = b + 1) ∨ (p.pn = true ∧ p.br = b + 1) := by
  unfold sawOf
  rw [List.mem_append]
  refine or_congr ?_ ?_
  · by_cases h : p.ln = 61 ∧ 0 < p.c
    · rw [if_pos h, List.mem_singleton]
      exact ⟨fun e => ⟨h.1, by omega⟩, fun e => by omega⟩
    · rw [if_neg h]
      exact ⟨fun e => by simp at e, fun e => absurd ⟨e.1, by omega⟩ h⟩
  · by_cases h : p.pn = true ∧ 0 < p.br
    · rw [if_pos h, List.mem_singleton]
      exact ⟨fun e => ⟨h.1, by omega⟩, fun e => by omega⟩
    · rw [if_neg h]
      exact ⟨fun e => by simp at e, fun e => absurd ⟨e.1, by omega⟩ h⟩
set_option maxRecDepth 10000 in
set_option maxHeartbeats 1000000 in
theorem sees_t (s : Wk) (b : Int) (h0 : 0 ≤ b) (h1 : b ≤ 1000) (ha : s.p.ln = 61) (hc : s.p.c = b + 1) (w : World) : Calls Try.prog 101 #[wv s, .int .i64 b] w fun e w' => e = .returned (.bool true) ∧ Below w.heap.size w w' := by
  have f0 : ∀ s : Wk, (wc s)[0]? = some (.int .i64 s.p.ln) := fun _ => rfl
  have f8 : ∀ s : Wk, (wc s)[8]? = some (.bool s.p.pn) := fun _ => rfl
  have f21 : ∀ s : Wk, (wc s)[21]? = some (.int .i64 s.p.c) := fun _ => rfl
  have f22 : ∀ s : Wk, (wc s)[22]? = some (.int .i64 s.p.br) := fun _ => rfl
  have hs : IntKind.i64.wrap (b + 1) = b + 1 := IntWalk.i64_in _ (by omega)
  have X0 := (Bk.new w (wc s) 63).cells
  have hw0 : Below w.heap.size w (w.alloc (.cells (wc s) 63)) := (Below.refl _ _).alloc (Nat.le_refl _) _
  have t1 : (s.p.ln == 61) = true := by simp [ha]
  have t2 : (s.p.c == b + 1) = true := by simp [hc]
  clear ha hc
  go_enter Try.func101, Try.ntmps101
  go_wp2
  go_ret
  exact ⟨rfl, hw0⟩
set_option maxRecDepth 10000 in
set_option maxHeartbeats 1000000 in
theorem sees_ff (s : Wk) (b : Int) (h0 : 0 ≤ b) (h1 : b ≤ 1000) (ha : ¬ s.p.ln = 61) (hp : s.p.pn = false) (w : World) : Calls Try.prog 101 #[wv s, .int .i64 b] w fun e w' => e = .returned (.bool false) ∧ Below w.heap.size w w' := by
  have f0 : ∀ s : Wk, (wc s)[0]? = some (.int .i64 s.p.ln) := fun _ => rfl
  have f8 : ∀ s : Wk, (wc s)[8]? = some (.bool s.p.pn) := fun _ => rfl
  have f21 : ∀ s : Wk, (wc s)[21]? = some (.int .i64 s.p.c) := fun _ => rfl
  have f22 : ∀ s : Wk, (wc s)[22]? = some (.int .i64 s.p.br) := fun _ => rfl
  have hs : IntKind.i64.wrap (b + 1) = b + 1 := IntWalk.i64_in _ (by omega)
  have X0 := (Bk.new w (wc s) 63).cells
  have hw0 : Below w.heap.size w (w.alloc (.cells (wc s) 63)) := (Below.refl _ _).alloc (Nat.le_refl _) _
  have t1 : (s.p.ln == 61) = false := by simp [ha]
  clear ha
  go_enter Try.func101, Try.ntmps101
  go_wp2
  go_ret
  exact ⟨rfl, hw0⟩
set_option maxRecDepth 10000 in
set_option maxHeartbeats 1000000 in
theorem sees_fg (s : Wk) (b : Int) (h0 : 0 ≤ b) (h1 : b ≤ 1000) (ha : ¬ s.p.ln = 61) (hp : s.p.pn = true) (hq : ¬ s.p.br = b + 1) (w : World) : Calls Try.prog 101 #[wv s, .int .i64 b] w fun e w' => e = .returned (.bool false) ∧ Below w.heap.size w w' := by
  have f0 : ∀ s : Wk, (wc s)[0]? = some (.int .i64 s.p.ln) := fun _ => rfl
  have f8 : ∀ s : Wk, (wc s)[8]? = some (.bool s.p.pn) := fun _ => rfl
  have f21 : ∀ s : Wk, (wc s)[21]? = some (.int .i64 s.p.c) := fun _ => rfl
  have f22 : ∀ s : Wk, (wc s)[22]? = some (.int .i64 s.p.br) := fun _ => rfl
  have hs : IntKind.i64.wrap (b + 1) = b + 1 := IntWalk.i64_in _ (by omega)
  have X0 := (Bk.new w (wc s) 63).cells
  have hw0 : Below w.heap.size w (w.alloc (.cells (wc s) 63)) := (Below.refl _ _).alloc (Nat.le_refl _) _
  have t1 : (s.p.ln == 61) = false := by simp [ha]
  clear ha
  have t4 : (s.p.br == b + 1) = false := by simp [hq]
  clear hq
  go_enter Try.func101, Try.ntmps101
  go_wp2
  go_ret
  exact ⟨rfl, hw0⟩
set_option maxRecDepth 10000 in
set_option maxHeartbeats 1000000 in
theorem sees_ft (s : Wk) (b : Int) (h0 : 0 ≤ b) (h1 : b ≤ 1000) (ha : ¬ s.p.ln = 61) (hp : s.p.pn = true) (hq : s.p.br = b + 1) (w : World) : Calls Try.prog 101 #[wv s, .int .i64 b] w fun e w' => e = .returned (.bool true) ∧ Below w.heap.size w w' := by
  have f0 : ∀ s : Wk, (wc s)[0]? = some (.int .i64 s.p.ln) := fun _ => rfl
  have f8 : ∀ s : Wk, (wc s)[8]? = some (.bool s.p.pn) := fun _ => rfl
  have f21 : ∀ s : Wk, (wc s)[21]? = some (.int .i64 s.p.c) := fun _ => rfl
  have f22 : ∀ s : Wk, (wc s)[22]? = some (.int .i64 s.p.br) := fun _ => rfl
  have hs : IntKind.i64.wrap (b + 1) = b + 1 := IntWalk.i64_in _ (by omega)
  have X0 := (Bk.new w (wc s) 63).cells
  have hw0 : Below w.heap.size w (w.alloc (.cells (wc s) 63)) := (Below.refl _ _).alloc (Nat.le_refl _) _
  have t1 : (s.p.ln == 61) = false := by simp [ha]
  clear ha
  have t4 : (s.p.br == b + 1) = true := by simp [hq]
  clear hq
  go_enter Try.func101, Try.ntmps101
  go_wp2
  go_ret
  exact ⟨rfl, hw0⟩
set_option maxRecDepth 10000 in
set_option maxHeartbeats 1000000 in
theorem sees_gf (s : Wk) (b : Int) (h0 : 0 ≤ b) (h1 : b ≤ 1000) (ha : s.p.ln = 61) (hc : ¬ s.p.c = b + 1) (hp : s.p.pn = false) (w : World) : Calls Try.prog 101 #[wv s, .int .i64 b] w fun e w' => e = .returned (.bool false) ∧ Below w.heap.size w w' := by
  have f0 : ∀ s : Wk, (wc s)[0]? = some (.int .i64 s.p.ln) := fun _ => rfl
  have f8 : ∀ s : Wk, (wc s)[8]? = some (.bool s.p.pn) := fun _ => rfl
  have f21 : ∀ s : Wk, (wc s)[21]? = some (.int .i64 s.p.c) := fun _ => rfl
  have f22 : ∀ s : Wk, (wc s)[22]? = some (.int .i64 s.p.br) := fun _ => rfl
  have hs : IntKind.i64.wrap (b + 1) = b + 1 := IntWalk.i64_in _ (by omega)
  have X0 := (Bk.new w (wc s) 63).cells
  have hw0 : Below w.heap.size w (w.alloc (.cells (wc s) 63)) := (Below.refl _ _).alloc (Nat.le_refl _) _
  have t1 : (s.p.ln == 61) = true := by simp [ha]
  have t2 : (s.p.c == b + 1) = false := by simp [hc]
  clear ha hc
  go_enter Try.func101, Try.ntmps101
  go_wp2
  go_ret
  exact ⟨rfl, hw0⟩
set_option maxRecDepth 10000 in
set_option maxHeartbeats 1000000 in
theorem sees_gg (s : Wk) (b : Int) (h0 : 0 ≤ b) (h1 : b ≤ 1000) (ha : s.p.ln = 61) (hc : ¬ s.p.c = b + 1) (hp : s.p.pn = true) (hq : ¬ s.p.br = b + 1) (w : World) : Calls Try.prog 101 #[wv s, .int .i64 b] w fun e w' => e = .returned (.bool false) ∧ Below w.heap.size w w' := by
  have f0 : ∀ s : Wk, (wc s)[0]? = some (.int .i64 s.p.ln) := fun _ => rfl
  have f8 : ∀ s : Wk, (wc s)[8]? = some (.bool s.p.pn) := fun _ => rfl
  have f21 : ∀ s : Wk, (wc s)[21]? = some (.int .i64 s.p.c) := fun _ => rfl
  have f22 : ∀ s : Wk, (wc s)[22]? = some (.int .i64 s.p.br) := fun _ => rfl
  have hs : IntKind.i64.wrap (b + 1) = b + 1 := IntWalk.i64_in _ (by omega)
  have X0 := (Bk.new w (wc s) 63).cells
  have hw0 : Below w.heap.size w (w.alloc (.cells (wc s) 63)) := (Below.refl _ _).alloc (Nat.le_refl _) _
  have t1 : (s.p.ln == 61) = true := by simp [ha]
  have t2 : (s.p.c == b + 1) = false := by simp [hc]
  clear ha hc
  have t4 : (s.p.br == b + 1) = false := by simp [hq]
  clear hq
  go_enter Try.func101, Try.ntmps101
  go_wp2
  go_ret
  exact ⟨rfl, hw0⟩
set_option maxRecDepth 10000 in
set_option maxHeartbeats 1000000 in
theorem sees_gt (s : Wk) (b : Int) (h0 : 0 ≤ b) (h1 : b ≤ 1000) (ha : s.p.ln = 61) (hc : ¬ s.p.c = b + 1) (hp : s.p.pn = true) (hq : s.p.br = b + 1) (w : World) : Calls Try.prog 101 #[wv s, .int .i64 b] w fun e w' => e = .returned (.bool true) ∧ Below w.heap.size w w' := by
  have f0 : ∀ s : Wk, (wc s)[0]? = some (.int .i64 s.p.ln) := fun _ => rfl
  have f8 : ∀ s : Wk, (wc s)[8]? = some (.bool s.p.pn) := fun _ => rfl
  have f21 : ∀ s : Wk, (wc s)[21]? = some (.int .i64 s.p.c) := fun _ => rfl
  have f22 : ∀ s : Wk, (wc s)[22]? = some (.int .i64 s.p.br) := fun _ => rfl
  have hs : IntKind.i64.wrap (b + 1) = b + 1 := IntWalk.i64_in _ (by omega)
  have X0 := (Bk.new w (wc s) 63).cells
  have hw0 : Below w.heap.size w (w.alloc (.cells (wc s) 63)) := (Below.refl _ _).alloc (Nat.le_refl _) _
  have t1 : (s.p.ln == 61) = true := by simp [ha]
  have t2 : (s.p.c == b + 1) = false := by simp [hc]
  clear ha hc
  have t4 : (s.p.br == b + 1) = true := by simp [hq]
  clear hq
  go_enter Try.func101, Try.ntmps101
  go_wp2
  go_ret
  exact ⟨rfl, hw0⟩
theorem sees (s : Wk) (b : Int) (h0 : 0 ≤ b) (h1 : b ≤ 1000) (w : World) : Calls Try.prog 101 #[wv s, .int .i64 b] w fun e w' => e = .returned (.bool (decide (b ∈ sawOf s.p))) ∧ Below w.heap.size w w' := by
  by_cases ha : s.p.ln = 61
  · by_cases hc : s.p.c = b + 1
    · rw [decide_eq_true ((mem_sawOf h0).2 (.inl ⟨ha, hc⟩))]
      exact sees_t s b h0 h1 ha hc w
    · cases hp : s.p.pn
      · rw [decide_eq_false (fun h => by rcases (mem_sawOf h0).1 h with h | h; exact hc h.2; rw [hp] at h; cases h.1)]
        exact sees_gf s b h0 h1 ha hc hp w
      · by_cases hq : s.p.br = b + 1
        · rw [decide_eq_true ((mem_sawOf h0).2 (.inr ⟨hp, hq⟩))]
          exact sees_gt s b h0 h1 ha hc hp hq w
        · rw [decide_eq_false (fun h => by rcases (mem_sawOf h0).1 h with h | h; exact hc h.2; exact hq h.2)]
          exact sees_gg s b h0 h1 ha hc hp hq w
  · cases hp : s.p.pn
    · rw [decide_eq_false (fun h => by rcases (mem_sawOf h0).1 h with h | h; exact ha h.1; rw [hp] at h; cases h.1)]
      exact sees_ff s b h0 h1 ha hp w
    · by_cases hq : s.p.br = b + 1
      · rw [decide_eq_true ((mem_sawOf h0).2 (.inr ⟨hp, hq⟩))]
        exact sees_ft s b h0 h1 ha hp hq w
      · rw [decide_eq_false (fun h => by rcases (mem_sawOf h0).1 h with h | h; exact ha h.1; exact hq h.2)]
        exact sees_fg s b h0 h1 ha hp hq w
theorem mem_sawL {xs : List Wk} {b : Int} : b ∈ sawL xs ↔ ∃ i, ∃ h : i < xs.length, b ∈ sawOf xs[i].p := by
  unfold sawL
  rw [List.mem_flatMap]
  constructor
  · rintro ⟨s, hs, hb⟩
    obtain ⟨i, hi, rfl⟩ := List.getElem_of_mem hs
    exact ⟨i, hi, hb⟩
  · rintro ⟨i, hi, hb⟩
    exact ⟨_, List.getElem_mem hi, hb⟩
def SeesPost (q : Bool) (w : World) (e : Ending) (w' : World) : Prop := e = .returned (.bool q) ∧ Below w.heap.size w w'
theorem seesL_zero (ad : Option Addr) (cap : Nat) (b : Int) (w : World) : Calls Try.prog 60 #[.slice ad 0 cap, .int .i64 b] w (SeesPost false w) := by
  go_enter Try.func60, Try.ntmps60
  go_wp2
  refine wp_loop_rounds 1 ?_
  rw [rounds_succ]
  go_wp2
  go_ret
  exact ⟨rfl, Below.refl _ _⟩
set_option maxRecDepth 10000 in
set_option maxHeartbeats 2000000 in
theorem seesL_pos (b0 off cap : Nat) (xs : List Wk) (w : World) (hn : xs.length ≤ 400) (hb : b0 < w.heap.size) (hr : ∀ i (h : i < xs.length), w.rangeAt b0 (off + i * 33) (wc xs[i]).toList) (b : Int) (h0 : 0 ≤ b) (h1 : b ≤ 1000) {q : Bool} (hq : decide (b ∈ sawL xs) = q) :
    Calls Try.prog 60 #[.slice (some ⟨b0, off, none⟩) xs.length cap, .int .i64 b] w (SeesPost q w) := by
  have HR := Lib.hid hr
  have HBL := Lib.hid hb
  have HQ := Lib.hid hq
  clear hr hb hq
  go_enter Try.func60, Try.ntmps60
  go_wp2
  go_loopw [5] (fun i wr => ∃ k : Nat, k ≤ xs.length ∧ i = .int .i64 k ∧ (∀ j (h : j < xs.length), j < k → ¬ b ∈ sawOf xs[j].p) ∧ Below w.heap.size w wr) (fun i _ => xs.length - (intOf i).toNat)
  case atStart => exact ⟨0, Nat.zero_le _, rfl, fun j h h' => by omega, Below.refl _ _⟩
  case round =>
    obtain ⟨k, hk, rfl, hno, hbw⟩ := hrel
    have HN := Lib.hid hno
    clear hno
    by_cases hlt : k < xs.length
    · have hr' : wr.rangeAt b0 (off + k * 33) (wc xs[k]).toList := fun j v hv => (hbw.cell (p := ⟨b0, _, none⟩) HBL.out).trans (HR.out k hlt j v hv)
      obtain ⟨s, hs⟩ : ∃ s, s = xs[k] := ⟨_, rfl⟩
      rw [← hs] at hr'
      have HS := Lib.hid hs
      clear hs
      by_cases hm : b ∈ sawOf s.p
      · have hse := sees s b h0 h1
        rw [decide_eq_true hm] at hse
        have HSE := Lib.hid hse
        have hqt : q = true := by
          rw [← HQ.out]
          exact decide_eq_true (mem_sawL.2 ⟨k, hlt, HS.out ▸ hm⟩)
        subst hqt
        clear hm hse HQ
        go_wp2_with (refine wpList_load_mid rfl 63 _ rfl b0 (off + k * 33) rfl (wc s).toList _ (by exact hr') Try.underlying63 rfl (by kernel_rfl) ?_)
        refine (HSE.out _).mono ?_
        rintro e w1 ⟨rfl, hb1⟩
        go_wp2
        go_ret
        exact ⟨rfl, hbw.trans (hb1.mono hbw.size)⟩
      · have hse := sees s b h0 h1
        rw [decide_eq_false hm] at hse
        have HSE := Lib.hid hse
        have HM := Lib.hid hm
        clear hm hse
        go_wp2_with (refine wpList_load_mid rfl 63 _ rfl b0 (off + k * 33) rfl (wc s).toList _ (by exact hr') Try.underlying63 rfl (by kernel_rfl) ?_)
        refine (HSE.out _).mono ?_
        rintro e w1 ⟨rfl, hb1⟩
        go_wp2
        go_roundw
        case rel => exact ⟨k + 1, by omega, by go_num, fun j hj h => by rcases Nat.lt_succ_iff_lt_or_eq.1 h with h | rfl; exact HN.out j hj h; rw [← HS.out]; exact HM.out, hbw.trans (hb1.mono hbw.size)⟩
        case measure => simp [intOf]; omega
    · have hqf : q = false := by
        rw [← HQ.out]
        exact decide_eq_false (fun h => by
          obtain ⟨i, hi, hb⟩ := mem_sawL.1 h
          exact HN.out i hi (by omega) hb)
      obtain rfl : xs.length = k := by omega
      subst hqf
      go_wp2
      go_ret
      exact ⟨rfl, hbw⟩
theorem seesL {w : World} {v : Sl} {xs : List Wk} (h : WReads w v.v xs) (hn : xs.length ≤ 400) (b : Int) (h0 : 0 ≤ b) (h1 : b ≤ 1000) : Calls Try.prog 60 #[v.v, .int .i64 b] w (SeesPost (decide (b ∈ sawL xs)) w) := by
  obtain ⟨ad, cap, e, _, _, h3⟩ := h
  rw [e]
  rcases h3 with rfl | ⟨b0, off, rfl, hb, hc⟩
  · exact seesL_zero ad cap b w
  · exact seesL_pos b0 off cap xs w hn hb hc b h0 h1 rfl
set_option maxRecDepth 10000 in
set_option maxHeartbeats 2000000 in
theorem refWritten_bad (c : Cfg) (hf : c.Wf) (hk : chk c ≠ 0) (v : Ev) (hkd : v.kd = 2) (hak : v.ak = 2) (w : World) : Calls Try.prog 62 #[cv c, .agg (ec v)] w fun e w' => ∃ r, e = .returned (.int .i64 r) ∧ EvW c v r ∧ Below w.heap.size w w' := by
  have C0 := (Bk.new w (ccG c) 24).alloc (.cells (ec v) 94)
  have E0 := Bk.new (w.alloc (.cells (ccG c) 24)) (ec v) 94
  have e3 : (ec v)[3]? = some (.int .i64 v.kd) := rfl
  have e15 : (ec v)[15]? = some (.int .i64 v.ak) := rfl
  have hw0 : Below w.heap.size w ((w.alloc (.cells (ccG c) 24)).alloc (.cells (ec v) 94)) := ((Below.refl _ _).alloc (Nat.le_refl _) _).alloc (by simp) _
  rw [show (w.alloc (.cells (ccG c) 24)).heap.size = w.heap.size + 1 by simp] at E0
  have tk : (v.kd != 2) = false := by simp [hkd]
  have ta : (v.ak != 2) = false := by simp [hak]
  have tc : (chk c != 0) = true := by simp [hk]
  have HC := Lib.hid (refCheck c hf)
  have HZ : RowKit.Hid (tot c = 0) := Lib.hid (by rw [tot, okB_false hk]; rfl)
  have HKA := Lib.hid (And.intro hkd hak)
  clear hk hkd hak
  go_enter Try.func62, Try.ntmps62
  go_wp2_with (refine wpList_load_row_w rfl 24 _ rfl w.heap.size rfl _ (ccG c) (0, 0) _ (by exact C0) Try.underlying24 rfl (by kernel_rfl) ?_)
  refine (HC.out _).mono ?_
  rintro e w1 ⟨rfl, hb1⟩
  go_wp2
  go_ret
  exact ⟨-1, rfl, .inl ⟨HKA.out.1, HKA.out.2, writ_none (by rw [HZ.out]; decide)⟩, hw0.trans (hb1.mono hw0.size)⟩
set_option maxRecDepth 10000 in
set_option maxHeartbeats 2000000 in
theorem refWritten_no (c : Cfg) (v : Ev) (h : ¬ (v.kd = 2 ∧ v.ak = 2)) (w : World) : Calls Try.prog 62 #[cv c, .agg (ec v)] w fun e w' => ∃ r, e = .returned (.int .i64 r) ∧ EvW c v r ∧ Below w.heap.size w w' := by
  have E0 := Bk.new (w.alloc (.cells (ccG c) 24)) (ec v) 94
  have e3 : (ec v)[3]? = some (.int .i64 v.kd) := rfl
  have e15 : (ec v)[15]? = some (.int .i64 v.ak) := rfl
  have hw0 : Below w.heap.size w ((w.alloc (.cells (ccG c) 24)).alloc (.cells (ec v) 94)) := ((Below.refl _ _).alloc (Nat.le_refl _) _).alloc (by simp) _
  rw [show (w.alloc (.cells (ccG c) 24)).heap.size = w.heap.size + 1 by simp] at E0
  have HKA := Lib.hid h
  by_cases hk : v.kd = 2
  · have tk : (v.kd != 2) = false := by simp [hk]
    have ta : (v.ak != 2) = true := by
      have : v.ak ≠ 2 := fun e => h ⟨hk, e⟩
      simp [this]
    clear h hk
    go_enter Try.func62, Try.ntmps62
    go_wp2
    go_ret
    exact ⟨-1, rfl, .inr ⟨HKA.out, rfl⟩, hw0⟩
  · have tk : (v.kd != 2) = true := by simp [hk]
    clear h hk
    go_enter Try.func62, Try.ntmps62
    go_wp2
    go_ret
    exact ⟨-1, rfl, .inr ⟨HKA.out, rfl⟩, hw0⟩
theorem refWritten (c : Cfg) (hf : c.Wf) (v : Ev) (w : World) : Calls Try.prog 62 #[cv c, .agg (ec v)] w fun e w' => ∃ r, e = .returned (.int .i64 r) ∧ EvW c v r ∧ Below w.heap.size w w' := by
  by_cases h : v.kd = 2 ∧ v.ak = 2
  · by_cases hk : chk c = 0
    · exact refWritten_ok c hf (chk_ok.1 hk) v h.1 h.2 w
    · exact refWritten_bad c hf hk v h.1 h.2 w
  · exact refWritten_no c v h w
end Go.Proofs.Ytgjkjobemnhbmaa.Wo

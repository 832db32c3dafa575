/- slab.Ready, stateOf, Gone, State, Parked; the reference's Ready and Gone (made by genslab.py). -/
import Derived.Test.YtblkfbbdeodpjaaSlabWordRef
namespace Go.Proofs.Ytblkfbbdeodpjaa.Me
open Go Go.RowKit Go.Proofs.Ytblkfbbdeodpjaa.Gro Go.Proofs.Ytblkfbbdeodpjaa.Own Go.Proofs.Ytblkfbbdeodpjaa.Wd Go.Proofs.Ytblkfbbdeodpjaa.Ap Go.Proofs.Ytblkfbbdeodpjaa.Pl Go.Proofs.Ytblkfbbdeodpjaa.Wo
set_option linter.unusedVariables false
set_option linter.unusedSimpArgs false
def RetB (x : Value) (w : World) (e : Ending) (w' : World) : Prop := e = .returned x ∧ Below w.heap.size w w'
def rdy0 (st tag e : Int) : Bool := decide (st = 0) || (decide (st = 3) && decide (2 ≤ e) && decide (tag ≤ e - 2))
def rdyB (v e : Int) : Bool := rdy0 (v % 16) (v / 65536) e
theorem unslabP (v : Int) (h0 : 0 ≤ v) (h1 : v < 18446744073709551616) (w : World) : Calls Try.prog 132 #[.int .u64 v] w (RetB (.tuple #[.int .i64 (v % 16), .int .i64 (v / 16 % 4096), .int .u64 (v / 65536)]) w) := by
  refine (Pk.unslab v h0 h1 w).mono ?_
  rintro e w' ⟨rfl, rfl⟩
  exact ⟨rfl, Below.refl _ _⟩
theorem unslabR (v : Int) (h0 : 0 ≤ v) (h1 : v < 18446744073709551616) (w : World) : Calls Try.prog 136 #[.int .u64 v] w (RetB (.tuple #[.int .i64 (v % 16), .int .i64 (v / 16 % 4096), .int .u64 (v / 65536)]) w) := by
  refine (Pk.runslab v h0 h1 w).mono ?_
  rintro e w' ⟨rfl, m, rfl⟩
  exact ⟨rfl, gro_drewN (Below.refl _ _)⟩
theorem ready_a (v e st pk tag : Int) (e1 : e < 18446744073709551616) (HU : RowKit.Hid (∀ w, Calls Try.prog 132 #[.int .u64 v] w (RetB (.tuple #[.int .i64 st, .int .i64 pk, .int .u64 tag]) w))) (hs : st = 0) (w : World) : Calls Try.prog 83 #[.int .u64 v, .int .u64 e] w (RetB (.bool true) w) := by
  have t0 : (st == 0) = true := by simp [hs]
  clear hs
  go_enter Try.func83, Try.ntmps83
  go_wp2_with fail
  refine (HU.out _).mono ?_
  rintro r w1 ⟨rfl, hb1⟩
  go_wp2
  go_ret
  exact ⟨rfl, hb1⟩
theorem ready_b (v e st pk tag : Int) (e1 : e < 18446744073709551616) (HU : RowKit.Hid (∀ w, Calls Try.prog 132 #[.int .u64 v] w (RetB (.tuple #[.int .i64 st, .int .i64 pk, .int .u64 tag]) w))) (hs : st ≠ 0) (h3 : st ≠ 3) (w : World) : Calls Try.prog 83 #[.int .u64 v, .int .u64 e] w (RetB (.bool false) w) := by
  have t0 : (st == 0) = false := by simp [hs]
  have t3 : (st == 3) = false := by simp [h3]
  clear hs h3
  go_enter Try.func83, Try.ntmps83
  go_wp2_with fail
  refine (HU.out _).mono ?_
  rintro r w1 ⟨rfl, hb1⟩
  go_wp2
  go_ret
  exact ⟨rfl, hb1⟩
theorem ready_c (v e st pk tag : Int) (e1 : e < 18446744073709551616) (HU : RowKit.Hid (∀ w, Calls Try.prog 132 #[.int .u64 v] w (RetB (.tuple #[.int .i64 st, .int .i64 pk, .int .u64 tag]) w))) (hs : st = 3) (he : e < 2) (w : World) : Calls Try.prog 83 #[.int .u64 v, .int .u64 e] w (RetB (.bool false) w) := by
  have t0 : (st == 0) = false := by simp [hs]
  have t3 : (st == 3) = true := by simp [hs]
  have t2 : decide (2 ≤ e) = false := by simp; omega
  have t1 : decide (1 < e) = false := by simp; omega
  clear hs he
  go_enter Try.func83, Try.ntmps83
  go_wp2_with fail
  refine (HU.out _).mono ?_
  rintro r w1 ⟨rfl, hb1⟩
  go_wp2
  go_ret
  exact ⟨rfl, hb1⟩
theorem ready_d (v e st pk tag : Int) (e1 : e < 18446744073709551616) (HU : RowKit.Hid (∀ w, Calls Try.prog 132 #[.int .u64 v] w (RetB (.tuple #[.int .i64 st, .int .i64 pk, .int .u64 tag]) w))) (hs : st = 3) (he : 2 ≤ e) (ht : tag ≤ e - 2) (w : World) : Calls Try.prog 83 #[.int .u64 v, .int .u64 e] w (RetB (.bool true) w) := by
  have t0 : (st == 0) = false := by simp [hs]
  have t3 : (st == 3) = true := by simp [hs]
  have t2 : decide (2 ≤ e) = true := by simp; omega
  have t1 : decide (1 < e) = true := by simp; omega
  have tw : IntKind.u64.wrap (e - 2) = e - 2 := by unfold IntKind.wrap; rw [show IntKind.u64.bits = 64 from rfl]; simp [IntKind.signed]; omega
  have t4 : decide (tag ≤ e - 2) = true := by simp [ht]
  clear hs he ht
  go_enter Try.func83, Try.ntmps83
  go_wp2_with fail
  refine (HU.out _).mono ?_
  rintro r w1 ⟨rfl, hb1⟩
  go_wp2
  go_ret
  exact ⟨rfl, hb1⟩
theorem ready_e (v e st pk tag : Int) (e1 : e < 18446744073709551616) (HU : RowKit.Hid (∀ w, Calls Try.prog 132 #[.int .u64 v] w (RetB (.tuple #[.int .i64 st, .int .i64 pk, .int .u64 tag]) w))) (hs : st = 3) (he : 2 ≤ e) (ht : ¬ tag ≤ e - 2) (w : World) : Calls Try.prog 83 #[.int .u64 v, .int .u64 e] w (RetB (.bool false) w) := by
  have t0 : (st == 0) = false := by simp [hs]
  have t3 : (st == 3) = true := by simp [hs]
  have t2 : decide (2 ≤ e) = true := by simp; omega
  have t1 : decide (1 < e) = true := by simp; omega
  have tw : IntKind.u64.wrap (e - 2) = e - 2 := by unfold IntKind.wrap; rw [show IntKind.u64.bits = 64 from rfl]; simp [IntKind.signed]; omega
  have t4 : decide (tag ≤ e - 2) = false := by simp; omega
  clear hs he ht
  go_enter Try.func83, Try.ntmps83
  go_wp2_with fail
  refine (HU.out _).mono ?_
  rintro r w1 ⟨rfl, hb1⟩
  go_wp2
  go_ret
  exact ⟨rfl, hb1⟩
theorem ready (v e : Int) (h0 : 0 ≤ v) (h1 : v < 18446744073709551616) (e1 : e < 18446744073709551616) (w : World) : Calls Try.prog 83 #[.int .u64 v, .int .u64 e] w (RetB (.bool (rdyB v e)) w) := by
  have HU := Lib.hid (unslabP v h0 h1)
  unfold rdyB rdy0
  by_cases hs : v % 16 = 0
  · have := ready_a v e _ _ _ e1 HU hs w
    simpa [hs] using this
  · by_cases h3 : v % 16 = 3
    · by_cases he : 2 ≤ e
      · by_cases ht : v / 65536 ≤ e - 2
        · have := ready_d v e _ _ _ e1 HU h3 he ht w
          simpa [h3, he, ht] using this
        · have := ready_e v e _ _ _ e1 HU h3 he ht w
          simpa [h3, he, ht] using this
      · have := ready_c v e _ _ _ e1 HU h3 (by omega) w
        simpa [h3, he] using this
    · have := ready_b v e _ _ _ e1 HU hs h3 w
      simpa [hs, h3] using this
theorem rready_a (v e st pk tag : Int) (e1 : e < 18446744073709551616) (HU : RowKit.Hid (∀ w, Calls Try.prog 136 #[.int .u64 v] w (RetB (.tuple #[.int .i64 st, .int .i64 pk, .int .u64 tag]) w))) (hs : st = 0) (w : World) : Calls Try.prog 86 #[.int .u64 v, .int .u64 e] w (RetB (.bool true) w) := by
  have t0 : (st == 0) = true := by simp [hs]
  clear hs
  go_enter Try.func86, Try.ntmps86
  go_wp2_with fail
  refine (HU.out _).mono ?_
  rintro r w1 ⟨rfl, hb1⟩
  go_wp2
  go_ret
  exact ⟨rfl, hb1⟩
theorem rready_b (v e st pk tag : Int) (e1 : e < 18446744073709551616) (HU : RowKit.Hid (∀ w, Calls Try.prog 136 #[.int .u64 v] w (RetB (.tuple #[.int .i64 st, .int .i64 pk, .int .u64 tag]) w))) (hs : st ≠ 0) (h3 : st ≠ 3) (w : World) : Calls Try.prog 86 #[.int .u64 v, .int .u64 e] w (RetB (.bool false) w) := by
  have t0 : (st == 0) = false := by simp [hs]
  have t3 : (st == 3) = false := by simp [h3]
  clear hs h3
  go_enter Try.func86, Try.ntmps86
  go_wp2_with fail
  refine (HU.out _).mono ?_
  rintro r w1 ⟨rfl, hb1⟩
  go_wp2
  go_ret
  exact ⟨rfl, hb1⟩
theorem rready_c (v e st pk tag : Int) (e1 : e < 18446744073709551616) (HU : RowKit.Hid (∀ w, Calls Try.prog 136 #[.int .u64 v] w (RetB (.tuple #[.int .i64 st, .int .i64 pk, .int .u64 tag]) w))) (hs : st = 3) (he : e < 2) (w : World) : Calls Try.prog 86 #[.int .u64 v, .int .u64 e] w (RetB (.bool false) w) := by
  have t0 : (st == 0) = false := by simp [hs]
  have t3 : (st == 3) = true := by simp [hs]
  have t2 : decide (2 ≤ e) = false := by simp; omega
  have t1 : decide (1 < e) = false := by simp; omega
  clear hs he
  go_enter Try.func86, Try.ntmps86
  go_wp2_with fail
  refine (HU.out _).mono ?_
  rintro r w1 ⟨rfl, hb1⟩
  go_wp2
  go_ret
  exact ⟨rfl, hb1⟩
theorem rready_d (v e st pk tag : Int) (e1 : e < 18446744073709551616) (HU : RowKit.Hid (∀ w, Calls Try.prog 136 #[.int .u64 v] w (RetB (.tuple #[.int .i64 st, .int .i64 pk, .int .u64 tag]) w))) (hs : st = 3) (he : 2 ≤ e) (ht : tag ≤ e - 2) (w : World) : Calls Try.prog 86 #[.int .u64 v, .int .u64 e] w (RetB (.bool true) w) := by
  have t0 : (st == 0) = false := by simp [hs]
  have t3 : (st == 3) = true := by simp [hs]
  have t2 : decide (2 ≤ e) = true := by simp; omega
  have t1 : decide (1 < e) = true := by simp; omega
  have tw : IntKind.u64.wrap (e - 2) = e - 2 := by unfold IntKind.wrap; rw [show IntKind.u64.bits = 64 from rfl]; simp [IntKind.signed]; omega
  have t4 : decide (tag ≤ e - 2) = true := by simp [ht]
  clear hs he ht
  go_enter Try.func86, Try.ntmps86
  go_wp2_with fail
  refine (HU.out _).mono ?_
  rintro r w1 ⟨rfl, hb1⟩
  go_wp2
  go_ret
  exact ⟨rfl, hb1⟩
theorem rready_e (v e st pk tag : Int) (e1 : e < 18446744073709551616) (HU : RowKit.Hid (∀ w, Calls Try.prog 136 #[.int .u64 v] w (RetB (.tuple #[.int .i64 st, .int .i64 pk, .int .u64 tag]) w))) (hs : st = 3) (he : 2 ≤ e) (ht : ¬ tag ≤ e - 2) (w : World) : Calls Try.prog 86 #[.int .u64 v, .int .u64 e] w (RetB (.bool false) w) := by
  have t0 : (st == 0) = false := by simp [hs]
  have t3 : (st == 3) = true := by simp [hs]
  have t2 : decide (2 ≤ e) = true := by simp; omega
  have t1 : decide (1 < e) = true := by simp; omega
  have tw : IntKind.u64.wrap (e - 2) = e - 2 := by unfold IntKind.wrap; rw [show IntKind.u64.bits = 64 from rfl]; simp [IntKind.signed]; omega
  have t4 : decide (tag ≤ e - 2) = false := by simp; omega
  clear hs he ht
  go_enter Try.func86, Try.ntmps86
  go_wp2_with fail
  refine (HU.out _).mono ?_
  rintro r w1 ⟨rfl, hb1⟩
  go_wp2
  go_ret
  exact ⟨rfl, hb1⟩
theorem rready (v e : Int) (h0 : 0 ≤ v) (h1 : v < 18446744073709551616) (e1 : e < 18446744073709551616) (w : World) : Calls Try.prog 86 #[.int .u64 v, .int .u64 e] w (RetB (.bool (rdyB v e)) w) := by
  have HU := Lib.hid (unslabR v h0 h1)
  unfold rdyB rdy0
  by_cases hs : v % 16 = 0
  · have := rready_a v e _ _ _ e1 HU hs w
    simpa [hs] using this
  · by_cases h3 : v % 16 = 3
    · by_cases he : 2 ≤ e
      · by_cases ht : v / 65536 ≤ e - 2
        · have := rready_d v e _ _ _ e1 HU h3 he ht w
          simpa [h3, he, ht] using this
        · have := rready_e v e _ _ _ e1 HU h3 he ht w
          simpa [h3, he, ht] using this
      · have := rready_c v e _ _ _ e1 HU h3 (by omega) w
        simpa [h3, he] using this
    · have := rready_b v e _ _ _ e1 HU hs h3 w
      simpa [hs, h3] using this
theorem stateOf (v : Int) (h0 : 0 ≤ v) (h1 : v < 18446744073709551616) (w : World) : Calls Try.prog 80 #[.int .u64 v] w (RetB (.int .i64 (v % 16)) w) := by
  have HU := Lib.hid (unslabP v h0 h1)
  go_enter Try.func80, Try.ntmps80
  go_wp2_with fail
  refine (HU.out _).mono ?_
  rintro r w1 ⟨rfl, hb1⟩
  go_wp2
  go_ret
  exact ⟨rfl, hb1⟩
theorem cells_of {w : World} {blk k : Nat} {u : Value} (h : w.cell? ⟨blk, k, none⟩ = some u) : ∃ c e fr, w.heap[blk]? = some (.cells c e fr) ∧ c[k]? = some u := by
  unfold World.cell? at h
  simp only at h
  split at h
  · rename_i c e fr hb
    exact ⟨c, e, fr, hb, h⟩
  · simp at h
theorem cell_lt {w : World} {b o : Nat} {v : Value} (h : w.cell? ⟨b, o, none⟩ = some v) : b < w.heap.size := by
  obtain ⟨c, e, fr, hb, _⟩ := cells_of h
  exact (Array.getElem?_eq_some_iff.1 hb).1
theorem getD_range {L : List Int} (hL : ∀ x ∈ L, 0 ≤ x ∧ x < 18446744073709551616) (i : Nat) : 0 ≤ L.getD i 0 ∧ L.getD i 0 < 18446744073709551616 := by
  rw [List.getD_eq_getElem?_getD]
  by_cases h : i < L.length
  · rw [List.getElem?_eq_getElem h]
    exact hL _ (List.getElem_mem h)
  · rw [List.getElem?_eq_none (by omega)]
    simp
theorem wrdV_range {c : Cfg} {L : List Int} (hL : ∀ x ∈ L, 0 ≤ x ∧ x < 18446744073709551616) (k : Int) : 0 ≤ wrdV c L k ∧ wrdV c L k < 18446744073709551616 := by
  unfold wrdV
  split
  · exact getD_range hL _
  · simp
def gonB (c : Cfg) (L : List Int) (k : Int) : Bool := wrdB c L k && decide (wrdV c L k % 16 = 3) && rdyB (wrdV c L k) (L.getD 0 0)
set_option maxRecDepth 10000 in
set_option maxHeartbeats 2000000 in
theorem stateW (c : Cfg) (hf : c.Wf) {L : List Int} {v : Sl} {w : World} (hr : Reads w .u64 v.v L) (hL : ∀ x ∈ L, 0 ≤ x ∧ x < 18446744073709551616) (k : Int) {V : Int} (hV : wrdV c L k = V) {B : Bool} (hB : wrdB c L k = B) : Calls Try.prog 32 #[cv c, v.v, .int .i64 k] w (RetB (.int .i64 (V % 16)) w) := by
  have hVr := wrdV_range (c := c) hL k
  rw [hV] at hVr
  have C0 := Bk.new w (ccM c) 24
  have hw0 : Below w.heap.size w (w.alloc (.cells (ccM c) 24)) := (Below.refl _ _).alloc (Nat.le_refl _) _
  have hWd := word c hf (hr.keep hw0) hL k
  unfold WrdPost at hWd
  rw [hV, hB] at hWd
  have HWD := Lib.hid hWd
  clear hWd
  go_enter Try.func32, Try.ntmps32
  go_wp2_with (refine wpList_load_row rfl 24 _ rfl w.heap.size rfl _ (ccM c) (0, 0) _ (by exact C0) Try.underlying24 rfl (by kernel_rfl) ?_)
  refine HWD.out.mono ?_
  rintro e w1 ⟨rfl, hb1⟩
  have hw1 := hw0.trans (hb1.mono hw0.size)
  clear C0 hb1
  go_wp2_with fail
  refine (stateOf V hVr.1 hVr.2 _).mono ?_
  rintro e w2 ⟨rfl, hb2⟩
  have hw2 := hw1.trans (hb2.mono hw1.size)
  go_wp2
  go_ret
  exact ⟨rfl, hw2⟩
end Go.Proofs.Ytblkfbbdeodpjaa.Me

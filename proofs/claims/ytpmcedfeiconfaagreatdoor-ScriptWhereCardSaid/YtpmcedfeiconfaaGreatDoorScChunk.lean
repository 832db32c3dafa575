/- Layer 21: what slices.Chunk hands to a loop's body. -/
import Derived.Test.YtpmcedfeiconfaaGreatDoorWords
import Derived.Test.YtpmcedfeiconfaaGreatDoorGrow
import Derived.RangeFuncNested
import Derived.RangeFuncBound
import Derived.RangeFuncCalls
import Derived.RangeFuncLeaves
import Derived.Shelf.Abstract
import Derived.Shelf.RegionOpen
import Derived.WalkKit
import Derived.OwnWalkIn
import Derived.TacticsInMore
import Derived.LoopNIn
import Derived.LoopIn
namespace Go.Proofs.YtpmcedfeiconfaaGreatDoor.Scc
open Go Go.RowKit Go.Shelf Go.Proofs.YtpmcedfeiconfaaGreatDoor.Gro Go.Proofs.YtpmcedfeiconfaaGreatDoor.Own Go.Proofs.YtpmcedfeiconfaaGreatDoor.Wd
set_option linter.unusedVariables false
set_option linter.unusedSimpArgs false
attribute [local go_sem] Oper.semAt_some
/-- The piece with number i. -/
abbrev pieceV (b off len i : Nat) : Value := .slice (some ⟨b, off + 20 * i, none⟩) (min 20 (len - 20 * i)) (min 20 (len - 20 * i))
/-- What the pieces hang on: the two boxes. -/
def Kp (hs hn : Nat) (W W' : World) : Prop := W'.heap[hs]? = W.heap[hs]? ∧ W'.heap[hn]? = W.heap[hn]?
theorem Kp.refl (hs hn : Nat) (W : World) : Kp hs hn W W := ⟨rfl, rfl⟩
theorem Kp.trans {hs hn : Nat} {A B C : World} (h : Kp hs hn A B) (k : Kp hs hn B C) : Kp hs hn A C := ⟨k.1.trans h.1, k.2.trans h.2⟩
theorem Kp.of {hs hn : Nat} {W W' : World} (h : Below W.heap.size W W') (h1 : hs < W.heap.size) (h2 : hn < W.heap.size) : Kp hs hn W W' := ⟨h.block hs h1, h.block hn h2⟩
theorem Kp.cell1 {hs hn : Nat} {W W' : World} (h : Kp hs hn W W') : W'.cell? ⟨hs, 0, none⟩ = W.cell? ⟨hs, 0, none⟩ := World.cell?_of_block h.1
theorem Kp.cell2 {hs hn : Nat} {W W' : World} (h : Kp hs hn W W') : W'.cell? ⟨hn, 0, none⟩ = W.cell? ⟨hn, 0, none⟩ := World.cell?_of_block h.2
set_option maxRecDepth 100000 in
set_option maxHeartbeats 8000000 in
theorem chunk_stops (n hs hn b off len cap m : Nat) (w : World) (hs1 : w.cell? ⟨hs, 0, none⟩ = some (.slice (some ⟨b, off, none⟩) len cap)) (hn1 : w.cell? ⟨hn, 0, none⟩ = some (.int .i64 20)) (hlc : len ≤ cap) (hcm : cap ≤ maxLen) (hm : m = (len + 19) / 20) (h1 : hs < w.heap.size) (h2 : hn < w.heap.size) (hlm : len ≤ 1000000) :
    SeqStopsK Fence.wide (n + 1) Tryz.prog 43 #[.pointer (some ⟨hs, 0, none⟩), .pointer (some ⟨hn, 0, none⟩)] (fun i : Nat => #[pieceV b off len i]) (Kp hs hn) (fun xs => xs = List.range m) (fun _ => True) m w := by
  intro l J Jx W hW hJ hJx hY h0
  have c1 : W.cell? ⟨hs, 0, none⟩ = some (.slice (some ⟨b, off, none⟩) len cap) := (hW.cell (p := ⟨hs, 0, none⟩) h1).trans hs1
  have c2 : W.cell? ⟨hn, 0, none⟩ = some (.int .i64 20) := (hW.cell (p := ⟨hn, 0, none⟩) h2).trans hn1
  have L1 : hs < W.heap.size := Nat.lt_of_lt_of_le h1 hW.size
  have L2 : hn < W.heap.size := Nat.lt_of_lt_of_le h2 hW.size
  have WS := Lib.hid hW.size
  unfold maxLen at hcm
  have HM := Lib.hid hm
  have HY := Lib.hid hY
  have C1 := Lib.hid c1
  have C2 := Lib.hid c2
  clear hm hY c1 c2 hs1 hn1 hW
  refine callsIn_of_wp Tryz.func43 rfl trivial ?_ rfl
  simp only [Tryz.ntmps43, List.size_toArray, List.length_cons, List.length_nil, Nat.reduceAdd, Nat.reduceSub, Array.replicate_succ, Array.replicate_zero, List.push_toArray, List.append_toArray, List.nil_append, List.cons_append]
  gi_wp2
  gi_loopw [4] (fun p wr => ∃ k q : Nat, p = .int .i64 (q : Int) ∧ RowKit.Hid (q = 20 * k) ∧ q < len + 20 ∧ RowKit.Hid (J (List.range k) wr) ∧ RowKit.Hid (Kp hs hn W wr)) (fun p _ => len + 20 - (intOf p).toNat)
  case atStart => exact ⟨0, 0, rfl, Lib.hid rfl, by omega, Lib.hid h0, Lib.hid (Kp.refl _ _ _)⟩
  case round =>
    obtain ⟨k, q, rfl, HQ, hq, HJ, HW⟩ := hrel
    have d1 : wr.cell? ⟨hs, 0, none⟩ = some (.slice (some ⟨b, off, none⟩) len cap) := HW.out.cell1.trans C1.out
    have d2 : wr.cell? ⟨hn, 0, none⟩ = some (.int .i64 20) := HW.out.cell2.trans C2.out
    by_cases hlt : q < len
    · have hkm : (List.range k).length < m := by
        rw [List.length_range]
        have h1 := HQ.out
        have h2 := HM.out
        omega
      obtain ⟨e, he⟩ : ∃ e, e = min 20 (len - q) := ⟨_, rfl⟩
      have hpc : pieceV b off len k = .slice (some ⟨b, off + q, none⟩) e e := by unfold pieceV; rw [← HQ.out, ← he]
      have hml : ((len - q : Nat) : Int) = (len : Int) - (q : Int) := by omega
      have hif : (if (len : Int) - (q : Int) < 20 then (len : Int) - (q : Int) else 20) = (e : Int) := by split <;> omega
      have hge : (q : Int) ≤ (len : Int) := by omega
      have hgc : (q : Int) ≤ (cap : Int) := by omega
      have hqe : (q : Int) + (e : Int) ≤ (cap : Int) := by omega
      have he0 : 0 < e := by omega
      have HE := Lib.hid he
      have HPC := Lib.hid hpc
      have HIF := Lib.hid hif
      have HKM := Lib.hid hkm
      clear hpc he hkm hif
      have l1 : hs < wr.heap.size := World.block_lt_of_cell? wr ⟨hs, 0, none⟩ d1
      have l2 : hn < wr.heap.size := World.block_lt_of_cell? wr ⟨hn, 0, none⟩ d2
      gi_wp2
      refine wpIn_wide.2 ?_
      refine wp_region_grown (by kernel_rfl) (by kernel_rfl) ?_
      have hg := @gcell
      repeat (go_big_quiet_step (fail))
      refine wpQuiet_nil ?_
      rintro w3 ⟨⟨_, hb3⟩, rfl⟩
      have G3 : wr.grownBy w3 none := ⟨hb3.os, hb3.tape, hb3.output, hb3.size, fun k hk _ => hb3.block k hk⟩
      have J3 := hJ (List.range k) wr w3 none HJ.out G3 (fun r e => by cases e)
      have hYY := HY.out (List.range k) k w3 J3 HKM.out
      rw [HPC.out] at hYY
      obtain ⟨fn, tmps, assign, body, hy, hR⟩ := hYY
      have HR := Lib.hid hR
      have HW3 : RowKit.Hid (Kp hs hn W w3) := Lib.hid (HW.out.trans (Kp.of hb3 l1 l2))
      have d3 : w3.cell? ⟨hs, 0, none⟩ = some (.slice (some ⟨b, off, none⟩) len cap) := (hb3.cell (p := ⟨hs, 0, none⟩) l1).trans d1
      have d4 : w3.cell? ⟨hn, 0, none⟩ = some (.int .i64 20) := (hb3.cell (p := ⟨hn, 0, none⟩) l2).trans d2
      rw [HIF.out]
      clear hb3 G3 J3 hR d1 d2 hg l1 l2
      gi_wp2
      refine HR.out.mono ?_
      rintro e1 W' (⟨rfl, hJ', hk⟩ | ⟨rfl, hJx'⟩)
      · have d5 : W'.cell? ⟨hn, 0, none⟩ = some (.int .i64 20) := hk.cell2.trans d4
        have HW5 := Lib.hid (HW3.out.trans hk)
        have HJ5 : RowKit.Hid (J (List.range (k + 1)) W') := Lib.hid (by rw [List.range_succ]; exact hJ')
        have hsum : IntKind.i64.wrap ((q : Int) + 20) = (q : Int) + 20 := IntWalk.i64_in _ (by omega)
        clear hJ' hk d3 d4
        gi_wp2
        go_roundw
        case rel => exact ⟨k + 1, q + 20, by go_num, Lib.hid (by have := HQ.out; omega), by omega, HJ5, HW5⟩
        case measure => simp [intOf]; omega
      · have HJX := Lib.hid hJx'
        clear hJx'
        gi_wp2
        refine bodyPost_ret (results_none rfl _ _ _) rfl ?_
        exact ⟨⟨_, rfl⟩, .inr ⟨_, trivial, HJX.out⟩⟩
    · gi_wp2
      go_end0
      refine ⟨⟨_, rfl⟩, .inl ⟨List.range k, ?_, HJ.out⟩⟩
      have e : k = m := by have h1 := HQ.out; have h2 := HM.out; omega
      rw [e]
set_option maxRecDepth 100000 in
set_option maxHeartbeats 8000000 in
theorem chunk_stops0 (n hs hn cap : Nat) (ad : Option Addr) (V : Nat → Value) (w : World) (hs1 : w.cell? ⟨hs, 0, none⟩ = some (.slice ad 0 cap)) (hn1 : w.cell? ⟨hn, 0, none⟩ = some (.int .i64 20)) (h1 : hs < w.heap.size) (h2 : hn < w.heap.size) :
    SeqStopsK Fence.wide (n + 1) Tryz.prog 43 #[.pointer (some ⟨hs, 0, none⟩), .pointer (some ⟨hn, 0, none⟩)] (fun i : Nat => #[V i]) (Kp hs hn) (fun xs => xs = List.range 0) (fun _ => True) 0 w := by
  intro l J Jx W hW hJ hJx hY h0
  have c1 : W.cell? ⟨hs, 0, none⟩ = some (.slice ad 0 cap) := (hW.cell (p := ⟨hs, 0, none⟩) h1).trans hs1
  have HJ := Lib.hid h0
  clear hY hs1 hn1 hW
  refine callsIn_of_wp Tryz.func43 rfl trivial ?_ rfl
  simp only [Tryz.ntmps43, List.size_toArray, List.length_cons, List.length_nil, Nat.reduceAdd, Nat.reduceSub, Array.replicate_succ, Array.replicate_zero, List.push_toArray, List.append_toArray, List.nil_append, List.cons_append]
  gi_wp2
  gi_loopw [4] (fun p wr => p = .int .i64 0 ∧ wr = W) (fun p _ => 0)
  case atStart => exact ⟨rfl, rfl⟩
  case round =>
    obtain ⟨rfl, rfl⟩ := hrel
    gi_wp2
    go_end0
    exact ⟨⟨_, rfl⟩, .inl ⟨List.range 0, rfl, HJ.out⟩⟩
end Go.Proofs.YtpmcedfeiconfaaGreatDoor.Scc

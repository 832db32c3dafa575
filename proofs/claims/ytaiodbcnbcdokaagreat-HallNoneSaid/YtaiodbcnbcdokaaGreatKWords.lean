/- Part Words. -/
import Derived.Test.YtaiodbcnbcdokaaGreatKGrow
import Derived.Test.YtaiodbcnbcdokaaGreatKBk
import Derived.Test.YtaiodbcnbcdokaaGreatKOwn
import Derived.WalkKit
import Derived.LoopTactic
import Derived.Lib.Hide
import Derived.Outline
import Derived.Test.YtaiodbcnbcdokaaGreatRows
set_option linter.unusedVariables false
set_option linter.unusedSimpArgs false
set_option linter.unusedSectionVars false
set_option maxRecDepth 100000
set_option maxHeartbeats 16000000
namespace Go.Proofs.YtaiodbcnbcdokaaGreat.Wd
open Go Go.RowKit Gro Own
def iv (k : IntKind) (l : List Int) : Array Value := (l.map (Value.int k)).toArray
theorem iv_get {k : IntKind} {l : List Int} {i : Nat} (h : i < l.length) : (iv k l)[i]? = some (.int k l[i]) := by simp [iv, h]
theorem iv_set (k : IntKind) (l : List Int) (i : Nat) (x : Int) : (iv k l).setIfInBounds i (.int k x) = iv k (l.set i x) := by
 simp [iv]
theorem iv_replicate (k : IntKind) (n : Nat) (x : Int) : iv k (List.replicate n x) = Array.replicate n (.int k x) := by simp [iv]
theorem iv_toList (k : IntKind) (l : List Int) : (iv k l).toList = l.map (Value.int k) := by simp [iv]
def Reads (w : World) (k : IntKind) (v : Value) (l : List Int) : Prop :=
 ∃ ad cap, v = .slice ad l.length cap ∧ l.length ≤ cap ∧ cap ≤ maxLen ∧ (l = [] ∨ ∃ b off, ad = some ⟨b, off, none⟩ ∧ b < w.heap.size ∧ ∀ i (h : i < l.length), w.cell? ⟨b, off + i, none⟩ = some (.int k l[i]))
theorem Reads.keep {w w' : World} {k : IntKind} {v : Value} {l : List Int} (h : Reads w k v l) (hb : Below w.heap.size w w') : Reads w' k v l := by
 obtain ⟨ad, cap, rfl, h1, h2, h3⟩ := h
 refine ⟨ad, cap, rfl, h1, h2, ?_⟩
 rcases h3 with h3 | ⟨b, off, rfl, hl, hc⟩
 ·exact .inl h3
 ·exact .inr ⟨b, off, rfl, Nat.lt_of_lt_of_le hl hb.size, fun i hi => (hb.cell (p := ⟨b, off + i, none⟩) hl).trans (hc i hi)⟩
theorem Reads.nil (w : World) (k : IntKind) : Reads w k (.slice none 0 0) [] := ⟨none, 0, rfl, Nat.le_refl _, Nat.zero_le _, .inl rfl⟩
theorem Reads.dn {w : World} {k : IntKind} {g : Nat} {l : List Int} {t : TypeId} (h : Bk w g (iv k l) t) (hl : l.length ≤ maxLen) : Reads w k (.slice (some ⟨g, 0, none⟩) l.length l.length) l :=
 ⟨_, _, rfl, Nat.le_refl _, hl, .inr ⟨g, 0, rfl, h.lt, fun i hi => by rw [Nat.zero_add, h.cells i, iv_get hi]⟩⟩
theorem Reads.of_own {w : World} {k : IntKind} {base n : Nat} {e : TypeId} {v : Value} {l : List Int} (h : w.ownsRow base e 1 v n (l.map (Value.int k))) (hn : n = l.length) : Reads w k v l := by
 subst hn
 by_cases h0 : 0 < l.length
 ·obtain ⟨g, cap, rfl, _, hlt, h1, h2, hc⟩ := eG h h0
  refine ⟨_, _, rfl, h1, h2, .inr ⟨g, 0, rfl, hlt, fun i hi => ?_⟩⟩
  rw [Nat.zero_add, hc i qa4g]
  simp [hi]
 ·have e : l = [] := List.eq_nil_of_length_eq_zero aj
  subst e
  rcases h.2 with ⟨rfl, _⟩ | ⟨g, cap, cur, rfl, _, _, h1, h2, _⟩
  ·exact Reads.nil w k
  ·exact ⟨_, _, rfl, h1, h2, .inl rfl⟩
theorem gB {a b : Bool} (h : a = b) : Ending.returned (.bool a) = .returned (.bool b) := by rw [h]
theorem eq_upto {l1 l2 : List Int} (hlen : l1.length = l2.length) (h : ∀ i (h1 : i < l1.length), l1[i] = l2[i]'aj) : l1 = l2 := List.ext_getElem hlen fun i h1 _ => h i h1
theorem same_ne (a1 a2 : Option Addr) (n1 n2 c1 c2 : Nat) (h : n1 ≠ n2) (w : World) : Calls Tryz.prog 33 #[.slice a1 n1 c1, .slice a2 n2 c2] w fun e w' => e = .returned (.bool false) ∧ Below w.heap.size w w' := by
 have hne : ((n1 : Int) != (n2 : Int)) = true := bq
 go_enter Tryz.func33, Tryz.ntmps33
 exact qa1t
theorem same_zero (a1 a2 : Option Addr) (c1 c2 : Nat) (w : World) : Calls Tryz.prog 33 #[.slice a1 0 c1, .slice a2 0 c2] w fun e w' => e = .returned (.bool true) ∧ Below w.heap.size w w' := by
 go_enter Tryz.func33, Tryz.ntmps33
 go_wp2
 refine wp_loop_rounds 1 ?_
 rw [rounds_succ]
 exact qa1t
theorem same_pos (b1 o1 b2 o2 c1 c2 : Nat) (l1 l2 : List Int) (hlen : l1.length = l2.length) (w : World) (hm : l1.length ≤ maxLen)
  (h1 : ∀ i (h : i < l1.length), w.cell? ⟨b1, o1 + i, none⟩ = some (.int .u64 l1[i])) (h2 : ∀ i (h : i < l2.length), w.cell? ⟨b2, o2 + i, none⟩ = some (.int .u64 l2[i])) :
  Calls Tryz.prog 33 #[.slice (some ⟨b1, o1, none⟩) l1.length c1, .slice (some ⟨b2, o2, none⟩) l1.length c2] w fun e w' => e = .returned (.bool (decide (l1 = l2))) ∧ Below w.heap.size w w' := by
 unfold maxLen at hm
 have H1 := Lib.hid h1
 have H2 := Lib.hid h2
 have HL := Lib.hid hlen
 clear h1 h2 hlen
 go_enter Tryz.func33, Tryz.ntmps33
 go_wp2
 go_loopw [5] (fun i wr => ∃ k : Nat, k ≤ l1.length ∧ i = .int .i64 k ∧ (∀ j (h : j < k) (h1 : j < l1.length), l1[j] = l2[j]'(by have := HL.out; omega)) ∧ ∃ n, wr = w.drewN n) (fun i _ => l1.length - (intOf i).toNat)
 case atStart => exact ⟨0, Nat.zero_le _, rfl, fun j h => by omega, 0, rfl⟩
 case round =>
  obtain ⟨k, hk, rfl, hall, n, rfl⟩ := hrel
  have HA := Lib.hid hall
  clear hall
  by_cases hlt : k < l1.length
  ·exact qa2x
  ·exact qa2y
theorem same {w : World} {v1 v2 : Value} {l1 l2 : List Int} (h1 : Reads w .u64 v1 l1) (h2 : Reads w .u64 v2 l2) : Calls Tryz.prog 33 #[v1, v2] w fun e w' => e = .returned (.bool (decide (l1 = l2))) ∧ Below w.heap.size w w' := by
 obtain ⟨a1, c1, rfl, hc1, hm1, h1⟩ := h1
 obtain ⟨a2, c2, rfl, hc2, hm2, h2⟩ := h2
 by_cases hlen : l1.length = l2.length
 ·rcases h1 with rfl | ⟨b1, o1, rfl, _, h1⟩
  ·have : l2 = [] := List.eq_nil_of_length_eq_zero (by simpa using hlen.symm)
   subst this
   exact same_zero a1 a2 c1 c2 w
  ·rcases h2 with rfl | ⟨b2, o2, rfl, _, h2⟩
   ·have : l1 = [] := List.eq_nil_of_length_eq_zero (by simpa using hlen)
    subst this
    exact same_zero _ a2 c1 c2 w
   ·rw [← hlen]
    exact same_pos b1 o1 b2 o2 c1 c2 l1 l2 hlen w aj h1 h2
 ·have hd : decide (l1 = l2) = false := decide_eq_false (fun e => hlen (by rw [e]))
  rw [hd]
  exact same_ne a1 a2 _ _ c1 c2 hlen w
theorem ints_ne (a1 a2 : Option Addr) (n1 n2 c1 c2 : Nat) (h : n1 ≠ n2) (w : World) : Calls Tryz.prog 102 #[.slice a1 n1 c1, .slice a2 n2 c2] w fun e w' => e = .returned (.bool false) ∧ Below w.heap.size w w' := by
 have hne : ((n1 : Int) != (n2 : Int)) = true := bq
 go_enter Tryz.func102, Tryz.ntmps102
 exact qa1t
theorem ints_zero (a1 a2 : Option Addr) (c1 c2 : Nat) (w : World) : Calls Tryz.prog 102 #[.slice a1 0 c1, .slice a2 0 c2] w fun e w' => e = .returned (.bool true) ∧ Below w.heap.size w w' := by
 go_enter Tryz.func102, Tryz.ntmps102
 go_wp2
 refine wp_loop_rounds 1 ?_
 rw [rounds_succ]
 exact qa1t
theorem ints_pos (b1 o1 b2 o2 c1 c2 : Nat) (l1 l2 : List Int) (hlen : l1.length = l2.length) (w : World) (hm : l1.length ≤ maxLen)
  (h1 : ∀ i (h : i < l1.length), w.cell? ⟨b1, o1 + i, none⟩ = some (.int .i64 l1[i])) (h2 : ∀ i (h : i < l2.length), w.cell? ⟨b2, o2 + i, none⟩ = some (.int .i64 l2[i])) :
  Calls Tryz.prog 102 #[.slice (some ⟨b1, o1, none⟩) l1.length c1, .slice (some ⟨b2, o2, none⟩) l1.length c2] w fun e w' => e = .returned (.bool (decide (l1 = l2))) ∧ Below w.heap.size w w' := by
 unfold maxLen at hm
 have H1 := Lib.hid h1
 have H2 := Lib.hid h2
 have HL := Lib.hid hlen
 clear h1 h2 hlen
 go_enter Tryz.func102, Tryz.ntmps102
 go_wp2
 go_loopw [5] (fun i wr => ∃ k : Nat, k ≤ l1.length ∧ i = .int .i64 k ∧ (∀ j (h : j < k) (h1 : j < l1.length), l1[j] = l2[j]'(by have := HL.out; omega)) ∧ ∃ n, wr = w.drewN n) (fun i _ => l1.length - (intOf i).toNat)
 case atStart => exact ⟨0, Nat.zero_le _, rfl, fun j h => by omega, 0, rfl⟩
 case round =>
  obtain ⟨k, hk, rfl, hall, n, rfl⟩ := hrel
  have HA := Lib.hid hall
  clear hall
  by_cases hlt : k < l1.length
  ·exact qa2x
  ·exact qa2y
theorem ints {w : World} {v1 v2 : Value} {l1 l2 : List Int} (h1 : Reads w .i64 v1 l1) (h2 : Reads w .i64 v2 l2) : Calls Tryz.prog 102 #[v1, v2] w fun e w' => e = .returned (.bool (decide (l1 = l2))) ∧ Below w.heap.size w w' := by
 obtain ⟨a1, c1, rfl, hc1, hm1, h1⟩ := h1
 obtain ⟨a2, c2, rfl, hc2, hm2, h2⟩ := h2
 by_cases hlen : l1.length = l2.length
 ·rcases h1 with rfl | ⟨b1, o1, rfl, _, h1⟩
  ·have : l2 = [] := List.eq_nil_of_length_eq_zero (by simpa using hlen.symm)
   subst this
   exact ints_zero a1 a2 c1 c2 w
  ·rcases h2 with rfl | ⟨b2, o2, rfl, _, h2⟩
   ·have : l1 = [] := List.eq_nil_of_length_eq_zero (by simpa using hlen)
    subst this
    exact ints_zero _ a2 c1 c2 w
   ·rw [← hlen]
    exact ints_pos b1 o1 b2 o2 c1 c2 l1 l2 hlen w aj h1 h2
 ·have hd : decide (l1 = l2) = false := decide_eq_false (fun e => hlen (by rw [e]))
  rw [hd]
  exact ints_ne a1 a2 _ _ c1 c2 hlen w
theorem make_row {P : Program} {ops : Array Oper} {rest : List Oper} {o : Oper} {a : Act} {w : World} {Q : Exit → Act → World → Prop} {t e : TypeId} {bytes : Nat} {k : IntKind}
  (E : P.underlying t = some (.slice e)) (hE : ∃ i, P.info? e = some i ∧ i.zero = some (.int k 0) ∧ i.size = 1 ∧ i.bytes = bytes) (hby : bytes ≤ 1024) (hg : o.guard = none) (l c : Operand) (ho : o.op = .makeSlice t l c)
  (n : Nat) (hl : a.eval l = .int .i64 (n : Int)) (hc : a.eval c = .int .i64 (n : Int)) (hn : n ≤ 1000000)
  (h : wpList P ops Q rest (a.put o.dst (.slice (some ⟨w.heap.size, 0, none⟩) n n)) (w.alloc (.cells (iv k (List.replicate n 0)) e))) : wpList P ops Q (o :: rest) a w := by
 obtain ⟨i, hi, hz, hs, hb⟩ := hE
 have hr := run_make (P := P) w t e i (.int k 0) E hi hz .i64 .i64 (n : Int) (n : Int) aj (Int.le_refl _) (by
  rw [hb]
  have : bytes * n ≤ 1024 * 1000000 := Nat.mul_le_mul hby hn
  have h2 : ((bytes * n : Nat) : Int) ≤ 1024000000 := aj
  rw [Int.natCast_mul] at h2; omega) aj
 simp only [Int.toNat_natCast, hs, Nat.mul_one] at hr
 have hm : madeCells (Value.cells (.int k 0)) n = iv k (List.replicate n 0) := by
  rw [iv_replicate]
  apply Array.ext
  ·simp [madeCells]
  ·intro j h1 h2
   simp [madeCells, Value.cells, Nat.mod_one]
 rw [hm] at hr
 refine wpList_plain hg fun K hK' => ?_
 unfold Oper.wp
 simp [execOp, ho, hl, hc, hr, Result.andThen]
 exact hK' _ _ h
end Go.Proofs.YtaiodbcnbcdokaaGreat.Wd

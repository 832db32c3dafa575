/- Layer 12: reading numbers and tickets (oper.readWord, readIndex, readTicket). -/
import Derived.Test.YtpmcedfeiconfaaGreatDoorOpRefText
import Derived.WalkSmall
import Derived.WalkMore
import Derived.LoopN
import Derived.Scope
import Derived.Test.YtpmcedfeiconfaaGreatDoorRows2
namespace Go.Proofs.YtpmcedfeiconfaaGreatDoor.Opw
open Go Go.RowKit Go.ChangeMaps Go.Proofs.YtpmcedfeiconfaaGreatDoor.Gro Go.Proofs.YtpmcedfeiconfaaGreatDoor.Own Go.Proofs.YtpmcedfeiconfaaGreatDoor.Mr Go.Proofs.YtpmcedfeiconfaaGreatDoor.Opn
set_option linter.unusedVariables false
set_option linter.unusedSimpArgs false
/-- All blocks that were there are as they were, but for one. -/
structure Oth (g : Nat) (w w' : World) : Prop where
  os : w'.os = w.os
  tape : w'.tape = w.tape
  output : w'.output = w.output
  size : w.heap.size ≤ w'.heap.size
  block : ∀ i, i < w.heap.size → i ≠ g → w'.heap[i]? = w.heap[i]?
section
variable {g : Nat} {w0 w w' w'' : World}
theorem Oth.refl (g : Nat) (w : World) : Oth g w w := ⟨rfl, rfl, rfl, Nat.le_refl _, fun _ _ _ => rfl⟩
theorem Oth.of (h : Below w.heap.size w w') : Oth g w w' := ⟨h.os, h.tape, h.output, h.size, fun i hi _ => h.block i hi⟩
theorem Oth.trans (h : Oth g w w') (k : Oth g w' w'') : Oth g w w'' := ⟨k.os.trans h.os, k.tape.trans h.tape, k.output.trans h.output, Nat.le_trans h.size k.size, fun i hi hg => (k.block i (Nat.lt_of_lt_of_le hi h.size) hg).trans (h.block i hi hg)⟩
theorem Oth.cell (h : Oth g w w') (j : Nat) (v : Value) : Oth g w (w'.setCell ⟨g, j, none⟩ v) := ⟨h.os, h.tape, h.output, by simpa using h.size, fun i hi hg => (heap_setCell_other w' _ i v (show i ≠ g from hg)).trans (h.block i hi hg)⟩
theorem Oth.below {B : Nat} (h : Oth g w w') (hB : B ≤ g) (hw : B ≤ w.heap.size) : Below B w w' := ⟨h.os, h.tape, h.output, h.size, fun i hi => h.block i (by omega) (by omega)⟩
theorem Oth.bk {k : Nat} {cs : Array Value} {t : TypeId} (h : Oth g w w') (X : Bk w k cs t) (hk : k ≠ g) : Bk w' k cs t := (h.block k X.lt hk).trans X
theorem Oth.lb (h : Oth g w w') (hg : w0.heap.size ≤ g) (hw : w0.heap.size ≤ w.heap.size) (L : Lb w0) (hb : Below w0.heap.size w0 w) : Lb w' := L.keep (hb.trans (h.below hg hw))
end
theorem fReadWord (s : ByteArray) (hs : s.size ≤ 281474976710656) (w : World) (L : Lb w) (g j : Nat) (cs : Array Value) (X : Bk w g cs 50) (old : Value) (hj : cs[j]? = some old) :
    Calls Tryz.prog 97 #[.string s, .pointer (some ⟨g, j, none⟩)] w fun e w' => ∃ v : Int, Bk w' g (cs.setIfInBounds j (.int .u64 v)) 50 ∧ Oth g w w' ∧ 0 ≤ v ∧ v ≤ 18446744073709551615 ∧ e = .returned (.bool (rdN 64 s.data.toList).isSome) ∧ ∀ u : Nat, rdN 64 s.data.toList = some u → v = u := by
  have HP := Lib.hid (fParse64 s hs w L)
  have hlt := X.lt
  go_enter Tryz.func97, Tryz.ntmps97
  go_wp2_with fail
  refine HP.out.mono ?_
  rintro e w1 ⟨v, er, rfl, hb1, h0, h1, hor⟩
  have X1 := X.keep hb1
  have hlt1 := X1.lt
  have x1 := X1.cells
  have xf := X1.frozen
  have hc : w1.cell? ⟨g, j, none⟩ = some old := (x1 j).trans hj
  have HV := Lib.hid (And.intro h0 h1)
  rcases hor with ⟨u, hr, rfl, rfl⟩ | ⟨hr, t, p, rfl⟩
  · have HR := Lib.hid hr
    clear hr h0 h1 x1 HP
    go_wp2
    go_ret
    exact ⟨u, X1.setCell j _, (Oth.of hb1).cell j _, HV.out.1, HV.out.2, by rw [HR.out]; rfl, fun u' hu' => by rw [HR.out] at hu'; cases hu'; rfl⟩
  · have HR := Lib.hid hr
    clear hr h0 h1 x1 HP
    go_wp2
    go_ret
    exact ⟨v, X1.setCell j _, (Oth.of hb1).cell j _, HV.out.1, HV.out.2, by rw [HR.out]; rfl, fun u' hu' => by rw [HR.out] at hu'; cases hu'⟩
theorem fReadIndex (s : ByteArray) (hs : s.size ≤ 281474976710656) (w : World) (L : Lb w) (g j : Nat) (cs : Array Value) (X : Bk w g cs 50) (old : Value) (hj : cs[j]? = some old) :
    Calls Tryz.prog 99 #[.string s, .pointer (some ⟨g, j, none⟩)] w fun e w' => ∃ v : Int, Bk w' g (cs.setIfInBounds j (.int .i64 v)) 50 ∧ Oth g w w' ∧ 0 ≤ v ∧ v ≤ 9223372036854775807 ∧ e = .returned (.bool (rdN 63 s.data.toList).isSome) ∧ ∀ u : Nat, rdN 63 s.data.toList = some u → v = u := by
  have HP := Lib.hid (fParse63 s hs w L)
  have hlt := X.lt
  go_enter Tryz.func99, Tryz.ntmps99
  go_wp2_with fail
  refine HP.out.mono ?_
  rintro e w1 ⟨v, er, rfl, hb1, h0, h1, hor⟩
  have X1 := X.keep hb1
  have hlt1 := X1.lt
  have x1 := X1.cells
  have xf := X1.frozen
  have hc : w1.cell? ⟨g, j, none⟩ = some old := (x1 j).trans hj
  have h2 : v ≤ 9223372036854775807 := by have : ((2 ^ 63 - 1 : Nat) : Int) = 9223372036854775807 := by decide
                                          omega
  have HV := Lib.hid (And.intro h0 h2)
  rcases hor with ⟨u, hr, rfl, rfl⟩ | ⟨hr, t, p, rfl⟩
  · have HR := Lib.hid hr
    clear hr h1 x1 HP
    go_wp2
    go_ret
    exact ⟨u, X1.setCell j _, (Oth.of hb1).cell j _, HV.out.1, HV.out.2, by rw [HR.out]; rfl, fun u' hu' => by rw [HR.out] at hu'; cases hu'; rfl⟩
  · have HR := Lib.hid hr
    clear hr h1 x1 HP
    go_wp2
    go_ret
    exact ⟨v, X1.setCell j _, (Oth.of hb1).cell j _, HV.out.1, HV.out.2, by rw [HR.out]; rfl, fun u' hu' => by rw [HR.out] at hu'; cases hu'⟩
end Go.Proofs.YtpmcedfeiconfaaGreatDoor.Opw

/- Layer 12: oper.readTicket and the closures of oper.read. -/
namespace Go.Proofs.YtpmcedfeiconfaaGreatDoor.Opw
open Go Go.RowKit Go.ChangeMaps Go.Proofs.YtpmcedfeiconfaaGreatDoor.Gro Go.Proofs.YtpmcedfeiconfaaGreatDoor.Own Go.Proofs.YtpmcedfeiconfaaGreatDoor.Mr Go.Proofs.YtpmcedfeiconfaaGreatDoor.Opn
set_option linter.unusedVariables false
set_option linter.unusedSimpArgs false
theorem cut_sizes (s p : List UInt8) : (Lib.cut s p).1.length ≤ s.length ∧ (Lib.cut s p).2.1.length ≤ s.length := by
  unfold Lib.cut
  split
  · simp; omega
  · simp
theorem Oth.drewN {g : Nat} (w : World) (n : Nat) : Oth g w (w.drewN n) := ⟨rfl, rfl, rfl, Nat.le_refl _, fun _ _ _ => rfl⟩
theorem bk_drewN {w : World} {g n : Nat} {cs : Array Value} {t : TypeId} (X : Bk w g cs t) : Bk (w.drewN n) g cs t := X
theorem lb_drewN {w : World} {n : Nat} (L : Lb w) : Lb (w.drewN n) := L.keep (below_drewN (Below.refl _ _) n)
/-- The ticket's fields are those that were read, wherever something was read. -/
def TkPost (g : Nat) (o : OpD) (l : List UInt8) (w : World) (e : Ending) (w' : World) : Prop :=
  ∃ o' : OpD, Bk w' g (opC o') 50 ∧ Oth g w w' ∧ e = .returned (.bool (rdT l).isSome) ∧ ∀ q, rdT l = some q → o' = { o with t := q.1, u := q.2.1, b := q.2.2.1, n := q.2.2.2 }
set_option maxRecDepth 100000 in
set_option maxHeartbeats 8000000 in
theorem fReadTicket (s : ByteArray) (hs : s.size ≤ 100000) (w0 w : World) (L0 : Lb w0) (hb0 : Below w0.heap.size w0 w) (g : Nat) (hg0 : w0.heap.size ≤ g) (o : OpD) (X : Bk w g (opC o) 50) (ht : o.t = 0) (hu : o.u = false) (hb : o.b = 0) (hn : o.n = 0) :
    Calls Tryz.prog 95 #[.string s, .pointer (some ⟨g, 0, none⟩)] w (TkPost g o s.data.toList w) := by
  have L := L0.keep hb0
  obtain ⟨k, t, x, sl, u, b, n⟩ := o
  simp only at ht hu hb hn
  subst ht; subst hu; subst hb; subst hn
  obtain ⟨l, hl⟩ : ∃ l, l = s.data.toList := ⟨_, rfl⟩
  have hll : l.length ≤ 100000 := by rw [hl, ← Lib.size_eq]; exact hs
  have HP := Lib.hid (Tryz.strings_CutPrefix s ⟨#[64]⟩ w)
  rw [← hl] at HP ⊢
  have hd : (⟨#[64]⟩ : ByteArray).data.toList = [64] := rfl
  rw [hd] at HP
  have hlt := X.lt
  cases hp : [64].isPrefixOf l with
  | false =>
    have h1 : Lib.hasPrefix l [64] = false := hp
    rw [h1] at HP
    have hr : rdT l = (match rdN 64 l with | some v => some ((v : Int), false, 0, 0) | none => none) := by unfold rdT; rw [hp]; rfl
    have HW := Lib.hid (fReadWord s (by omega) w L g 1 (opC ⟨k, 0, x, sl, false, 0, 0⟩) X (.int .u64 0) rfl)
    rw [← hl] at HW
    have HR := Lib.hid hr
    clear hp h1 hr hl hll hd
    go_enter Tryz.func95, Tryz.ntmps95
    go_wp2_with fail
    refine HP.out.mono ?_
    rintro e w1 ⟨rfl, hw1⟩
    obtain rfl : w1 = w := hw1
    have x0 := X.cells
    go_wp2_with fail
    refine HW.out.mono ?_
    rintro e w2 ⟨v, X2, hO, h0, h1, rfl, hv⟩
    have HV := Lib.hid hv
    clear hv x0
    go_wp2
    go_ret
    refine ⟨⟨k, v, x, sl, false, 0, 0⟩, X2, hO, ?_, ?_⟩
    · rw [HR.out]
      cases rdN 64 l <;> rfl
    · intro q hq
      rw [HR.out] at hq
      cases hc : rdN 64 l with
      | none => rw [hc] at hq; cases hq
      | some u =>
        rw [hc] at hq
        simp only [Option.some.injEq] at hq
        rw [← hq, HV.out u hc]
  | true =>
    have h1 : Lib.hasPrefix l [64] = true := hp
    have h2 : Lib.trimPrefix l [64] = l.drop 1 := by unfold Lib.trimPrefix; rw [h1]; rfl
    obtain ⟨r, hr0⟩ : ∃ r, r = l.drop 1 := ⟨_, rfl⟩
    rw [h1, h2, ← hr0] at HP
    obtain ⟨c1, hc1⟩ : ∃ q, q = (Lib.cut r [46]).1 := ⟨_, rfl⟩
    obtain ⟨c2, hc2⟩ : ∃ q, q = (Lib.cut r [46]).2.1 := ⟨_, rfl⟩
    obtain ⟨c3, hc3⟩ : ∃ q, q = (Lib.cut r [46]).2.2 := ⟨_, rfl⟩
    have hr : rdT l = (if c3 = true then (match rdN 63 c1, rdN 63 c2 with | some b, some n => some ((0 : Int), true, (b : Int), (n : Int)) | _, _ => none) else none) := by
      unfold rdT
      rw [hp, ← hr0, ← hc1, ← hc2, ← hc3]
      rfl
    have hz := cut_sizes r [46]
    rw [← hc1, ← hc2] at hz
    have hdl : r.length ≤ 100000 := by rw [hr0]; simp; omega
    obtain ⟨m, hm⟩ := L.mx
    have HC := Lib.hid (Tryz.strings_Cut ⟨r.toArray⟩ ⟨#[46]⟩ m w (by show r.length < _; omega) hm)
    have e1 : (⟨r.toArray⟩ : ByteArray).data.toList = r := rfl
    have e2 : (⟨#[46]⟩ : ByteArray).data.toList = [46] := rfl
    rw [e1, e2, ← hc1, ← hc2, ← hc3] at HC
    have hz1 : (⟨c1.toArray⟩ : ByteArray).size ≤ 281474976710656 := by show c1.length ≤ _; omega
    have hz2 : (⟨c2.toArray⟩ : ByteArray).size ≤ 281474976710656 := by show c2.length ≤ _; omega
    have HZ1 := Lib.hid hz1
    have HZ2 := Lib.hid hz2
    have HR := Lib.hid hr
    have HL := Lib.hid L
    clear hp h1 h2 hr0 hr hz hdl hc1 hc2 hc3 hm e1 e2 hz1 hz2 hl hll L
    go_enter Tryz.func95, Tryz.ntmps95
    go_wp2_with fail
    refine HP.out.mono ?_
    rintro e w1 ⟨rfl, hw1⟩
    obtain rfl : w1 = w := hw1
    go_wp2_with fail
    refine HC.out.mono ?_
    rintro e w2 ⟨rfl, nn, hw2⟩
    have X2 : Bk w2 g (opC ⟨k, 0, x, sl, false, 0, 0⟩) 50 := by rw [hw2]; exact bk_drewN X
    have O2 : Oth g w1 w2 := by rw [hw2]; exact Oth.drewN w1 nn
    have L2 : Lb w2 := by rw [hw2]; exact lb_drewN HL.out
    clear hw2
    have hlt2 := X2.lt
    have x2 := X2.cells
    have f2 := X2.frozen
    go_upto_region 6 with fail
    have X3 : Bk (w2.setCell ⟨g, 4, none⟩ (.bool true)) g (opC ⟨k, 0, x, sl, true, 0, 0⟩) 50 := X2.setCell 4 (.bool true)
    have O3 := O2.cell 4 (.bool true)
    have L3 : Lb (w2.setCell ⟨g, 4, none⟩ (.bool true)) := O3.lb hg0 hb0.size L0 hb0
    obtain ⟨w3, hw3⟩ : ∃ q, q = w2.setCell ⟨g, 4, none⟩ (.bool true) := ⟨_, rfl⟩
    rw [← hw3] at X3 O3 L3 ⊢
    clear hw3 X2 O2 L2 hlt2 x2 f2 HC HP
    have hlt3 := X3.lt
    cases c3 with
    | false =>
      go_wp2_with fail
      go_ret
      exact ⟨⟨k, 0, x, sl, true, 0, 0⟩, X3, O3, by rw [HR.out]; rfl, fun q hq => by rw [HR.out] at hq; simp at hq⟩
    | true =>
      have HI := Lib.hid (fReadIndex ⟨c1.toArray⟩ HZ1.out w3 L3 g 5 _ X3 (.int .i64 0) rfl)
      have e1 : (⟨c1.toArray⟩ : ByteArray).data.toList = c1 := rfl
      rw [e1] at HI
      clear e1
      cases hr1 : rdN 63 c1 with
      | none =>
        rw [hr1] at HI
        simp only [Option.isSome_none] at HI
        have HR1 := Lib.hid hr1
        clear hr1
        go_wp2_with fail
        refine HI.out.mono ?_
        rintro e w4 ⟨v, X4, O4, h0, h1, rfl, hv⟩
        clear hv
        go_wp2_with fail
        go_ret
        exact ⟨⟨k, 0, x, sl, true, v, 0⟩, X4, O3.trans O4, by rw [HR.out, HR1.out]; rfl, fun q hq => by rw [HR.out, HR1.out] at hq; simp at hq⟩
      | some u1 =>
        rw [hr1] at HI
        simp only [Option.isSome_some] at HI
        have HR1 := Lib.hid hr1
        clear hr1
        go_wp2_with fail
        refine HI.out.mono ?_
        rintro e w4 ⟨v1, X4, O4, h0, h1, rfl, hv⟩
        have hv1 := hv u1 rfl
        subst hv1
        clear hv HI
        have X5 : Bk w4 g (opC ⟨k, 0, x, sl, true, u1, 0⟩) 50 := X4
        have O5 := O3.trans O4
        have L5 : Lb w4 := O5.lb hg0 hb0.size L0 hb0
        have hlt4 := X5.lt
        clear X4 X3 O3 O4 L3
        have HJ := Lib.hid (fReadIndex ⟨c2.toArray⟩ HZ2.out w4 L5 g 6 _ X5 (.int .i64 0) rfl)
        have e2 : (⟨c2.toArray⟩ : ByteArray).data.toList = c2 := rfl
        rw [e2] at HJ
        clear e2
        go_wp2_with fail
        refine HJ.out.mono ?_
        rintro e w5 ⟨v2, X6, O6, h0', h1', rfl, hv⟩
        have HV := Lib.hid hv
        clear hv HJ
        go_wp2_with fail
        go_ret
        refine ⟨⟨k, 0, x, sl, true, u1, v2⟩, X6, O5.trans O6, ?_, ?_⟩
        · rw [HR.out, HR1.out]
          cases rdN 63 c2 <;> rfl
        · intro q hq
          rw [HR.out, HR1.out] at hq
          cases hc : rdN 63 c2 with
          | none => rw [hc] at hq; simp at hq
          | some u2 =>
            rw [hc] at hq
            simp only [if_true, Option.some.injEq] at hq
            rw [← hq, HV.out u2 hc]
theorem fRead1 (s : ByteArray) (hs : s.size ≤ 100000) (w0 w : World) (L0 : Lb w0) (hb0 : Below w0.heap.size w0 w) (g : Nat) (hg0 : w0.heap.size ≤ g) (o : OpD) (X : Bk w g (opC o) 50) (ht : o.t = 0) (hu : o.u = false) (hb : o.b = 0) (hn : o.n = 0) :
    Calls Tryz.prog 94 #[.string s, .pointer (some ⟨g, 0, none⟩)] w (TkPost g o s.data.toList w) := by
  have H := Lib.hid (fReadTicket s hs w0 w L0 hb0 g hg0 o X ht hu hb hn)
  clear X
  go_enter Tryz.func94, Tryz.ntmps94
  go_wp2_with fail
  refine H.out.mono ?_
  rintro e w1 ⟨o', X1, O1, rfl, h1⟩
  go_wp2_with fail
  go_ret
  exact ⟨o', X1, O1, rfl, h1⟩
def WdPost (g : Nat) (o : OpD) (l : List UInt8) (w : World) (e : Ending) (w' : World) : Prop :=
  ∃ v : Int, Bk w' g (opC { o with x := v }) 50 ∧ Oth g w w' ∧ e = .returned (.bool (rdN 64 l).isSome) ∧ ∀ u : Nat, rdN 64 l = some u → v = u
def SlPost (g : Nat) (o : OpD) (l : List UInt8) (w : World) (e : Ending) (w' : World) : Prop :=
  ∃ v : Int, Bk w' g (opC { o with s := v }) 50 ∧ Oth g w w' ∧ e = .returned (.bool (rdN 63 l).isSome) ∧ ∀ u : Nat, rdN 63 l = some u → v = u
theorem fRead2 (s : ByteArray) (hs : s.size ≤ 100000) (w : World) (L : Lb w) (g : Nat) (o : OpD) (X : Bk w g (opC o) 50) :
    Calls Tryz.prog 96 #[.string s, .pointer (some ⟨g, 0, none⟩)] w (WdPost g o s.data.toList w) := by
  have H := Lib.hid (fReadWord s (by omega) w L g 2 _ X (.int .u64 o.x) rfl)
  clear X
  go_enter Tryz.func96, Tryz.ntmps96
  go_wp2_with fail
  refine H.out.mono ?_
  rintro e w1 ⟨v, X1, O1, _, _, rfl, h1⟩
  have H1 := Lib.hid h1
  clear h1
  go_wp2_with fail
  go_ret
  exact ⟨v, X1, O1, rfl, H1.out⟩
theorem fRead3 (s : ByteArray) (hs : s.size ≤ 100000) (w : World) (L : Lb w) (g : Nat) (o : OpD) (X : Bk w g (opC o) 50) :
    Calls Tryz.prog 98 #[.string s, .pointer (some ⟨g, 0, none⟩)] w (SlPost g o s.data.toList w) := by
  have H := Lib.hid (fReadIndex s (by omega) w L g 3 _ X (.int .i64 o.s) rfl)
  clear X
  go_enter Tryz.func98, Tryz.ntmps98
  go_wp2_with fail
  refine H.out.mono ?_
  rintro e w1 ⟨v, X1, O1, _, _, rfl, h1⟩
  have H1 := Lib.hid h1
  clear h1
  go_wp2_with fail
  go_ret
  exact ⟨v, X1, O1, rfl, H1.out⟩
/-! ### split -/
/-- Strings of the call's own, nil too. -/
theorem OwnS.nil {B : Nat} {w : World} : OwnS B w (.slice none 0 0) [] := World.ownsRow_nil _ _ _ _
theorem splitL_short : ∀ (n : Nat) (s : List UInt8), ∀ x ∈ splitL n s, x.length ≤ s.length
  | 0, s, x, h => by simp [splitL] at h
  | n + 1, s, x, h => by
    have hz := cut_sizes s [32]
    simp only [splitL] at h
    rcases List.mem_cons.1 h with rfl | h
    · exact hz.1
    · split at h
      · cases h
      · exact Nat.le_trans (splitL_short n _ x h) hz.2
end Go.Proofs.YtpmcedfeiconfaaGreatDoor.Opw

/- Layer 12: oper.split (made by genoper7.py). -/
namespace Go.Proofs.YtpmcedfeiconfaaGreatDoor.Opw
open Go Go.RowKit Go.ChangeMaps Go.Proofs.YtpmcedfeiconfaaGreatDoor.Gro Go.Proofs.YtpmcedfeiconfaaGreatDoor.Own Go.Proofs.YtpmcedfeiconfaaGreatDoor.Mr Go.Proofs.YtpmcedfeiconfaaGreatDoor.Opn
set_option linter.unusedVariables false
set_option linter.unusedSimpArgs false
theorem split_stop {n : Nat} {r c r' : List UInt8} (h : Lib.cut r [32] = (c, r', false)) : splitL (n + 1) r = [c] := by
  unfold splitL
  rw [h]
  simp
theorem split_last {r c r' : List UInt8} {m : Bool} (h : Lib.cut r [32] = (c, r', m)) : splitL 1 r = [c] := by
  unfold splitL
  rw [h]
  simp
theorem split_more {n : Nat} {r c r' : List UInt8} (h : Lib.cut r [32] = (c, r', true)) : splitL (n + 2) r = c :: splitL (n + 1) r' := by
  conv => lhs; unfold splitL
  rw [h]
  simp
set_option maxRecDepth 100000 in
set_option maxHeartbeats 8000000 in
theorem fSplit (l : List UInt8) (hl : l.length ≤ 1000000) (w : World) (L : Lb w) : Calls Tryz.prog 80 #[strV l] w fun e w' => ∃ v, e = .returned v ∧ OwnS w.heap.size w' v (splitL 4 l) ∧ Below w.heap.size w w' := by
  obtain ⟨m, hm⟩ := L.mx
  have hg := Lib.lt_of_cell hm
  have BZ0 : Below w.heap.size w w := Below.refl _ _
  have O0 : OwnS w.heap.size w (.slice none 0 0) [] := OwnS.nil
  have hcut : ∀ (r : List UInt8) (u : World), r.length ≤ 1000000 → Below w.heap.size w u → Calls Tryz.prog 33 #[.string ⟨r.toArray⟩, .string ⟨#[32]⟩] u fun e w' => e = .returned (.tuple #[.string ⟨(Lib.cut r [32]).1.toArray⟩, .string ⟨(Lib.cut r [32]).2.1.toArray⟩, .bool (Lib.cut r [32]).2.2]) ∧ Below u.heap.size u w' := fun r u hr hu =>
    (Tryz.strings_Cut ⟨r.toArray⟩ ⟨#[32]⟩ m u (by show r.length < _; omega) ((hu.cell hg).trans hm)).mono fun e w' ⟨h1, n, h2⟩ => ⟨h1, by rw [h2]; exact below_drewN (Below.refl _ _) n⟩
  have HCUT := Lib.hid hcut
  obtain ⟨R, hR⟩ : ∃ R, R = splitL 4 l := ⟨_, rfl⟩
  rw [← hR]
  have HR0 := Lib.hid hR
  clear hcut hm hR L
  go_enter Tryz.func80, Tryz.ntmps80
  go_wp2_with fail
  refine wp_scope_straight ?_
  go_wp2_with fail
  refine wp_label ?_
  go_wp2_with fail
  refine wp_loop_rounds 4 ?_
  rw [rounds_succ]
  have HC := Lib.hid (HCUT.out l w hl BZ0)
  obtain ⟨q, hq⟩ : ∃ q, q = Lib.cut l [32] := ⟨_, rfl⟩
  have hz := cut_sizes l [32]
  rw [← hq] at HC hz
  obtain ⟨c0, r1, m0⟩ := q
  simp only at HC hz
  have hl1 : r1.length ≤ 1000000 := Nat.le_trans hz.2 (by omega)
  have HQ0 := Lib.hid hq
  clear hq hz
  go_wp2_with fail
  refine HC.out.mono ?_
  rintro e z1 ⟨rfl, hbz⟩
  have BY := BZ0.trans (hbz.mono BZ0.size)
  have BA : Below w.heap.size w (z1.alloc (.cells #[strV c0] 9)) := BY.alloc BY.size _
  have OA := (O0.keep hbz).keep ((Below.refl z1.heap.size z1).alloc (Nat.le_refl _) (.cells #[strV c0] 9))
  have bsz := BY.size
  clear hbz HC
  cases m0
  · go_wp2_with (at_builtin; refine append_row elemS rfl _ _ rfl w.heap.size (.slice none 0 0) 0 [] rfl OA z1.heap.size 1 1 [strV c0] rfl rfl (new_cells _ _ _) (fun u hu => by obtain rfl := List.mem_singleton.1 hu; rfl) (by decide) (by decide) (by simp; omega) ?_; intro vv w1 ON hbn; have BZ1 := BA.trans hbn; obtain ⟨g1, p1, rfl, _, _, _, _, _⟩ := owns_cells ON (by decide); clear OA BA hbn BY bsz)
    have O1 : OwnS w.heap.size w1 (.slice (some ⟨g1, 0, none⟩) 1 p1) [c0] := ON
    clear ON
    simp only [Exit.noGoto]
    go_ret
    exact ⟨_, rfl, by rw [HR0.out, split_stop HQ0.out.symm]; exact O1, BZ1⟩
  · go_wp2_with (at_builtin; refine append_row elemS rfl _ _ rfl w.heap.size (.slice none 0 0) 0 [] rfl OA z1.heap.size 1 1 [strV c0] rfl rfl (new_cells _ _ _) (fun u hu => by obtain rfl := List.mem_singleton.1 hu; rfl) (by decide) (by decide) (by simp; omega) ?_; intro vv w1 ON hbn; have BZ1 := BA.trans hbn; obtain ⟨g1, p1, rfl, _, _, _, _, _⟩ := owns_cells ON (by decide); clear OA BA hbn BY bsz)
    have O1 : OwnS w.heap.size w1 (.slice (some ⟨g1, 0, none⟩) 1 p1) [c0] := ON
    clear ON
    rw [rounds_succ]
    have HC := Lib.hid (HCUT.out r1 w1 hl1 BZ1)
    obtain ⟨q, hq⟩ : ∃ q, q = Lib.cut r1 [32] := ⟨_, rfl⟩
    have hz := cut_sizes r1 [32]
    rw [← hq] at HC hz
    obtain ⟨c1, r2, m1⟩ := q
    simp only at HC hz
    have hl2 : r2.length ≤ 1000000 := Nat.le_trans hz.2 (by omega)
    have HQ1 := Lib.hid hq
    clear hq hz
    go_wp2_with fail
    refine HC.out.mono ?_
    rintro e z2 ⟨rfl, hbz⟩
    have BY := BZ1.trans (hbz.mono BZ1.size)
    have BA : Below w.heap.size w (z2.alloc (.cells #[strV c1] 9)) := BY.alloc BY.size _
    have OA := (O1.keep hbz).keep ((Below.refl z2.heap.size z2).alloc (Nat.le_refl _) (.cells #[strV c1] 9))
    have bsz := BY.size
    clear hbz HC
    cases m1
    · go_wp2_with (at_builtin; refine append_row elemS rfl _ _ rfl w.heap.size (.slice (some ⟨g1, 0, none⟩) 1 p1) 1 [strV c0] rfl OA z2.heap.size 1 1 [strV c1] rfl rfl (new_cells _ _ _) (fun u hu => by obtain rfl := List.mem_singleton.1 hu; rfl) (by decide) (by decide) (by simp; omega) ?_; intro vv w2 ON hbn; have BZ2 := BA.trans hbn; obtain ⟨g2, p2, rfl, _, _, _, _, _⟩ := owns_cells ON (by decide); clear OA BA hbn BY bsz)
      have O2 : OwnS w.heap.size w2 (.slice (some ⟨g2, 0, none⟩) 2 p2) [c0, c1] := ON
      clear ON
      simp only [Exit.noGoto]
      go_ret
      exact ⟨_, rfl, by rw [HR0.out, split_more HQ0.out.symm, split_stop HQ1.out.symm]; exact O2, BZ2⟩
    · go_wp2_with (at_builtin; refine append_row elemS rfl _ _ rfl w.heap.size (.slice (some ⟨g1, 0, none⟩) 1 p1) 1 [strV c0] rfl OA z2.heap.size 1 1 [strV c1] rfl rfl (new_cells _ _ _) (fun u hu => by obtain rfl := List.mem_singleton.1 hu; rfl) (by decide) (by decide) (by simp; omega) ?_; intro vv w2 ON hbn; have BZ2 := BA.trans hbn; obtain ⟨g2, p2, rfl, _, _, _, _, _⟩ := owns_cells ON (by decide); clear OA BA hbn BY bsz)
      have O2 : OwnS w.heap.size w2 (.slice (some ⟨g2, 0, none⟩) 2 p2) [c0, c1] := ON
      clear ON
      rw [rounds_succ]
      have HC := Lib.hid (HCUT.out r2 w2 hl2 BZ2)
      obtain ⟨q, hq⟩ : ∃ q, q = Lib.cut r2 [32] := ⟨_, rfl⟩
      have hz := cut_sizes r2 [32]
      rw [← hq] at HC hz
      obtain ⟨c2, r3, m2⟩ := q
      simp only at HC hz
      have hl3 : r3.length ≤ 1000000 := Nat.le_trans hz.2 (by omega)
      have HQ2 := Lib.hid hq
      clear hq hz
      go_wp2_with fail
      refine HC.out.mono ?_
      rintro e z3 ⟨rfl, hbz⟩
      have BY := BZ2.trans (hbz.mono BZ2.size)
      have BA : Below w.heap.size w (z3.alloc (.cells #[strV c2] 9)) := BY.alloc BY.size _
      have OA := (O2.keep hbz).keep ((Below.refl z3.heap.size z3).alloc (Nat.le_refl _) (.cells #[strV c2] 9))
      have bsz := BY.size
      clear hbz HC
      cases m2
      · go_wp2_with (at_builtin; refine append_row elemS rfl _ _ rfl w.heap.size (.slice (some ⟨g2, 0, none⟩) 2 p2) 2 [strV c0, strV c1] rfl OA z3.heap.size 1 1 [strV c2] rfl rfl (new_cells _ _ _) (fun u hu => by obtain rfl := List.mem_singleton.1 hu; rfl) (by decide) (by decide) (by simp; omega) ?_; intro vv w3 ON hbn; have BZ3 := BA.trans hbn; obtain ⟨g3, p3, rfl, _, _, _, _, _⟩ := owns_cells ON (by decide); clear OA BA hbn BY bsz)
        have O3 : OwnS w.heap.size w3 (.slice (some ⟨g3, 0, none⟩) 3 p3) [c0, c1, c2] := ON
        clear ON
        simp only [Exit.noGoto]
        go_ret
        exact ⟨_, rfl, by rw [HR0.out, split_more HQ0.out.symm, split_more HQ1.out.symm, split_stop HQ2.out.symm]; exact O3, BZ3⟩
      · go_wp2_with (at_builtin; refine append_row elemS rfl _ _ rfl w.heap.size (.slice (some ⟨g2, 0, none⟩) 2 p2) 2 [strV c0, strV c1] rfl OA z3.heap.size 1 1 [strV c2] rfl rfl (new_cells _ _ _) (fun u hu => by obtain rfl := List.mem_singleton.1 hu; rfl) (by decide) (by decide) (by simp; omega) ?_; intro vv w3 ON hbn; have BZ3 := BA.trans hbn; obtain ⟨g3, p3, rfl, _, _, _, _, _⟩ := owns_cells ON (by decide); clear OA BA hbn BY bsz)
        have O3 : OwnS w.heap.size w3 (.slice (some ⟨g3, 0, none⟩) 3 p3) [c0, c1, c2] := ON
        clear ON
        rw [rounds_succ]
        have HC := Lib.hid (HCUT.out r3 w3 hl3 BZ3)
        obtain ⟨q, hq⟩ : ∃ q, q = Lib.cut r3 [32] := ⟨_, rfl⟩
        have hz := cut_sizes r3 [32]
        rw [← hq] at HC hz
        obtain ⟨c3, r4, m3⟩ := q
        simp only at HC hz
        have hl4 : r4.length ≤ 1000000 := Nat.le_trans hz.2 (by omega)
        have HQ3 := Lib.hid hq
        clear hq hz
        go_wp2_with fail
        refine HC.out.mono ?_
        rintro e z4 ⟨rfl, hbz⟩
        have BY := BZ3.trans (hbz.mono BZ3.size)
        have BA : Below w.heap.size w (z4.alloc (.cells #[strV c3] 9)) := BY.alloc BY.size _
        have OA := (O3.keep hbz).keep ((Below.refl z4.heap.size z4).alloc (Nat.le_refl _) (.cells #[strV c3] 9))
        have bsz := BY.size
        clear hbz HC
        cases m3
        · go_wp2_with (at_builtin; refine append_row elemS rfl _ _ rfl w.heap.size (.slice (some ⟨g3, 0, none⟩) 3 p3) 3 [strV c0, strV c1, strV c2] rfl OA z4.heap.size 1 1 [strV c3] rfl rfl (new_cells _ _ _) (fun u hu => by obtain rfl := List.mem_singleton.1 hu; rfl) (by decide) (by decide) (by simp; omega) ?_; intro vv w4 ON hbn; have BZ4 := BA.trans hbn; obtain ⟨g4, p4, rfl, _, _, _, _, _⟩ := owns_cells ON (by decide); clear OA BA hbn BY bsz)
          have O4 : OwnS w.heap.size w4 (.slice (some ⟨g4, 0, none⟩) 4 p4) [c0, c1, c2, c3] := ON
          clear ON
          simp only [Exit.noGoto]
          go_ret
          exact ⟨_, rfl, by rw [HR0.out, split_more HQ0.out.symm, split_more HQ1.out.symm, split_more HQ2.out.symm, split_last HQ3.out.symm]; exact O4, BZ4⟩
        · go_wp2_with (at_builtin; refine append_row elemS rfl _ _ rfl w.heap.size (.slice (some ⟨g3, 0, none⟩) 3 p3) 3 [strV c0, strV c1, strV c2] rfl OA z4.heap.size 1 1 [strV c3] rfl rfl (new_cells _ _ _) (fun u hu => by obtain rfl := List.mem_singleton.1 hu; rfl) (by decide) (by decide) (by simp; omega) ?_; intro vv w4 ON hbn; have BZ4 := BA.trans hbn; obtain ⟨g4, p4, rfl, _, _, _, _, _⟩ := owns_cells ON (by decide); clear OA BA hbn BY bsz)
          have O4 : OwnS w.heap.size w4 (.slice (some ⟨g4, 0, none⟩) 4 p4) [c0, c1, c2, c3] := ON
          clear ON
          simp only [Exit.noGoto]
          go_ret
          exact ⟨_, rfl, by rw [HR0.out, split_more HQ0.out.symm, split_more HQ1.out.symm, split_more HQ2.out.symm, split_last HQ3.out.symm]; exact O4, BZ4⟩
end Go.Proofs.YtpmcedfeiconfaaGreatDoor.Opw

/- Layer 12: oper.find (made by genoper8.py). -/
namespace Go.Proofs.YtpmcedfeiconfaaGreatDoor.Opw
open Go Go.RowKit Go.ChangeMaps Go.Proofs.YtpmcedfeiconfaaGreatDoor.Gro Go.Proofs.YtpmcedfeiconfaaGreatDoor.Own Go.Proofs.YtpmcedfeiconfaaGreatDoor.Mr Go.Proofs.YtpmcedfeiconfaaGreatDoor.Opn
set_option linter.unusedVariables false
set_option linter.unusedSimpArgs false
section
variable {P : Program} {ops : Array Oper} {a : Act} {o : Oper} {w : World} {K : Act → World → Prop} {Q : Exit → Act → World → Prop} {E : Prop}
theorem step_load (hgd : o.guard = none) (ty : TypeId) (x : Operand) (ho : o.op = .load ty x) (g : Nat) (hx : a.eval x = .pointer (some ⟨g, 0, none⟩)) (cs : Array Value) (t : TypeId) (d : TypeDesc)
    (hg : Bk w g cs t) (hu : P.underlying ty = some d) (hd : (match d with | .struct _ | .array _ _ => true | _ => false) = true) (hi : (P.info? ty).map (·.size) = some cs.size)
    (h : K (a.put o.dst (.agg cs)) w) : if Region.wanted o (yielded ops a.tmps) = true then Oper.wp P o a w K Q else E := by
  rw [if_pos (by simp [Region.wanted, hgd])]
  exact wp_load_row ty x ho g hx t cs (0, 0) d hg hu hd hi h
theorem results_slot_cell_slot {fn : Func} {p q r : Tmp} {ty : TypeId} (h : fn.results = #[.tmp q, .cell p ty, .tmp r]) (tmps : Array Value) (w : World) (g : Nat) (t : TypeId) (cs : Array Value) (d : TypeDesc)
    (hp : tmps.getD p undef = .pointer (some ⟨g, 0, none⟩)) (hg : Bk w g cs t)
    (hu : P.underlying ty = some d) (hd : (match d with | .struct _ | .array _ _ => true | _ => false) = true) (hi : (P.info? ty).map (·.size) = some cs.size) :
    (results fn tmps).run P w = .ok (.tuple #[tmps.getD q undef, .agg cs, tmps.getD r undef]) w := by
  have hp' : tmps[p]?.getD undef = .pointer (some ⟨g, 0, none⟩) := by simpa using hp
  simp [results, h, hp', asAddr, run_loadVar_row w g t ty cs (0, 0) d hg hu hd hi]
end
theorem find_at {l : List UInt8} {k : Int} (hk : k ∈ kinds) (h : name k = l) : find l = some k := by
  rw [← h]
  apply find_name
  simp only [kinds, List.mem_cons, List.not_mem_nil, or_false] at hk
  rcases hk with rfl | rfl | rfl | rfl | rfl | rfl | rfl | rfl | rfl <;> rfl
theorem find_no {l : List UInt8} (h : ∀ k ∈ kinds, name k ≠ l) : find l = none := by
  unfold find
  rw [List.find?_eq_none]
  intro k hk
  simpa using h k hk
theorem name_list {k : Int} (hk : k ∈ kinds) : (nameB k).toList = name k := by
  simp only [kinds, List.mem_cons, List.not_mem_nil, or_false] at hk
  rcases hk with rfl | rfl | rfl | rfl | rfl | rfl | rfl | rfl | rfl <;> kernel_rfl
theorem cells_one (k : Int) : (cellsK k).all (·.oneCell') = true := by
  kernel_rfl
def FindPost (l : List UInt8) (w : World) (e : Ending) (w' : World) : Prop :=
  e = .returned (.tuple #[.int .i64 ((find l).getD 0), .agg (cellsK ((find l).getD 0)), .bool (find l).isSome]) ∧ Below w.heap.size w w'
set_option maxRecDepth 100000 in
set_option maxHeartbeats 8000000 in
theorem fFind (l : List UInt8) (w : World) : Calls Tryz.prog 93 #[strV l] w (FindPost l w) := by
  obtain ⟨kk, hkk⟩ : ∃ q, q = (find l).getD 0 := ⟨_, rfl⟩
  obtain ⟨bb, hbb⟩ : ∃ q, q = (find l).isSome := ⟨_, rfl⟩
  unfold FindPost
  rw [← hkk, ← hbb]
  have HKK := Lib.hid hkk
  have HBB := Lib.hid hbb
  clear hkk hbb
  have hz0 : ∀ u : World, (zeroValue 84).run Tryz.prog u = .ok (.agg (cellsK 0)) u := zero_sh
  have X0 := Bk.new w (cellsK 0) 84
  have hb0 : Below w.heap.size w (w.alloc (.cells (cellsK 0) 84)) := (Below.refl _ _).alloc (Nat.le_refl _) _
  obtain ⟨w1, hw1⟩ : ∃ q, q = w.alloc (.cells (cellsK 0) 84) := ⟨_, rfl⟩
  rw [← hw1] at X0 hb0
  have HS := Lib.hid (shapes w1)
  rw [hw1] at HS
  have HW1 := Lib.hid hw1
  clear hw1
  go_enter Tryz.func93, Tryz.ntmps93
  go_wp2_with fail
  refine wp_scope_straight ?_
  go_wp2_with fail
  refine wp_label ?_
  go_wp2_with fail
  refine HS.out.mono ?_
  rintro e w2 ⟨b, rfl, MM, hb2, hbl⟩
  rw [← HW1.out] at hb2 hbl
  have X2 := X0.keep hbl
  have hb3 := hb0.trans (hbl.mono hb0.size)
  have hl2 := X2.lt
  clear HS X0 hb0 HW1
  go_wp2_with (refine wpList_range_b rfl _ rfl Tryz.underlying85 b shapesL rfl (fun (k : Int) (v : Value) => name k ≠ l) MM ?_; intro w3 cnt hrg hbr; have X3 := X2.keep hbr; have hb4 := hb3.trans (hbr.mono hb3.size); have hr0 : w.heap.size < w2.heap.size := hl2; obtain ⟨rr, hrr⟩ : ∃ q, q = w2.heap.size := ⟨_, rfl⟩; rw [← hrr] at hrg hr0 ⊢; clear hrr MM X2 hb3 hbr hbl hl2 hb2)
  go_frame
  go_loopw [2, 4] (fun vk vo wr => vk = .int .i64 0 ∧ vo = .bool false ∧ ∃ cnt, Rg wr b rr iV shapesL (fun (k : Int) (v : Value) => name k ≠ l) cnt ∧ Bk wr w.heap.size (cellsK 0) 84 ∧ Below w.heap.size w wr) (fun _ _ wr => wr.rangeLeft b rr)
  case atStart => exact ⟨rfl, rfl, cnt, hrg, X3, hb4⟩
  case round =>
    obtain ⟨rfl, rfl, cnt2, hrg2, X4, hb5⟩ := hrel
    clear hrg X3 hb4
    have hlt := hrg2.lt
    have hml := hrg2.left_eq
    have HML := Lib.hid hml
    clear hml
    have hkeys : ∀ (k : Int) (v : Value) (k' : Int) (v' : Value), (k, v) ∈ shapesL → (k', v') ∈ shapesL → iV k = iV k' → k = k' := fun k v k' v' _ _ h => by simpa [iV] using h
    go_wp2_with (refine wpList_next_b rfl _ rfl b rr shapesL (fun (k : Int) (v : Value) => name k ≠ l) cnt2 rfl hrg2 hkeys ?_ ?_)
    · intro hall
      have hno : find l = none := find_no fun k hk => hall k _ (List.mem_map.2 ⟨k, hk, rfl⟩)
      have hkk := HKK.out
      have hbb := HBB.out
      rw [hno] at hkk hbb
      simp only [Option.getD_none, Option.isSome_none] at hkk hbb
      subst hkk; subst hbb
      clear hall hno hkeys
      go_wp2_with fail
      have hS0 : Bk wr.drew w.heap.size (cellsK 0) 84 := X4
      have bz : Below w.heap.size w wr.drew := Below.drew hb5
      refine wp_region_held_drew (S := fun w' => Bk w' w.heap.size (cellsK 0) 84) (by kernel_rfl) hS0 (fun hHeld => ?_)
      clear hS0
      generalize wr.drew = z7 at *
      refine wpAnyH_take (i := 0) (oi := _) (v := .int .i64 0) rfl (by kernel_rfl) (by kernel_rfl) (by kernel_rfl) (fun _ _ _ h => h) (Or.inl ⟨by rfl, fun w' hSw => by go_simp⟩) hHeld ?_
      try simp only [Act.put, List.getElem_toArray, List.getElem_cons_succ, List.getElem_cons_zero, List.setIfInBounds_toArray, List.set_cons_succ, List.set_cons_zero]
      refine wpAnyH_ready (rs := [1, 2, 3]) (by kernel_rfl) (by simp) ?_
      refine AllReadyH.cons (o := _) rfl (fun K hK => ?_) (AllReadyH.cons (o := _) rfl (fun K hK => ?_) (AllReadyH.cons (o := _) rfl (fun K hK => ?_) AllReadyH.nil))
      · refine step_load rfl 84 _ rfl (w.heap.size) rfl (cellsK 0) 84 _ (by exact hHeld) Tryz.underlying84 rfl (by kernel_rfl) ?_
        refine hK.out _ _ hHeld (fun hHeld => ?_)
        clear hK K
        try simp only [Act.put, List.getElem_toArray, List.getElem_cons_succ, List.getElem_cons_zero, List.setIfInBounds_toArray, List.set_cons_succ, List.set_cons_zero]
        refine wpAnyH_ready (rs := [2, 3]) (by kernel_rfl) (by simp) ?_
        refine AllReadyH.cons (o := _) rfl (fun K hK => ?_) (AllReadyH.cons (o := _) rfl (fun K hK => ?_) AllReadyH.nil)
        · go_simp
          refine hK.out _ _ hHeld (fun hHeld => ?_)
          clear hK K
          try simp only [Act.put, List.getElem_toArray, List.getElem_cons_succ, List.getElem_cons_zero, List.setIfInBounds_toArray, List.set_cons_succ, List.set_cons_zero]
          refine wpAnyH_take (i := 3) (oi := _) (v := .int .i64 0) rfl (by kernel_rfl) (by kernel_rfl) (by kernel_rfl) (fun _ _ _ h => h) (Or.inl ⟨by rfl, fun w' hSw => by go_simp⟩) hHeld ?_
          try simp only [Act.put, List.getElem_toArray, List.getElem_cons_succ, List.getElem_cons_zero, List.setIfInBounds_toArray, List.set_cons_succ, List.set_cons_zero]
          refine wpAnyH_ready (rs := [4]) (by kernel_rfl) (by simp) ?_
          refine AllReadyH.cons (o := _) rfl (fun K hK => ?_) AllReadyH.nil
          have b9 := below_setRow bz (Nat.le_refl w.heap.size) (cellsK 0)
          have hS9 := hHeld.setRow (cellsK 0)
          refine step_row rfl 84 (.tmp 3) (.tmp 22) rfl w.heap.size (cellsK 0) rfl rfl 84 (cellsK 0) (by exact hHeld) (by kernel_rfl) rfl (cells_one _) ?_
          obtain ⟨z9, hz9⟩ : ∃ q, q = z7.setRow w.heap.size (cellsK 0) := ⟨_, rfl⟩
          rw [← hz9] at b9 hS9 ⊢
          clear hz9 bz
          refine hK.out _ _ hS9 (fun hHeld => ?_)
          clear hK K
          try simp only [Act.put, List.getElem_toArray, List.getElem_cons_succ, List.getElem_cons_zero, List.setIfInBounds_toArray, List.set_cons_succ, List.set_cons_zero]
          refine wpAnyH_take (i := 5) (oi := _) (v := .bool false) rfl (by kernel_rfl) (by kernel_rfl) (by kernel_rfl) (fun _ _ _ h => h) (Or.inl ⟨by rfl, fun w' hSw => by go_simp⟩) hHeld ?_
          try simp only [Act.put, List.getElem_toArray, List.getElem_cons_succ, List.getElem_cons_zero, List.setIfInBounds_toArray, List.set_cons_succ, List.set_cons_zero]
          refine wpAnyH_done (by kernel_rfl) ?_ _
          simp only [Exit.then]
          go_wp2_with fail
          simp only [Exit.noGoto]
          refine bodyPost_ret (v := .tuple #[.int .i64 0, .agg (cellsK 0), .bool false]) ?_ rfl ⟨rfl, b9⟩
          exact results_slot_cell_slot (p := 3) (q := 2) (r := 4) (ty := 84) Tryz.results93 _ _ w.heap.size 84 _ _ rfl hHeld Tryz.underlying84 rfl (by kernel_rfl)
        · go_simp
          refine hK.out _ _ hHeld (fun hHeld => ?_)
          clear hK K
          try simp only [Act.put, List.getElem_toArray, List.getElem_cons_succ, List.getElem_cons_zero, List.setIfInBounds_toArray, List.set_cons_succ, List.set_cons_zero]
          refine wpAnyH_ready (rs := [2, 4]) (by kernel_rfl) (by simp) ?_
          refine AllReadyH.cons (o := _) rfl (fun K hK => ?_) (AllReadyH.cons (o := _) rfl (fun K hK => ?_) AllReadyH.nil)
          · go_simp
            refine hK.out _ _ hHeld (fun hHeld => ?_)
            clear hK K
            try simp only [Act.put, List.getElem_toArray, List.getElem_cons_succ, List.getElem_cons_zero, List.setIfInBounds_toArray, List.set_cons_succ, List.set_cons_zero]
            refine wpAnyH_ready (rs := [4]) (by kernel_rfl) (by simp) ?_
            refine AllReadyH.cons (o := _) rfl (fun K hK => ?_) AllReadyH.nil
            have b9 := below_setRow bz (Nat.le_refl w.heap.size) (cellsK 0)
            have hS9 := hHeld.setRow (cellsK 0)
            refine step_row rfl 84 (.tmp 3) (.tmp 22) rfl w.heap.size (cellsK 0) rfl rfl 84 (cellsK 0) (by exact hHeld) (by kernel_rfl) rfl (cells_one _) ?_
            obtain ⟨z9, hz9⟩ : ∃ q, q = z7.setRow w.heap.size (cellsK 0) := ⟨_, rfl⟩
            rw [← hz9] at b9 hS9 ⊢
            clear hz9 bz
            refine hK.out _ _ hS9 (fun hHeld => ?_)
            clear hK K
            try simp only [Act.put, List.getElem_toArray, List.getElem_cons_succ, List.getElem_cons_zero, List.setIfInBounds_toArray, List.set_cons_succ, List.set_cons_zero]
            refine wpAnyH_take (i := 5) (oi := _) (v := .bool false) rfl (by kernel_rfl) (by kernel_rfl) (by kernel_rfl) (fun _ _ _ h => h) (Or.inl ⟨by rfl, fun w' hSw => by go_simp⟩) hHeld ?_
            try simp only [Act.put, List.getElem_toArray, List.getElem_cons_succ, List.getElem_cons_zero, List.setIfInBounds_toArray, List.set_cons_succ, List.set_cons_zero]
            refine wpAnyH_done (by kernel_rfl) ?_ _
            simp only [Exit.then]
            go_wp2_with fail
            simp only [Exit.noGoto]
            refine bodyPost_ret (v := .tuple #[.int .i64 0, .agg (cellsK 0), .bool false]) ?_ rfl ⟨rfl, b9⟩
            exact results_slot_cell_slot (p := 3) (q := 2) (r := 4) (ty := 84) Tryz.results93 _ _ w.heap.size 84 _ _ rfl hHeld Tryz.underlying84 rfl (by kernel_rfl)
          · have b9 := below_setRow bz (Nat.le_refl w.heap.size) (cellsK 0)
            have hS9 := hHeld.setRow (cellsK 0)
            refine step_row rfl 84 (.tmp 3) (.tmp 22) rfl w.heap.size (cellsK 0) rfl rfl 84 (cellsK 0) (by exact hHeld) (by kernel_rfl) rfl (cells_one _) ?_
            obtain ⟨z9, hz9⟩ : ∃ q, q = z7.setRow w.heap.size (cellsK 0) := ⟨_, rfl⟩
            rw [← hz9] at b9 hS9 ⊢
            clear hz9 bz
            refine hK.out _ _ hS9 (fun hHeld => ?_)
            clear hK K
            try simp only [Act.put, List.getElem_toArray, List.getElem_cons_succ, List.getElem_cons_zero, List.setIfInBounds_toArray, List.set_cons_succ, List.set_cons_zero]
            refine wpAnyH_take (i := 2) (oi := _) (v := .bool false) rfl (by kernel_rfl) (by kernel_rfl) (by kernel_rfl) (fun _ _ _ h => h) (Or.inl ⟨by rfl, fun w' hSw => by go_simp⟩) hHeld ?_
            try simp only [Act.put, List.getElem_toArray, List.getElem_cons_succ, List.getElem_cons_zero, List.setIfInBounds_toArray, List.set_cons_succ, List.set_cons_zero]
            refine wpAnyH_take (i := 5) (oi := _) (v := .bool false) rfl (by kernel_rfl) (by kernel_rfl) (by kernel_rfl) (fun _ _ _ h => h) (Or.inl ⟨by rfl, fun w' hSw => by go_simp⟩) hHeld ?_
            try simp only [Act.put, List.getElem_toArray, List.getElem_cons_succ, List.getElem_cons_zero, List.setIfInBounds_toArray, List.set_cons_succ, List.set_cons_zero]
            refine wpAnyH_done (by kernel_rfl) ?_ _
            simp only [Exit.then]
            go_wp2_with fail
            simp only [Exit.noGoto]
            refine bodyPost_ret (v := .tuple #[.int .i64 0, .agg (cellsK 0), .bool false]) ?_ rfl ⟨rfl, b9⟩
            exact results_slot_cell_slot (p := 3) (q := 2) (r := 4) (ty := 84) Tryz.results93 _ _ w.heap.size 84 _ _ rfl hHeld Tryz.underlying84 rfl (by kernel_rfl)
      · go_simp
        refine hK.out _ _ hHeld (fun hHeld => ?_)
        clear hK K
        try simp only [Act.put, List.getElem_toArray, List.getElem_cons_succ, List.getElem_cons_zero, List.setIfInBounds_toArray, List.set_cons_succ, List.set_cons_zero]
        refine wpAnyH_ready (rs := [1, 3]) (by kernel_rfl) (by simp) ?_
        refine AllReadyH.cons (o := _) rfl (fun K hK => ?_) (AllReadyH.cons (o := _) rfl (fun K hK => ?_) AllReadyH.nil)
        · refine step_load rfl 84 _ rfl (w.heap.size) rfl (cellsK 0) 84 _ (by exact hHeld) Tryz.underlying84 rfl (by kernel_rfl) ?_
          refine hK.out _ _ hHeld (fun hHeld => ?_)
          clear hK K
          try simp only [Act.put, List.getElem_toArray, List.getElem_cons_succ, List.getElem_cons_zero, List.setIfInBounds_toArray, List.set_cons_succ, List.set_cons_zero]
          refine wpAnyH_take (i := 3) (oi := _) (v := .int .i64 0) rfl (by kernel_rfl) (by kernel_rfl) (by kernel_rfl) (fun _ _ _ h => h) (Or.inl ⟨by rfl, fun w' hSw => by go_simp⟩) hHeld ?_
          try simp only [Act.put, List.getElem_toArray, List.getElem_cons_succ, List.getElem_cons_zero, List.setIfInBounds_toArray, List.set_cons_succ, List.set_cons_zero]
          refine wpAnyH_ready (rs := [4]) (by kernel_rfl) (by simp) ?_
          refine AllReadyH.cons (o := _) rfl (fun K hK => ?_) AllReadyH.nil
          have b9 := below_setRow bz (Nat.le_refl w.heap.size) (cellsK 0)
          have hS9 := hHeld.setRow (cellsK 0)
          refine step_row rfl 84 (.tmp 3) (.tmp 22) rfl w.heap.size (cellsK 0) rfl rfl 84 (cellsK 0) (by exact hHeld) (by kernel_rfl) rfl (cells_one _) ?_
          obtain ⟨z9, hz9⟩ : ∃ q, q = z7.setRow w.heap.size (cellsK 0) := ⟨_, rfl⟩
          rw [← hz9] at b9 hS9 ⊢
          clear hz9 bz
          refine hK.out _ _ hS9 (fun hHeld => ?_)
          clear hK K
          try simp only [Act.put, List.getElem_toArray, List.getElem_cons_succ, List.getElem_cons_zero, List.setIfInBounds_toArray, List.set_cons_succ, List.set_cons_zero]
          refine wpAnyH_take (i := 5) (oi := _) (v := .bool false) rfl (by kernel_rfl) (by kernel_rfl) (by kernel_rfl) (fun _ _ _ h => h) (Or.inl ⟨by rfl, fun w' hSw => by go_simp⟩) hHeld ?_
          try simp only [Act.put, List.getElem_toArray, List.getElem_cons_succ, List.getElem_cons_zero, List.setIfInBounds_toArray, List.set_cons_succ, List.set_cons_zero]
          refine wpAnyH_done (by kernel_rfl) ?_ _
          simp only [Exit.then]
          go_wp2_with fail
          simp only [Exit.noGoto]
          refine bodyPost_ret (v := .tuple #[.int .i64 0, .agg (cellsK 0), .bool false]) ?_ rfl ⟨rfl, b9⟩
          exact results_slot_cell_slot (p := 3) (q := 2) (r := 4) (ty := 84) Tryz.results93 _ _ w.heap.size 84 _ _ rfl hHeld Tryz.underlying84 rfl (by kernel_rfl)
        · go_simp
          refine hK.out _ _ hHeld (fun hHeld => ?_)
          clear hK K
          try simp only [Act.put, List.getElem_toArray, List.getElem_cons_succ, List.getElem_cons_zero, List.setIfInBounds_toArray, List.set_cons_succ, List.set_cons_zero]
          refine wpAnyH_ready (rs := [1]) (by kernel_rfl) (by simp) ?_
          refine AllReadyH.cons (o := _) rfl (fun K hK => ?_) AllReadyH.nil
          refine step_load rfl 84 _ rfl (w.heap.size) rfl (cellsK 0) 84 _ (by exact hHeld) Tryz.underlying84 rfl (by kernel_rfl) ?_
          refine hK.out _ _ hHeld (fun hHeld => ?_)
          clear hK K
          try simp only [Act.put, List.getElem_toArray, List.getElem_cons_succ, List.getElem_cons_zero, List.setIfInBounds_toArray, List.set_cons_succ, List.set_cons_zero]
          refine wpAnyH_ready (rs := [4]) (by kernel_rfl) (by simp) ?_
          refine AllReadyH.cons (o := _) rfl (fun K hK => ?_) AllReadyH.nil
          have b9 := below_setRow bz (Nat.le_refl w.heap.size) (cellsK 0)
          have hS9 := hHeld.setRow (cellsK 0)
          refine step_row rfl 84 (.tmp 3) (.tmp 22) rfl w.heap.size (cellsK 0) rfl rfl 84 (cellsK 0) (by exact hHeld) (by kernel_rfl) rfl (cells_one _) ?_
          obtain ⟨z9, hz9⟩ : ∃ q, q = z7.setRow w.heap.size (cellsK 0) := ⟨_, rfl⟩
          rw [← hz9] at b9 hS9 ⊢
          clear hz9 bz
          refine hK.out _ _ hS9 (fun hHeld => ?_)
          clear hK K
          try simp only [Act.put, List.getElem_toArray, List.getElem_cons_succ, List.getElem_cons_zero, List.setIfInBounds_toArray, List.set_cons_succ, List.set_cons_zero]
          refine wpAnyH_take (i := 5) (oi := _) (v := .bool false) rfl (by kernel_rfl) (by kernel_rfl) (by kernel_rfl) (fun _ _ _ h => h) (Or.inl ⟨by rfl, fun w' hSw => by go_simp⟩) hHeld ?_
          try simp only [Act.put, List.getElem_toArray, List.getElem_cons_succ, List.getElem_cons_zero, List.setIfInBounds_toArray, List.set_cons_succ, List.set_cons_zero]
          refine wpAnyH_done (by kernel_rfl) ?_ _
          simp only [Exit.then]
          go_wp2_with fail
          simp only [Exit.noGoto]
          refine bodyPost_ret (v := .tuple #[.int .i64 0, .agg (cellsK 0), .bool false]) ?_ rfl ⟨rfl, b9⟩
          exact results_slot_cell_slot (p := 3) (q := 2) (r := 4) (ty := 84) Tryz.results93 _ _ w.heap.size 84 _ _ rfl hHeld Tryz.underlying84 rfl (by kernel_rfl)
      · go_simp
        refine hK.out _ _ hHeld (fun hHeld => ?_)
        clear hK K
        try simp only [Act.put, List.getElem_toArray, List.getElem_cons_succ, List.getElem_cons_zero, List.setIfInBounds_toArray, List.set_cons_succ, List.set_cons_zero]
        refine wpAnyH_ready (rs := [1, 2]) (by kernel_rfl) (by simp) ?_
        refine AllReadyH.cons (o := _) rfl (fun K hK => ?_) (AllReadyH.cons (o := _) rfl (fun K hK => ?_) AllReadyH.nil)
        · refine step_load rfl 84 _ rfl (w.heap.size) rfl (cellsK 0) 84 _ (by exact hHeld) Tryz.underlying84 rfl (by kernel_rfl) ?_
          refine hK.out _ _ hHeld (fun hHeld => ?_)
          clear hK K
          try simp only [Act.put, List.getElem_toArray, List.getElem_cons_succ, List.getElem_cons_zero, List.setIfInBounds_toArray, List.set_cons_succ, List.set_cons_zero]
          refine wpAnyH_ready (rs := [2, 4]) (by kernel_rfl) (by simp) ?_
          refine AllReadyH.cons (o := _) rfl (fun K hK => ?_) (AllReadyH.cons (o := _) rfl (fun K hK => ?_) AllReadyH.nil)
          · go_simp
            refine hK.out _ _ hHeld (fun hHeld => ?_)
            clear hK K
            try simp only [Act.put, List.getElem_toArray, List.getElem_cons_succ, List.getElem_cons_zero, List.setIfInBounds_toArray, List.set_cons_succ, List.set_cons_zero]
            refine wpAnyH_ready (rs := [4]) (by kernel_rfl) (by simp) ?_
            refine AllReadyH.cons (o := _) rfl (fun K hK => ?_) AllReadyH.nil
            have b9 := below_setRow bz (Nat.le_refl w.heap.size) (cellsK 0)
            have hS9 := hHeld.setRow (cellsK 0)
            refine step_row rfl 84 (.tmp 3) (.tmp 22) rfl w.heap.size (cellsK 0) rfl rfl 84 (cellsK 0) (by exact hHeld) (by kernel_rfl) rfl (cells_one _) ?_
            obtain ⟨z9, hz9⟩ : ∃ q, q = z7.setRow w.heap.size (cellsK 0) := ⟨_, rfl⟩
            rw [← hz9] at b9 hS9 ⊢
            clear hz9 bz
            refine hK.out _ _ hS9 (fun hHeld => ?_)
            clear hK K
            try simp only [Act.put, List.getElem_toArray, List.getElem_cons_succ, List.getElem_cons_zero, List.setIfInBounds_toArray, List.set_cons_succ, List.set_cons_zero]
            refine wpAnyH_take (i := 5) (oi := _) (v := .bool false) rfl (by kernel_rfl) (by kernel_rfl) (by kernel_rfl) (fun _ _ _ h => h) (Or.inl ⟨by rfl, fun w' hSw => by go_simp⟩) hHeld ?_
            try simp only [Act.put, List.getElem_toArray, List.getElem_cons_succ, List.getElem_cons_zero, List.setIfInBounds_toArray, List.set_cons_succ, List.set_cons_zero]
            refine wpAnyH_done (by kernel_rfl) ?_ _
            simp only [Exit.then]
            go_wp2_with fail
            simp only [Exit.noGoto]
            refine bodyPost_ret (v := .tuple #[.int .i64 0, .agg (cellsK 0), .bool false]) ?_ rfl ⟨rfl, b9⟩
            exact results_slot_cell_slot (p := 3) (q := 2) (r := 4) (ty := 84) Tryz.results93 _ _ w.heap.size 84 _ _ rfl hHeld Tryz.underlying84 rfl (by kernel_rfl)
          · have b9 := below_setRow bz (Nat.le_refl w.heap.size) (cellsK 0)
            have hS9 := hHeld.setRow (cellsK 0)
            refine step_row rfl 84 (.tmp 3) (.tmp 22) rfl w.heap.size (cellsK 0) rfl rfl 84 (cellsK 0) (by exact hHeld) (by kernel_rfl) rfl (cells_one _) ?_
            obtain ⟨z9, hz9⟩ : ∃ q, q = z7.setRow w.heap.size (cellsK 0) := ⟨_, rfl⟩
            rw [← hz9] at b9 hS9 ⊢
            clear hz9 bz
            refine hK.out _ _ hS9 (fun hHeld => ?_)
            clear hK K
            try simp only [Act.put, List.getElem_toArray, List.getElem_cons_succ, List.getElem_cons_zero, List.setIfInBounds_toArray, List.set_cons_succ, List.set_cons_zero]
            refine wpAnyH_take (i := 2) (oi := _) (v := .bool false) rfl (by kernel_rfl) (by kernel_rfl) (by kernel_rfl) (fun _ _ _ h => h) (Or.inl ⟨by rfl, fun w' hSw => by go_simp⟩) hHeld ?_
            try simp only [Act.put, List.getElem_toArray, List.getElem_cons_succ, List.getElem_cons_zero, List.setIfInBounds_toArray, List.set_cons_succ, List.set_cons_zero]
            refine wpAnyH_take (i := 5) (oi := _) (v := .bool false) rfl (by kernel_rfl) (by kernel_rfl) (by kernel_rfl) (fun _ _ _ h => h) (Or.inl ⟨by rfl, fun w' hSw => by go_simp⟩) hHeld ?_
            try simp only [Act.put, List.getElem_toArray, List.getElem_cons_succ, List.getElem_cons_zero, List.setIfInBounds_toArray, List.set_cons_succ, List.set_cons_zero]
            refine wpAnyH_done (by kernel_rfl) ?_ _
            simp only [Exit.then]
            go_wp2_with fail
            simp only [Exit.noGoto]
            refine bodyPost_ret (v := .tuple #[.int .i64 0, .agg (cellsK 0), .bool false]) ?_ rfl ⟨rfl, b9⟩
            exact results_slot_cell_slot (p := 3) (q := 2) (r := 4) (ty := 84) Tryz.results93 _ _ w.heap.size 84 _ _ rfl hHeld Tryz.underlying84 rfl (by kernel_rfl)
        · go_simp
          refine hK.out _ _ hHeld (fun hHeld => ?_)
          clear hK K
          try simp only [Act.put, List.getElem_toArray, List.getElem_cons_succ, List.getElem_cons_zero, List.setIfInBounds_toArray, List.set_cons_succ, List.set_cons_zero]
          refine wpAnyH_ready (rs := [1]) (by kernel_rfl) (by simp) ?_
          refine AllReadyH.cons (o := _) rfl (fun K hK => ?_) AllReadyH.nil
          refine step_load rfl 84 _ rfl (w.heap.size) rfl (cellsK 0) 84 _ (by exact hHeld) Tryz.underlying84 rfl (by kernel_rfl) ?_
          refine hK.out _ _ hHeld (fun hHeld => ?_)
          clear hK K
          try simp only [Act.put, List.getElem_toArray, List.getElem_cons_succ, List.getElem_cons_zero, List.setIfInBounds_toArray, List.set_cons_succ, List.set_cons_zero]
          refine wpAnyH_ready (rs := [4]) (by kernel_rfl) (by simp) ?_
          refine AllReadyH.cons (o := _) rfl (fun K hK => ?_) AllReadyH.nil
          have b9 := below_setRow bz (Nat.le_refl w.heap.size) (cellsK 0)
          have hS9 := hHeld.setRow (cellsK 0)
          refine step_row rfl 84 (.tmp 3) (.tmp 22) rfl w.heap.size (cellsK 0) rfl rfl 84 (cellsK 0) (by exact hHeld) (by kernel_rfl) rfl (cells_one _) ?_
          obtain ⟨z9, hz9⟩ : ∃ q, q = z7.setRow w.heap.size (cellsK 0) := ⟨_, rfl⟩
          rw [← hz9] at b9 hS9 ⊢
          clear hz9 bz
          refine hK.out _ _ hS9 (fun hHeld => ?_)
          clear hK K
          try simp only [Act.put, List.getElem_toArray, List.getElem_cons_succ, List.getElem_cons_zero, List.setIfInBounds_toArray, List.set_cons_succ, List.set_cons_zero]
          refine wpAnyH_take (i := 5) (oi := _) (v := .bool false) rfl (by kernel_rfl) (by kernel_rfl) (by kernel_rfl) (fun _ _ _ h => h) (Or.inl ⟨by rfl, fun w' hSw => by go_simp⟩) hHeld ?_
          try simp only [Act.put, List.getElem_toArray, List.getElem_cons_succ, List.getElem_cons_zero, List.setIfInBounds_toArray, List.set_cons_succ, List.set_cons_zero]
          refine wpAnyH_done (by kernel_rfl) ?_ _
          simp only [Exit.then]
          go_wp2_with fail
          simp only [Exit.noGoto]
          refine bodyPost_ret (v := .tuple #[.int .i64 0, .agg (cellsK 0), .bool false]) ?_ rfl ⟨rfl, b9⟩
          exact results_slot_cell_slot (p := 3) (q := 2) (r := 4) (ty := 84) Tryz.results93 _ _ w.heap.size 84 _ _ rfl hHeld Tryz.underlying84 rfl (by kernel_rfl)
    · intro k v w5 cnt3 hmem hlt5 hN hO hen
      obtain ⟨k0, hk0, hkv⟩ := List.mem_map.1 hmem
      simp only [Prod.mk.injEq] at hkv
      obtain ⟨rfl, rfl⟩ := hkv
      have hb6 : Below w.heap.size w w5 := by
        rcases hO with h | h
        · exact hb5.trans (h.below (by omega))
        · exact hb5.trans ((Below.drew (Below.refl _ wr)).trans (h.below (by omega)))
      have X5 : Bk w5 w.heap.size (cellsK 0) 84 := by
        rcases hO with h | h
        · exact h.bk X4 (by omega)
        · exact h.bk (show Bk wr.drew w.heap.size (cellsK 0) 84 from X4) (by omega)
      have XS := Bk.new w5 (cellsK 0) 84
      have X6 := X5.alloc (.cells (cellsK 0) 84)
      have hs5 := hb6.size
      have l5 := X5.lt
      obtain ⟨z6, hz6⟩ : ∃ q, q = (w5.alloc (.cells (cellsK 0) 84)).setRow w5.heap.size (cellsK k0) := ⟨_, rfl⟩
      have b56 : Below w5.heap.size w5 z6 := by rw [hz6]; exact below_setRow ((Below.refl _ _).alloc (Nat.le_refl _) _) (Nat.le_refl _) _
      have b6 : Below w.heap.size w z6 := hb6.trans (b56.mono hs5)
      have Z6 : Bk z6 w5.heap.size (cellsK k0) 84 := by rw [hz6]; exact XS.setRow _
      have X7 : Bk z6 w.heap.size (cellsK 0) 84 := X5.keep b56
      have R7 : name k0 ≠ l → Rg z6 b rr iV shapesL (fun (k : Int) (v : Value) => name k ≠ l) cnt3 := fun h => (hN h).keep b56 (hN h).lt.1 (hN h).lt.2
      clear X5 hN hO hb6 hb5 hrg2 X4 X6 b56
      have HR7 := Lib.hid R7
      clear R7
      have hnl := name_list hk0
      by_cases hc : name k0 = l
      · have hcmp : ((nameB k0).toList == l) = true := by rw [hnl, hc]; simp
        have hfd := find_at hk0 hc
        have hkk := HKK.out
        have hbb := HBB.out
        rw [hfd] at hkk hbb
        simp only [Option.getD_some, Option.isSome_some] at hkk hbb
        have hkk2 := hkk.symm
        subst hkk2; subst hbb
        clear hfd hc hnl hkeys hmem
        go_wp2_with ((refine wpList_store_row rfl 84 _ _ rfl w5.heap.size (cellsK k0) rfl rfl _ _ (by exact XS) (by kernel_rfl) (by kernel_rfl) (by kernel_rfl) ?_); rw [← hz6]; clear hz6 XS; have z6c := Z6.cells; have z6l := Z6.lt; have ec : (cellsK k0)[0]? = some (.string (nameB k0)) := rfl)
        have hS0 : Bk z6.drew w5.heap.size (cellsK k0) 84 := Z6
        have X8 : Bk z6.drew w.heap.size (cellsK 0) 84 := X7
        have b8 : Below w.heap.size w z6.drew := Below.drew b6
        clear X7 b6 z6c z6l Z6
        refine wp_region_held_drew (S := fun w' => Bk w' w5.heap.size (cellsK k0) 84) (by kernel_rfl) hS0 (fun hHeld => ?_)
        clear hS0
        generalize z6.drew = z0 at *
        refine wpAnyH_take (i := 0) (oi := _) (v := iV k0) rfl (by kernel_rfl) (by kernel_rfl) (by kernel_rfl) (fun _ _ _ h => h) (Or.inl ⟨by rfl, fun w' hSw => by go_simp⟩) hHeld ?_
        try simp only [Act.put, List.getElem_toArray, List.getElem_cons_succ, List.getElem_cons_zero, List.setIfInBounds_toArray, List.set_cons_succ, List.set_cons_zero]
        refine wpAnyH_ready (rs := [1, 2]) (by kernel_rfl) (by simp) ?_
        refine AllReadyH.cons (o := _) rfl (fun K hK => ?_) (AllReadyH.cons (o := _) rfl (fun K hK => ?_) AllReadyH.nil)
        · refine step_load rfl 84 _ rfl (w5.heap.size) rfl (cellsK k0) 84 _ (by exact hHeld) Tryz.underlying84 rfl (by kernel_rfl) ?_
          refine hK.out _ _ hHeld (fun hHeld => ?_)
          clear hK K
          try simp only [Act.put, List.getElem_toArray, List.getElem_cons_succ, List.getElem_cons_zero, List.setIfInBounds_toArray, List.set_cons_succ, List.set_cons_zero]
          refine wpAnyH_take (i := 2) (oi := _) (v := iV k0) rfl (by kernel_rfl) (by kernel_rfl) (by kernel_rfl) (fun _ _ _ h => h) (Or.inl ⟨by rfl, fun w' hSw => by go_simp⟩) hHeld ?_
          try simp only [Act.put, List.getElem_toArray, List.getElem_cons_succ, List.getElem_cons_zero, List.setIfInBounds_toArray, List.set_cons_succ, List.set_cons_zero]
          refine wpAnyH_ready (rs := [3]) (by kernel_rfl) (by simp) ?_
          refine AllReadyH.cons (o := _) rfl (fun K hK => ?_) AllReadyH.nil
          have X9 := X8.setRow (cellsK k0)
          have b9 := below_setRow b8 (Nat.le_refl w.heap.size) (cellsK k0)
          have hS9 : Bk (z0.setRow w.heap.size (cellsK k0)) w5.heap.size (cellsK k0) 84 := hHeld.setRow_far (by omega) _
          refine step_row rfl 84 (.tmp 3) (.tmp 20) rfl w.heap.size (cellsK k0) rfl rfl 84 (cellsK 0) (by exact X8) (by kernel_rfl) rfl (cells_one _) ?_
          obtain ⟨z9, hz9⟩ : ∃ q, q = z0.setRow w.heap.size (cellsK k0) := ⟨_, rfl⟩
          rw [← hz9] at X9 b9 hS9 ⊢
          clear hz9 X8 b8
          refine hK.out _ _ hS9 (fun hHeld => ?_)
          clear hK K
          try simp only [Act.put, List.getElem_toArray, List.getElem_cons_succ, List.getElem_cons_zero, List.setIfInBounds_toArray, List.set_cons_succ, List.set_cons_zero]
          refine wpAnyH_take (i := 4) (oi := _) (v := .bool true) rfl (by kernel_rfl) (by kernel_rfl) (by kernel_rfl) (fun _ _ _ h => h) (Or.inl ⟨by rfl, fun w' hSw => by go_simp⟩) hHeld ?_
          try simp only [Act.put, List.getElem_toArray, List.getElem_cons_succ, List.getElem_cons_zero, List.setIfInBounds_toArray, List.set_cons_succ, List.set_cons_zero]
          refine wpAnyH_done (by kernel_rfl) ?_ _
          simp only [Exit.then]
          clear hHeld
          go_wp2_with fail
          have hS0 : Bk z9.drew w.heap.size (cellsK k0) 84 := X9
          have bz : Below w.heap.size w z9.drew := Below.drew b9
          refine wp_region_held_drew (S := fun w' => Bk w' w.heap.size (cellsK k0) 84) (by kernel_rfl) hS0 (fun hHeld => ?_)
          clear hS0
          generalize z9.drew = z7 at *
          refine wpAnyH_take (i := 0) (oi := _) (v := .int .i64 k0) rfl (by kernel_rfl) (by kernel_rfl) (by kernel_rfl) (fun _ _ _ h => h) (Or.inl ⟨by rfl, fun w' hSw => by go_simp⟩) hHeld ?_
          try simp only [Act.put, List.getElem_toArray, List.getElem_cons_succ, List.getElem_cons_zero, List.setIfInBounds_toArray, List.set_cons_succ, List.set_cons_zero]
          refine wpAnyH_ready (rs := [1, 2, 3]) (by kernel_rfl) (by simp) ?_
          refine AllReadyH.cons (o := _) rfl (fun K hK => ?_) (AllReadyH.cons (o := _) rfl (fun K hK => ?_) (AllReadyH.cons (o := _) rfl (fun K hK => ?_) AllReadyH.nil))
          · refine step_load rfl 84 _ rfl (w.heap.size) rfl (cellsK k0) 84 _ (by exact hHeld) Tryz.underlying84 rfl (by kernel_rfl) ?_
            refine hK.out _ _ hHeld (fun hHeld => ?_)
            clear hK K
            try simp only [Act.put, List.getElem_toArray, List.getElem_cons_succ, List.getElem_cons_zero, List.setIfInBounds_toArray, List.set_cons_succ, List.set_cons_zero]
            refine wpAnyH_ready (rs := [2, 3]) (by kernel_rfl) (by simp) ?_
            refine AllReadyH.cons (o := _) rfl (fun K hK => ?_) (AllReadyH.cons (o := _) rfl (fun K hK => ?_) AllReadyH.nil)
            · go_simp
              refine hK.out _ _ hHeld (fun hHeld => ?_)
              clear hK K
              try simp only [Act.put, List.getElem_toArray, List.getElem_cons_succ, List.getElem_cons_zero, List.setIfInBounds_toArray, List.set_cons_succ, List.set_cons_zero]
              refine wpAnyH_take (i := 3) (oi := _) (v := .int .i64 k0) rfl (by kernel_rfl) (by kernel_rfl) (by kernel_rfl) (fun _ _ _ h => h) (Or.inl ⟨by rfl, fun w' hSw => by go_simp⟩) hHeld ?_
              try simp only [Act.put, List.getElem_toArray, List.getElem_cons_succ, List.getElem_cons_zero, List.setIfInBounds_toArray, List.set_cons_succ, List.set_cons_zero]
              refine wpAnyH_ready (rs := [4]) (by kernel_rfl) (by simp) ?_
              refine AllReadyH.cons (o := _) rfl (fun K hK => ?_) AllReadyH.nil
              have b10 := below_setRow bz (Nat.le_refl w.heap.size) (cellsK k0)
              have hS9 := hHeld.setRow (cellsK k0)
              refine step_row rfl 84 (.tmp 3) (.tmp 22) rfl w.heap.size (cellsK k0) rfl rfl 84 (cellsK k0) (by exact hHeld) (by kernel_rfl) rfl (cells_one _) ?_
              obtain ⟨z10, hz9⟩ : ∃ q, q = z7.setRow w.heap.size (cellsK k0) := ⟨_, rfl⟩
              rw [← hz9] at b10 hS9 ⊢
              clear hz9 bz
              refine hK.out _ _ hS9 (fun hHeld => ?_)
              clear hK K
              try simp only [Act.put, List.getElem_toArray, List.getElem_cons_succ, List.getElem_cons_zero, List.setIfInBounds_toArray, List.set_cons_succ, List.set_cons_zero]
              refine wpAnyH_take (i := 5) (oi := _) (v := .bool true) rfl (by kernel_rfl) (by kernel_rfl) (by kernel_rfl) (fun _ _ _ h => h) (Or.inl ⟨by rfl, fun w' hSw => by go_simp⟩) hHeld ?_
              try simp only [Act.put, List.getElem_toArray, List.getElem_cons_succ, List.getElem_cons_zero, List.setIfInBounds_toArray, List.set_cons_succ, List.set_cons_zero]
              refine wpAnyH_done (by kernel_rfl) ?_ _
              simp only [Exit.then]
              go_wp2_with fail
              simp only [Exit.noGoto]
              refine bodyPost_ret (v := .tuple #[.int .i64 k0, .agg (cellsK k0), .bool true]) ?_ rfl ⟨rfl, b10⟩
              exact results_slot_cell_slot (p := 3) (q := 2) (r := 4) (ty := 84) Tryz.results93 _ _ w.heap.size 84 _ _ rfl hHeld Tryz.underlying84 rfl (by kernel_rfl)
            · go_simp
              refine hK.out _ _ hHeld (fun hHeld => ?_)
              clear hK K
              try simp only [Act.put, List.getElem_toArray, List.getElem_cons_succ, List.getElem_cons_zero, List.setIfInBounds_toArray, List.set_cons_succ, List.set_cons_zero]
              refine wpAnyH_ready (rs := [2, 4]) (by kernel_rfl) (by simp) ?_
              refine AllReadyH.cons (o := _) rfl (fun K hK => ?_) (AllReadyH.cons (o := _) rfl (fun K hK => ?_) AllReadyH.nil)
              · go_simp
                refine hK.out _ _ hHeld (fun hHeld => ?_)
                clear hK K
                try simp only [Act.put, List.getElem_toArray, List.getElem_cons_succ, List.getElem_cons_zero, List.setIfInBounds_toArray, List.set_cons_succ, List.set_cons_zero]
                refine wpAnyH_ready (rs := [4]) (by kernel_rfl) (by simp) ?_
                refine AllReadyH.cons (o := _) rfl (fun K hK => ?_) AllReadyH.nil
                have b10 := below_setRow bz (Nat.le_refl w.heap.size) (cellsK k0)
                have hS9 := hHeld.setRow (cellsK k0)
                refine step_row rfl 84 (.tmp 3) (.tmp 22) rfl w.heap.size (cellsK k0) rfl rfl 84 (cellsK k0) (by exact hHeld) (by kernel_rfl) rfl (cells_one _) ?_
                obtain ⟨z10, hz9⟩ : ∃ q, q = z7.setRow w.heap.size (cellsK k0) := ⟨_, rfl⟩
                rw [← hz9] at b10 hS9 ⊢
                clear hz9 bz
                refine hK.out _ _ hS9 (fun hHeld => ?_)
                clear hK K
                try simp only [Act.put, List.getElem_toArray, List.getElem_cons_succ, List.getElem_cons_zero, List.setIfInBounds_toArray, List.set_cons_succ, List.set_cons_zero]
                refine wpAnyH_take (i := 5) (oi := _) (v := .bool true) rfl (by kernel_rfl) (by kernel_rfl) (by kernel_rfl) (fun _ _ _ h => h) (Or.inl ⟨by rfl, fun w' hSw => by go_simp⟩) hHeld ?_
                try simp only [Act.put, List.getElem_toArray, List.getElem_cons_succ, List.getElem_cons_zero, List.setIfInBounds_toArray, List.set_cons_succ, List.set_cons_zero]
                refine wpAnyH_done (by kernel_rfl) ?_ _
                simp only [Exit.then]
                go_wp2_with fail
                simp only [Exit.noGoto]
                refine bodyPost_ret (v := .tuple #[.int .i64 k0, .agg (cellsK k0), .bool true]) ?_ rfl ⟨rfl, b10⟩
                exact results_slot_cell_slot (p := 3) (q := 2) (r := 4) (ty := 84) Tryz.results93 _ _ w.heap.size 84 _ _ rfl hHeld Tryz.underlying84 rfl (by kernel_rfl)
              · have b10 := below_setRow bz (Nat.le_refl w.heap.size) (cellsK k0)
                have hS9 := hHeld.setRow (cellsK k0)
                refine step_row rfl 84 (.tmp 3) (.tmp 22) rfl w.heap.size (cellsK k0) rfl rfl 84 (cellsK k0) (by exact hHeld) (by kernel_rfl) rfl (cells_one _) ?_
                obtain ⟨z10, hz9⟩ : ∃ q, q = z7.setRow w.heap.size (cellsK k0) := ⟨_, rfl⟩
                rw [← hz9] at b10 hS9 ⊢
                clear hz9 bz
                refine hK.out _ _ hS9 (fun hHeld => ?_)
                clear hK K
                try simp only [Act.put, List.getElem_toArray, List.getElem_cons_succ, List.getElem_cons_zero, List.setIfInBounds_toArray, List.set_cons_succ, List.set_cons_zero]
                refine wpAnyH_take (i := 2) (oi := _) (v := .bool true) rfl (by kernel_rfl) (by kernel_rfl) (by kernel_rfl) (fun _ _ _ h => h) (Or.inl ⟨by rfl, fun w' hSw => by go_simp⟩) hHeld ?_
                try simp only [Act.put, List.getElem_toArray, List.getElem_cons_succ, List.getElem_cons_zero, List.setIfInBounds_toArray, List.set_cons_succ, List.set_cons_zero]
                refine wpAnyH_take (i := 5) (oi := _) (v := .bool true) rfl (by kernel_rfl) (by kernel_rfl) (by kernel_rfl) (fun _ _ _ h => h) (Or.inl ⟨by rfl, fun w' hSw => by go_simp⟩) hHeld ?_
                try simp only [Act.put, List.getElem_toArray, List.getElem_cons_succ, List.getElem_cons_zero, List.setIfInBounds_toArray, List.set_cons_succ, List.set_cons_zero]
                refine wpAnyH_done (by kernel_rfl) ?_ _
                simp only [Exit.then]
                go_wp2_with fail
                simp only [Exit.noGoto]
                refine bodyPost_ret (v := .tuple #[.int .i64 k0, .agg (cellsK k0), .bool true]) ?_ rfl ⟨rfl, b10⟩
                exact results_slot_cell_slot (p := 3) (q := 2) (r := 4) (ty := 84) Tryz.results93 _ _ w.heap.size 84 _ _ rfl hHeld Tryz.underlying84 rfl (by kernel_rfl)
          · go_simp
            refine hK.out _ _ hHeld (fun hHeld => ?_)
            clear hK K
            try simp only [Act.put, List.getElem_toArray, List.getElem_cons_succ, List.getElem_cons_zero, List.setIfInBounds_toArray, List.set_cons_succ, List.set_cons_zero]
            refine wpAnyH_ready (rs := [1, 3]) (by kernel_rfl) (by simp) ?_
            refine AllReadyH.cons (o := _) rfl (fun K hK => ?_) (AllReadyH.cons (o := _) rfl (fun K hK => ?_) AllReadyH.nil)
            · refine step_load rfl 84 _ rfl (w.heap.size) rfl (cellsK k0) 84 _ (by exact hHeld) Tryz.underlying84 rfl (by kernel_rfl) ?_
              refine hK.out _ _ hHeld (fun hHeld => ?_)
              clear hK K
              try simp only [Act.put, List.getElem_toArray, List.getElem_cons_succ, List.getElem_cons_zero, List.setIfInBounds_toArray, List.set_cons_succ, List.set_cons_zero]
              refine wpAnyH_take (i := 3) (oi := _) (v := .int .i64 k0) rfl (by kernel_rfl) (by kernel_rfl) (by kernel_rfl) (fun _ _ _ h => h) (Or.inl ⟨by rfl, fun w' hSw => by go_simp⟩) hHeld ?_
              try simp only [Act.put, List.getElem_toArray, List.getElem_cons_succ, List.getElem_cons_zero, List.setIfInBounds_toArray, List.set_cons_succ, List.set_cons_zero]
              refine wpAnyH_ready (rs := [4]) (by kernel_rfl) (by simp) ?_
              refine AllReadyH.cons (o := _) rfl (fun K hK => ?_) AllReadyH.nil
              have b10 := below_setRow bz (Nat.le_refl w.heap.size) (cellsK k0)
              have hS9 := hHeld.setRow (cellsK k0)
              refine step_row rfl 84 (.tmp 3) (.tmp 22) rfl w.heap.size (cellsK k0) rfl rfl 84 (cellsK k0) (by exact hHeld) (by kernel_rfl) rfl (cells_one _) ?_
              obtain ⟨z10, hz9⟩ : ∃ q, q = z7.setRow w.heap.size (cellsK k0) := ⟨_, rfl⟩
              rw [← hz9] at b10 hS9 ⊢
              clear hz9 bz
              refine hK.out _ _ hS9 (fun hHeld => ?_)
              clear hK K
              try simp only [Act.put, List.getElem_toArray, List.getElem_cons_succ, List.getElem_cons_zero, List.setIfInBounds_toArray, List.set_cons_succ, List.set_cons_zero]
              refine wpAnyH_take (i := 5) (oi := _) (v := .bool true) rfl (by kernel_rfl) (by kernel_rfl) (by kernel_rfl) (fun _ _ _ h => h) (Or.inl ⟨by rfl, fun w' hSw => by go_simp⟩) hHeld ?_
              try simp only [Act.put, List.getElem_toArray, List.getElem_cons_succ, List.getElem_cons_zero, List.setIfInBounds_toArray, List.set_cons_succ, List.set_cons_zero]
              refine wpAnyH_done (by kernel_rfl) ?_ _
              simp only [Exit.then]
              go_wp2_with fail
              simp only [Exit.noGoto]
              refine bodyPost_ret (v := .tuple #[.int .i64 k0, .agg (cellsK k0), .bool true]) ?_ rfl ⟨rfl, b10⟩
              exact results_slot_cell_slot (p := 3) (q := 2) (r := 4) (ty := 84) Tryz.results93 _ _ w.heap.size 84 _ _ rfl hHeld Tryz.underlying84 rfl (by kernel_rfl)
            · go_simp
              refine hK.out _ _ hHeld (fun hHeld => ?_)
              clear hK K
              try simp only [Act.put, List.getElem_toArray, List.getElem_cons_succ, List.getElem_cons_zero, List.setIfInBounds_toArray, List.set_cons_succ, List.set_cons_zero]
              refine wpAnyH_ready (rs := [1]) (by kernel_rfl) (by simp) ?_
              refine AllReadyH.cons (o := _) rfl (fun K hK => ?_) AllReadyH.nil
              refine step_load rfl 84 _ rfl (w.heap.size) rfl (cellsK k0) 84 _ (by exact hHeld) Tryz.underlying84 rfl (by kernel_rfl) ?_
              refine hK.out _ _ hHeld (fun hHeld => ?_)
              clear hK K
              try simp only [Act.put, List.getElem_toArray, List.getElem_cons_succ, List.getElem_cons_zero, List.setIfInBounds_toArray, List.set_cons_succ, List.set_cons_zero]
              refine wpAnyH_ready (rs := [4]) (by kernel_rfl) (by simp) ?_
              refine AllReadyH.cons (o := _) rfl (fun K hK => ?_) AllReadyH.nil
              have b10 := below_setRow bz (Nat.le_refl w.heap.size) (cellsK k0)
              have hS9 := hHeld.setRow (cellsK k0)
              refine step_row rfl 84 (.tmp 3) (.tmp 22) rfl w.heap.size (cellsK k0) rfl rfl 84 (cellsK k0) (by exact hHeld) (by kernel_rfl) rfl (cells_one _) ?_
              obtain ⟨z10, hz9⟩ : ∃ q, q = z7.setRow w.heap.size (cellsK k0) := ⟨_, rfl⟩
              rw [← hz9] at b10 hS9 ⊢
              clear hz9 bz
              refine hK.out _ _ hS9 (fun hHeld => ?_)
              clear hK K
              try simp only [Act.put, List.getElem_toArray, List.getElem_cons_succ, List.getElem_cons_zero, List.setIfInBounds_toArray, List.set_cons_succ, List.set_cons_zero]
              refine wpAnyH_take (i := 5) (oi := _) (v := .bool true) rfl (by kernel_rfl) (by kernel_rfl) (by kernel_rfl) (fun _ _ _ h => h) (Or.inl ⟨by rfl, fun w' hSw => by go_simp⟩) hHeld ?_
              try simp only [Act.put, List.getElem_toArray, List.getElem_cons_succ, List.getElem_cons_zero, List.setIfInBounds_toArray, List.set_cons_succ, List.set_cons_zero]
              refine wpAnyH_done (by kernel_rfl) ?_ _
              simp only [Exit.then]
              go_wp2_with fail
              simp only [Exit.noGoto]
              refine bodyPost_ret (v := .tuple #[.int .i64 k0, .agg (cellsK k0), .bool true]) ?_ rfl ⟨rfl, b10⟩
              exact results_slot_cell_slot (p := 3) (q := 2) (r := 4) (ty := 84) Tryz.results93 _ _ w.heap.size 84 _ _ rfl hHeld Tryz.underlying84 rfl (by kernel_rfl)
          · go_simp
            refine hK.out _ _ hHeld (fun hHeld => ?_)
            clear hK K
            try simp only [Act.put, List.getElem_toArray, List.getElem_cons_succ, List.getElem_cons_zero, List.setIfInBounds_toArray, List.set_cons_succ, List.set_cons_zero]
            refine wpAnyH_ready (rs := [1, 2]) (by kernel_rfl) (by simp) ?_
            refine AllReadyH.cons (o := _) rfl (fun K hK => ?_) (AllReadyH.cons (o := _) rfl (fun K hK => ?_) AllReadyH.nil)
            · refine step_load rfl 84 _ rfl (w.heap.size) rfl (cellsK k0) 84 _ (by exact hHeld) Tryz.underlying84 rfl (by kernel_rfl) ?_
              refine hK.out _ _ hHeld (fun hHeld => ?_)
              clear hK K
              try simp only [Act.put, List.getElem_toArray, List.getElem_cons_succ, List.getElem_cons_zero, List.setIfInBounds_toArray, List.set_cons_succ, List.set_cons_zero]
              refine wpAnyH_ready (rs := [2, 4]) (by kernel_rfl) (by simp) ?_
              refine AllReadyH.cons (o := _) rfl (fun K hK => ?_) (AllReadyH.cons (o := _) rfl (fun K hK => ?_) AllReadyH.nil)
              · go_simp
                refine hK.out _ _ hHeld (fun hHeld => ?_)
                clear hK K
                try simp only [Act.put, List.getElem_toArray, List.getElem_cons_succ, List.getElem_cons_zero, List.setIfInBounds_toArray, List.set_cons_succ, List.set_cons_zero]
                refine wpAnyH_ready (rs := [4]) (by kernel_rfl) (by simp) ?_
                refine AllReadyH.cons (o := _) rfl (fun K hK => ?_) AllReadyH.nil
                have b10 := below_setRow bz (Nat.le_refl w.heap.size) (cellsK k0)
                have hS9 := hHeld.setRow (cellsK k0)
                refine step_row rfl 84 (.tmp 3) (.tmp 22) rfl w.heap.size (cellsK k0) rfl rfl 84 (cellsK k0) (by exact hHeld) (by kernel_rfl) rfl (cells_one _) ?_
                obtain ⟨z10, hz9⟩ : ∃ q, q = z7.setRow w.heap.size (cellsK k0) := ⟨_, rfl⟩
                rw [← hz9] at b10 hS9 ⊢
                clear hz9 bz
                refine hK.out _ _ hS9 (fun hHeld => ?_)
                clear hK K
                try simp only [Act.put, List.getElem_toArray, List.getElem_cons_succ, List.getElem_cons_zero, List.setIfInBounds_toArray, List.set_cons_succ, List.set_cons_zero]
                refine wpAnyH_take (i := 5) (oi := _) (v := .bool true) rfl (by kernel_rfl) (by kernel_rfl) (by kernel_rfl) (fun _ _ _ h => h) (Or.inl ⟨by rfl, fun w' hSw => by go_simp⟩) hHeld ?_
                try simp only [Act.put, List.getElem_toArray, List.getElem_cons_succ, List.getElem_cons_zero, List.setIfInBounds_toArray, List.set_cons_succ, List.set_cons_zero]
                refine wpAnyH_done (by kernel_rfl) ?_ _
                simp only [Exit.then]
                go_wp2_with fail
                simp only [Exit.noGoto]
                refine bodyPost_ret (v := .tuple #[.int .i64 k0, .agg (cellsK k0), .bool true]) ?_ rfl ⟨rfl, b10⟩
                exact results_slot_cell_slot (p := 3) (q := 2) (r := 4) (ty := 84) Tryz.results93 _ _ w.heap.size 84 _ _ rfl hHeld Tryz.underlying84 rfl (by kernel_rfl)
              · have b10 := below_setRow bz (Nat.le_refl w.heap.size) (cellsK k0)
                have hS9 := hHeld.setRow (cellsK k0)
                refine step_row rfl 84 (.tmp 3) (.tmp 22) rfl w.heap.size (cellsK k0) rfl rfl 84 (cellsK k0) (by exact hHeld) (by kernel_rfl) rfl (cells_one _) ?_
                obtain ⟨z10, hz9⟩ : ∃ q, q = z7.setRow w.heap.size (cellsK k0) := ⟨_, rfl⟩
                rw [← hz9] at b10 hS9 ⊢
                clear hz9 bz
                refine hK.out _ _ hS9 (fun hHeld => ?_)
                clear hK K
                try simp only [Act.put, List.getElem_toArray, List.getElem_cons_succ, List.getElem_cons_zero, List.setIfInBounds_toArray, List.set_cons_succ, List.set_cons_zero]
                refine wpAnyH_take (i := 2) (oi := _) (v := .bool true) rfl (by kernel_rfl) (by kernel_rfl) (by kernel_rfl) (fun _ _ _ h => h) (Or.inl ⟨by rfl, fun w' hSw => by go_simp⟩) hHeld ?_
                try simp only [Act.put, List.getElem_toArray, List.getElem_cons_succ, List.getElem_cons_zero, List.setIfInBounds_toArray, List.set_cons_succ, List.set_cons_zero]
                refine wpAnyH_take (i := 5) (oi := _) (v := .bool true) rfl (by kernel_rfl) (by kernel_rfl) (by kernel_rfl) (fun _ _ _ h => h) (Or.inl ⟨by rfl, fun w' hSw => by go_simp⟩) hHeld ?_
                try simp only [Act.put, List.getElem_toArray, List.getElem_cons_succ, List.getElem_cons_zero, List.setIfInBounds_toArray, List.set_cons_succ, List.set_cons_zero]
                refine wpAnyH_done (by kernel_rfl) ?_ _
                simp only [Exit.then]
                go_wp2_with fail
                simp only [Exit.noGoto]
                refine bodyPost_ret (v := .tuple #[.int .i64 k0, .agg (cellsK k0), .bool true]) ?_ rfl ⟨rfl, b10⟩
                exact results_slot_cell_slot (p := 3) (q := 2) (r := 4) (ty := 84) Tryz.results93 _ _ w.heap.size 84 _ _ rfl hHeld Tryz.underlying84 rfl (by kernel_rfl)
            · go_simp
              refine hK.out _ _ hHeld (fun hHeld => ?_)
              clear hK K
              try simp only [Act.put, List.getElem_toArray, List.getElem_cons_succ, List.getElem_cons_zero, List.setIfInBounds_toArray, List.set_cons_succ, List.set_cons_zero]
              refine wpAnyH_ready (rs := [1]) (by kernel_rfl) (by simp) ?_
              refine AllReadyH.cons (o := _) rfl (fun K hK => ?_) AllReadyH.nil
              refine step_load rfl 84 _ rfl (w.heap.size) rfl (cellsK k0) 84 _ (by exact hHeld) Tryz.underlying84 rfl (by kernel_rfl) ?_
              refine hK.out _ _ hHeld (fun hHeld => ?_)
              clear hK K
              try simp only [Act.put, List.getElem_toArray, List.getElem_cons_succ, List.getElem_cons_zero, List.setIfInBounds_toArray, List.set_cons_succ, List.set_cons_zero]
              refine wpAnyH_ready (rs := [4]) (by kernel_rfl) (by simp) ?_
              refine AllReadyH.cons (o := _) rfl (fun K hK => ?_) AllReadyH.nil
              have b10 := below_setRow bz (Nat.le_refl w.heap.size) (cellsK k0)
              have hS9 := hHeld.setRow (cellsK k0)
              refine step_row rfl 84 (.tmp 3) (.tmp 22) rfl w.heap.size (cellsK k0) rfl rfl 84 (cellsK k0) (by exact hHeld) (by kernel_rfl) rfl (cells_one _) ?_
              obtain ⟨z10, hz9⟩ : ∃ q, q = z7.setRow w.heap.size (cellsK k0) := ⟨_, rfl⟩
              rw [← hz9] at b10 hS9 ⊢
              clear hz9 bz
              refine hK.out _ _ hS9 (fun hHeld => ?_)
              clear hK K
              try simp only [Act.put, List.getElem_toArray, List.getElem_cons_succ, List.getElem_cons_zero, List.setIfInBounds_toArray, List.set_cons_succ, List.set_cons_zero]
              refine wpAnyH_take (i := 5) (oi := _) (v := .bool true) rfl (by kernel_rfl) (by kernel_rfl) (by kernel_rfl) (fun _ _ _ h => h) (Or.inl ⟨by rfl, fun w' hSw => by go_simp⟩) hHeld ?_
              try simp only [Act.put, List.getElem_toArray, List.getElem_cons_succ, List.getElem_cons_zero, List.setIfInBounds_toArray, List.set_cons_succ, List.set_cons_zero]
              refine wpAnyH_done (by kernel_rfl) ?_ _
              simp only [Exit.then]
              go_wp2_with fail
              simp only [Exit.noGoto]
              refine bodyPost_ret (v := .tuple #[.int .i64 k0, .agg (cellsK k0), .bool true]) ?_ rfl ⟨rfl, b10⟩
              exact results_slot_cell_slot (p := 3) (q := 2) (r := 4) (ty := 84) Tryz.results93 _ _ w.heap.size 84 _ _ rfl hHeld Tryz.underlying84 rfl (by kernel_rfl)
        · go_simp
          refine hK.out _ _ hHeld (fun hHeld => ?_)
          clear hK K
          try simp only [Act.put, List.getElem_toArray, List.getElem_cons_succ, List.getElem_cons_zero, List.setIfInBounds_toArray, List.set_cons_succ, List.set_cons_zero]
          refine wpAnyH_ready (rs := [1]) (by kernel_rfl) (by simp) ?_
          refine AllReadyH.cons (o := _) rfl (fun K hK => ?_) AllReadyH.nil
          refine step_load rfl 84 _ rfl (w5.heap.size) rfl (cellsK k0) 84 _ (by exact hHeld) Tryz.underlying84 rfl (by kernel_rfl) ?_
          refine hK.out _ _ hHeld (fun hHeld => ?_)
          clear hK K
          try simp only [Act.put, List.getElem_toArray, List.getElem_cons_succ, List.getElem_cons_zero, List.setIfInBounds_toArray, List.set_cons_succ, List.set_cons_zero]
          refine wpAnyH_ready (rs := [3]) (by kernel_rfl) (by simp) ?_
          refine AllReadyH.cons (o := _) rfl (fun K hK => ?_) AllReadyH.nil
          have X9 := X8.setRow (cellsK k0)
          have b9 := below_setRow b8 (Nat.le_refl w.heap.size) (cellsK k0)
          have hS9 : Bk (z0.setRow w.heap.size (cellsK k0)) w5.heap.size (cellsK k0) 84 := hHeld.setRow_far (by omega) _
          refine step_row rfl 84 (.tmp 3) (.tmp 20) rfl w.heap.size (cellsK k0) rfl rfl 84 (cellsK 0) (by exact X8) (by kernel_rfl) rfl (cells_one _) ?_
          obtain ⟨z9, hz9⟩ : ∃ q, q = z0.setRow w.heap.size (cellsK k0) := ⟨_, rfl⟩
          rw [← hz9] at X9 b9 hS9 ⊢
          clear hz9 X8 b8
          refine hK.out _ _ hS9 (fun hHeld => ?_)
          clear hK K
          try simp only [Act.put, List.getElem_toArray, List.getElem_cons_succ, List.getElem_cons_zero, List.setIfInBounds_toArray, List.set_cons_succ, List.set_cons_zero]
          refine wpAnyH_take (i := 4) (oi := _) (v := .bool true) rfl (by kernel_rfl) (by kernel_rfl) (by kernel_rfl) (fun _ _ _ h => h) (Or.inl ⟨by rfl, fun w' hSw => by go_simp⟩) hHeld ?_
          try simp only [Act.put, List.getElem_toArray, List.getElem_cons_succ, List.getElem_cons_zero, List.setIfInBounds_toArray, List.set_cons_succ, List.set_cons_zero]
          refine wpAnyH_done (by kernel_rfl) ?_ _
          simp only [Exit.then]
          clear hHeld
          go_wp2_with fail
          have hS0 : Bk z9.drew w.heap.size (cellsK k0) 84 := X9
          have bz : Below w.heap.size w z9.drew := Below.drew b9
          refine wp_region_held_drew (S := fun w' => Bk w' w.heap.size (cellsK k0) 84) (by kernel_rfl) hS0 (fun hHeld => ?_)
          clear hS0
          generalize z9.drew = z7 at *
          refine wpAnyH_take (i := 0) (oi := _) (v := .int .i64 k0) rfl (by kernel_rfl) (by kernel_rfl) (by kernel_rfl) (fun _ _ _ h => h) (Or.inl ⟨by rfl, fun w' hSw => by go_simp⟩) hHeld ?_
          try simp only [Act.put, List.getElem_toArray, List.getElem_cons_succ, List.getElem_cons_zero, List.setIfInBounds_toArray, List.set_cons_succ, List.set_cons_zero]
          refine wpAnyH_ready (rs := [1, 2, 3]) (by kernel_rfl) (by simp) ?_
          refine AllReadyH.cons (o := _) rfl (fun K hK => ?_) (AllReadyH.cons (o := _) rfl (fun K hK => ?_) (AllReadyH.cons (o := _) rfl (fun K hK => ?_) AllReadyH.nil))
          · refine step_load rfl 84 _ rfl (w.heap.size) rfl (cellsK k0) 84 _ (by exact hHeld) Tryz.underlying84 rfl (by kernel_rfl) ?_
            refine hK.out _ _ hHeld (fun hHeld => ?_)
            clear hK K
            try simp only [Act.put, List.getElem_toArray, List.getElem_cons_succ, List.getElem_cons_zero, List.setIfInBounds_toArray, List.set_cons_succ, List.set_cons_zero]
            refine wpAnyH_ready (rs := [2, 3]) (by kernel_rfl) (by simp) ?_
            refine AllReadyH.cons (o := _) rfl (fun K hK => ?_) (AllReadyH.cons (o := _) rfl (fun K hK => ?_) AllReadyH.nil)
            · go_simp
              refine hK.out _ _ hHeld (fun hHeld => ?_)
              clear hK K
              try simp only [Act.put, List.getElem_toArray, List.getElem_cons_succ, List.getElem_cons_zero, List.setIfInBounds_toArray, List.set_cons_succ, List.set_cons_zero]
              refine wpAnyH_take (i := 3) (oi := _) (v := .int .i64 k0) rfl (by kernel_rfl) (by kernel_rfl) (by kernel_rfl) (fun _ _ _ h => h) (Or.inl ⟨by rfl, fun w' hSw => by go_simp⟩) hHeld ?_
              try simp only [Act.put, List.getElem_toArray, List.getElem_cons_succ, List.getElem_cons_zero, List.setIfInBounds_toArray, List.set_cons_succ, List.set_cons_zero]
              refine wpAnyH_ready (rs := [4]) (by kernel_rfl) (by simp) ?_
              refine AllReadyH.cons (o := _) rfl (fun K hK => ?_) AllReadyH.nil
              have b10 := below_setRow bz (Nat.le_refl w.heap.size) (cellsK k0)
              have hS9 := hHeld.setRow (cellsK k0)
              refine step_row rfl 84 (.tmp 3) (.tmp 22) rfl w.heap.size (cellsK k0) rfl rfl 84 (cellsK k0) (by exact hHeld) (by kernel_rfl) rfl (cells_one _) ?_
              obtain ⟨z10, hz9⟩ : ∃ q, q = z7.setRow w.heap.size (cellsK k0) := ⟨_, rfl⟩
              rw [← hz9] at b10 hS9 ⊢
              clear hz9 bz
              refine hK.out _ _ hS9 (fun hHeld => ?_)
              clear hK K
              try simp only [Act.put, List.getElem_toArray, List.getElem_cons_succ, List.getElem_cons_zero, List.setIfInBounds_toArray, List.set_cons_succ, List.set_cons_zero]
              refine wpAnyH_take (i := 5) (oi := _) (v := .bool true) rfl (by kernel_rfl) (by kernel_rfl) (by kernel_rfl) (fun _ _ _ h => h) (Or.inl ⟨by rfl, fun w' hSw => by go_simp⟩) hHeld ?_
              try simp only [Act.put, List.getElem_toArray, List.getElem_cons_succ, List.getElem_cons_zero, List.setIfInBounds_toArray, List.set_cons_succ, List.set_cons_zero]
              refine wpAnyH_done (by kernel_rfl) ?_ _
              simp only [Exit.then]
              go_wp2_with fail
              simp only [Exit.noGoto]
              refine bodyPost_ret (v := .tuple #[.int .i64 k0, .agg (cellsK k0), .bool true]) ?_ rfl ⟨rfl, b10⟩
              exact results_slot_cell_slot (p := 3) (q := 2) (r := 4) (ty := 84) Tryz.results93 _ _ w.heap.size 84 _ _ rfl hHeld Tryz.underlying84 rfl (by kernel_rfl)
            · go_simp
              refine hK.out _ _ hHeld (fun hHeld => ?_)
              clear hK K
              try simp only [Act.put, List.getElem_toArray, List.getElem_cons_succ, List.getElem_cons_zero, List.setIfInBounds_toArray, List.set_cons_succ, List.set_cons_zero]
              refine wpAnyH_ready (rs := [2, 4]) (by kernel_rfl) (by simp) ?_
              refine AllReadyH.cons (o := _) rfl (fun K hK => ?_) (AllReadyH.cons (o := _) rfl (fun K hK => ?_) AllReadyH.nil)
              · go_simp
                refine hK.out _ _ hHeld (fun hHeld => ?_)
                clear hK K
                try simp only [Act.put, List.getElem_toArray, List.getElem_cons_succ, List.getElem_cons_zero, List.setIfInBounds_toArray, List.set_cons_succ, List.set_cons_zero]
                refine wpAnyH_ready (rs := [4]) (by kernel_rfl) (by simp) ?_
                refine AllReadyH.cons (o := _) rfl (fun K hK => ?_) AllReadyH.nil
                have b10 := below_setRow bz (Nat.le_refl w.heap.size) (cellsK k0)
                have hS9 := hHeld.setRow (cellsK k0)
                refine step_row rfl 84 (.tmp 3) (.tmp 22) rfl w.heap.size (cellsK k0) rfl rfl 84 (cellsK k0) (by exact hHeld) (by kernel_rfl) rfl (cells_one _) ?_
                obtain ⟨z10, hz9⟩ : ∃ q, q = z7.setRow w.heap.size (cellsK k0) := ⟨_, rfl⟩
                rw [← hz9] at b10 hS9 ⊢
                clear hz9 bz
                refine hK.out _ _ hS9 (fun hHeld => ?_)
                clear hK K
                try simp only [Act.put, List.getElem_toArray, List.getElem_cons_succ, List.getElem_cons_zero, List.setIfInBounds_toArray, List.set_cons_succ, List.set_cons_zero]
                refine wpAnyH_take (i := 5) (oi := _) (v := .bool true) rfl (by kernel_rfl) (by kernel_rfl) (by kernel_rfl) (fun _ _ _ h => h) (Or.inl ⟨by rfl, fun w' hSw => by go_simp⟩) hHeld ?_
                try simp only [Act.put, List.getElem_toArray, List.getElem_cons_succ, List.getElem_cons_zero, List.setIfInBounds_toArray, List.set_cons_succ, List.set_cons_zero]
                refine wpAnyH_done (by kernel_rfl) ?_ _
                simp only [Exit.then]
                go_wp2_with fail
                simp only [Exit.noGoto]
                refine bodyPost_ret (v := .tuple #[.int .i64 k0, .agg (cellsK k0), .bool true]) ?_ rfl ⟨rfl, b10⟩
                exact results_slot_cell_slot (p := 3) (q := 2) (r := 4) (ty := 84) Tryz.results93 _ _ w.heap.size 84 _ _ rfl hHeld Tryz.underlying84 rfl (by kernel_rfl)
              · have b10 := below_setRow bz (Nat.le_refl w.heap.size) (cellsK k0)
                have hS9 := hHeld.setRow (cellsK k0)
                refine step_row rfl 84 (.tmp 3) (.tmp 22) rfl w.heap.size (cellsK k0) rfl rfl 84 (cellsK k0) (by exact hHeld) (by kernel_rfl) rfl (cells_one _) ?_
                obtain ⟨z10, hz9⟩ : ∃ q, q = z7.setRow w.heap.size (cellsK k0) := ⟨_, rfl⟩
                rw [← hz9] at b10 hS9 ⊢
                clear hz9 bz
                refine hK.out _ _ hS9 (fun hHeld => ?_)
                clear hK K
                try simp only [Act.put, List.getElem_toArray, List.getElem_cons_succ, List.getElem_cons_zero, List.setIfInBounds_toArray, List.set_cons_succ, List.set_cons_zero]
                refine wpAnyH_take (i := 2) (oi := _) (v := .bool true) rfl (by kernel_rfl) (by kernel_rfl) (by kernel_rfl) (fun _ _ _ h => h) (Or.inl ⟨by rfl, fun w' hSw => by go_simp⟩) hHeld ?_
                try simp only [Act.put, List.getElem_toArray, List.getElem_cons_succ, List.getElem_cons_zero, List.setIfInBounds_toArray, List.set_cons_succ, List.set_cons_zero]
                refine wpAnyH_take (i := 5) (oi := _) (v := .bool true) rfl (by kernel_rfl) (by kernel_rfl) (by kernel_rfl) (fun _ _ _ h => h) (Or.inl ⟨by rfl, fun w' hSw => by go_simp⟩) hHeld ?_
                try simp only [Act.put, List.getElem_toArray, List.getElem_cons_succ, List.getElem_cons_zero, List.setIfInBounds_toArray, List.set_cons_succ, List.set_cons_zero]
                refine wpAnyH_done (by kernel_rfl) ?_ _
                simp only [Exit.then]
                go_wp2_with fail
                simp only [Exit.noGoto]
                refine bodyPost_ret (v := .tuple #[.int .i64 k0, .agg (cellsK k0), .bool true]) ?_ rfl ⟨rfl, b10⟩
                exact results_slot_cell_slot (p := 3) (q := 2) (r := 4) (ty := 84) Tryz.results93 _ _ w.heap.size 84 _ _ rfl hHeld Tryz.underlying84 rfl (by kernel_rfl)
          · go_simp
            refine hK.out _ _ hHeld (fun hHeld => ?_)
            clear hK K
            try simp only [Act.put, List.getElem_toArray, List.getElem_cons_succ, List.getElem_cons_zero, List.setIfInBounds_toArray, List.set_cons_succ, List.set_cons_zero]
            refine wpAnyH_ready (rs := [1, 3]) (by kernel_rfl) (by simp) ?_
            refine AllReadyH.cons (o := _) rfl (fun K hK => ?_) (AllReadyH.cons (o := _) rfl (fun K hK => ?_) AllReadyH.nil)
            · refine step_load rfl 84 _ rfl (w.heap.size) rfl (cellsK k0) 84 _ (by exact hHeld) Tryz.underlying84 rfl (by kernel_rfl) ?_
              refine hK.out _ _ hHeld (fun hHeld => ?_)
              clear hK K
              try simp only [Act.put, List.getElem_toArray, List.getElem_cons_succ, List.getElem_cons_zero, List.setIfInBounds_toArray, List.set_cons_succ, List.set_cons_zero]
              refine wpAnyH_take (i := 3) (oi := _) (v := .int .i64 k0) rfl (by kernel_rfl) (by kernel_rfl) (by kernel_rfl) (fun _ _ _ h => h) (Or.inl ⟨by rfl, fun w' hSw => by go_simp⟩) hHeld ?_
              try simp only [Act.put, List.getElem_toArray, List.getElem_cons_succ, List.getElem_cons_zero, List.setIfInBounds_toArray, List.set_cons_succ, List.set_cons_zero]
              refine wpAnyH_ready (rs := [4]) (by kernel_rfl) (by simp) ?_
              refine AllReadyH.cons (o := _) rfl (fun K hK => ?_) AllReadyH.nil
              have b10 := below_setRow bz (Nat.le_refl w.heap.size) (cellsK k0)
              have hS9 := hHeld.setRow (cellsK k0)
              refine step_row rfl 84 (.tmp 3) (.tmp 22) rfl w.heap.size (cellsK k0) rfl rfl 84 (cellsK k0) (by exact hHeld) (by kernel_rfl) rfl (cells_one _) ?_
              obtain ⟨z10, hz9⟩ : ∃ q, q = z7.setRow w.heap.size (cellsK k0) := ⟨_, rfl⟩
              rw [← hz9] at b10 hS9 ⊢
              clear hz9 bz
              refine hK.out _ _ hS9 (fun hHeld => ?_)
              clear hK K
              try simp only [Act.put, List.getElem_toArray, List.getElem_cons_succ, List.getElem_cons_zero, List.setIfInBounds_toArray, List.set_cons_succ, List.set_cons_zero]
              refine wpAnyH_take (i := 5) (oi := _) (v := .bool true) rfl (by kernel_rfl) (by kernel_rfl) (by kernel_rfl) (fun _ _ _ h => h) (Or.inl ⟨by rfl, fun w' hSw => by go_simp⟩) hHeld ?_
              try simp only [Act.put, List.getElem_toArray, List.getElem_cons_succ, List.getElem_cons_zero, List.setIfInBounds_toArray, List.set_cons_succ, List.set_cons_zero]
              refine wpAnyH_done (by kernel_rfl) ?_ _
              simp only [Exit.then]
              go_wp2_with fail
              simp only [Exit.noGoto]
              refine bodyPost_ret (v := .tuple #[.int .i64 k0, .agg (cellsK k0), .bool true]) ?_ rfl ⟨rfl, b10⟩
              exact results_slot_cell_slot (p := 3) (q := 2) (r := 4) (ty := 84) Tryz.results93 _ _ w.heap.size 84 _ _ rfl hHeld Tryz.underlying84 rfl (by kernel_rfl)
            · go_simp
              refine hK.out _ _ hHeld (fun hHeld => ?_)
              clear hK K
              try simp only [Act.put, List.getElem_toArray, List.getElem_cons_succ, List.getElem_cons_zero, List.setIfInBounds_toArray, List.set_cons_succ, List.set_cons_zero]
              refine wpAnyH_ready (rs := [1]) (by kernel_rfl) (by simp) ?_
              refine AllReadyH.cons (o := _) rfl (fun K hK => ?_) AllReadyH.nil
              refine step_load rfl 84 _ rfl (w.heap.size) rfl (cellsK k0) 84 _ (by exact hHeld) Tryz.underlying84 rfl (by kernel_rfl) ?_
              refine hK.out _ _ hHeld (fun hHeld => ?_)
              clear hK K
              try simp only [Act.put, List.getElem_toArray, List.getElem_cons_succ, List.getElem_cons_zero, List.setIfInBounds_toArray, List.set_cons_succ, List.set_cons_zero]
              refine wpAnyH_ready (rs := [4]) (by kernel_rfl) (by simp) ?_
              refine AllReadyH.cons (o := _) rfl (fun K hK => ?_) AllReadyH.nil
              have b10 := below_setRow bz (Nat.le_refl w.heap.size) (cellsK k0)
              have hS9 := hHeld.setRow (cellsK k0)
              refine step_row rfl 84 (.tmp 3) (.tmp 22) rfl w.heap.size (cellsK k0) rfl rfl 84 (cellsK k0) (by exact hHeld) (by kernel_rfl) rfl (cells_one _) ?_
              obtain ⟨z10, hz9⟩ : ∃ q, q = z7.setRow w.heap.size (cellsK k0) := ⟨_, rfl⟩
              rw [← hz9] at b10 hS9 ⊢
              clear hz9 bz
              refine hK.out _ _ hS9 (fun hHeld => ?_)
              clear hK K
              try simp only [Act.put, List.getElem_toArray, List.getElem_cons_succ, List.getElem_cons_zero, List.setIfInBounds_toArray, List.set_cons_succ, List.set_cons_zero]
              refine wpAnyH_take (i := 5) (oi := _) (v := .bool true) rfl (by kernel_rfl) (by kernel_rfl) (by kernel_rfl) (fun _ _ _ h => h) (Or.inl ⟨by rfl, fun w' hSw => by go_simp⟩) hHeld ?_
              try simp only [Act.put, List.getElem_toArray, List.getElem_cons_succ, List.getElem_cons_zero, List.setIfInBounds_toArray, List.set_cons_succ, List.set_cons_zero]
              refine wpAnyH_done (by kernel_rfl) ?_ _
              simp only [Exit.then]
              go_wp2_with fail
              simp only [Exit.noGoto]
              refine bodyPost_ret (v := .tuple #[.int .i64 k0, .agg (cellsK k0), .bool true]) ?_ rfl ⟨rfl, b10⟩
              exact results_slot_cell_slot (p := 3) (q := 2) (r := 4) (ty := 84) Tryz.results93 _ _ w.heap.size 84 _ _ rfl hHeld Tryz.underlying84 rfl (by kernel_rfl)
          · go_simp
            refine hK.out _ _ hHeld (fun hHeld => ?_)
            clear hK K
            try simp only [Act.put, List.getElem_toArray, List.getElem_cons_succ, List.getElem_cons_zero, List.setIfInBounds_toArray, List.set_cons_succ, List.set_cons_zero]
            refine wpAnyH_ready (rs := [1, 2]) (by kernel_rfl) (by simp) ?_
            refine AllReadyH.cons (o := _) rfl (fun K hK => ?_) (AllReadyH.cons (o := _) rfl (fun K hK => ?_) AllReadyH.nil)
            · refine step_load rfl 84 _ rfl (w.heap.size) rfl (cellsK k0) 84 _ (by exact hHeld) Tryz.underlying84 rfl (by kernel_rfl) ?_
              refine hK.out _ _ hHeld (fun hHeld => ?_)
              clear hK K
              try simp only [Act.put, List.getElem_toArray, List.getElem_cons_succ, List.getElem_cons_zero, List.setIfInBounds_toArray, List.set_cons_succ, List.set_cons_zero]
              refine wpAnyH_ready (rs := [2, 4]) (by kernel_rfl) (by simp) ?_
              refine AllReadyH.cons (o := _) rfl (fun K hK => ?_) (AllReadyH.cons (o := _) rfl (fun K hK => ?_) AllReadyH.nil)
              · go_simp
                refine hK.out _ _ hHeld (fun hHeld => ?_)
                clear hK K
                try simp only [Act.put, List.getElem_toArray, List.getElem_cons_succ, List.getElem_cons_zero, List.setIfInBounds_toArray, List.set_cons_succ, List.set_cons_zero]
                refine wpAnyH_ready (rs := [4]) (by kernel_rfl) (by simp) ?_
                refine AllReadyH.cons (o := _) rfl (fun K hK => ?_) AllReadyH.nil
                have b10 := below_setRow bz (Nat.le_refl w.heap.size) (cellsK k0)
                have hS9 := hHeld.setRow (cellsK k0)
                refine step_row rfl 84 (.tmp 3) (.tmp 22) rfl w.heap.size (cellsK k0) rfl rfl 84 (cellsK k0) (by exact hHeld) (by kernel_rfl) rfl (cells_one _) ?_
                obtain ⟨z10, hz9⟩ : ∃ q, q = z7.setRow w.heap.size (cellsK k0) := ⟨_, rfl⟩
                rw [← hz9] at b10 hS9 ⊢
                clear hz9 bz
                refine hK.out _ _ hS9 (fun hHeld => ?_)
                clear hK K
                try simp only [Act.put, List.getElem_toArray, List.getElem_cons_succ, List.getElem_cons_zero, List.setIfInBounds_toArray, List.set_cons_succ, List.set_cons_zero]
                refine wpAnyH_take (i := 5) (oi := _) (v := .bool true) rfl (by kernel_rfl) (by kernel_rfl) (by kernel_rfl) (fun _ _ _ h => h) (Or.inl ⟨by rfl, fun w' hSw => by go_simp⟩) hHeld ?_
                try simp only [Act.put, List.getElem_toArray, List.getElem_cons_succ, List.getElem_cons_zero, List.setIfInBounds_toArray, List.set_cons_succ, List.set_cons_zero]
                refine wpAnyH_done (by kernel_rfl) ?_ _
                simp only [Exit.then]
                go_wp2_with fail
                simp only [Exit.noGoto]
                refine bodyPost_ret (v := .tuple #[.int .i64 k0, .agg (cellsK k0), .bool true]) ?_ rfl ⟨rfl, b10⟩
                exact results_slot_cell_slot (p := 3) (q := 2) (r := 4) (ty := 84) Tryz.results93 _ _ w.heap.size 84 _ _ rfl hHeld Tryz.underlying84 rfl (by kernel_rfl)
              · have b10 := below_setRow bz (Nat.le_refl w.heap.size) (cellsK k0)
                have hS9 := hHeld.setRow (cellsK k0)
                refine step_row rfl 84 (.tmp 3) (.tmp 22) rfl w.heap.size (cellsK k0) rfl rfl 84 (cellsK k0) (by exact hHeld) (by kernel_rfl) rfl (cells_one _) ?_
                obtain ⟨z10, hz9⟩ : ∃ q, q = z7.setRow w.heap.size (cellsK k0) := ⟨_, rfl⟩
                rw [← hz9] at b10 hS9 ⊢
                clear hz9 bz
                refine hK.out _ _ hS9 (fun hHeld => ?_)
                clear hK K
                try simp only [Act.put, List.getElem_toArray, List.getElem_cons_succ, List.getElem_cons_zero, List.setIfInBounds_toArray, List.set_cons_succ, List.set_cons_zero]
                refine wpAnyH_take (i := 2) (oi := _) (v := .bool true) rfl (by kernel_rfl) (by kernel_rfl) (by kernel_rfl) (fun _ _ _ h => h) (Or.inl ⟨by rfl, fun w' hSw => by go_simp⟩) hHeld ?_
                try simp only [Act.put, List.getElem_toArray, List.getElem_cons_succ, List.getElem_cons_zero, List.setIfInBounds_toArray, List.set_cons_succ, List.set_cons_zero]
                refine wpAnyH_take (i := 5) (oi := _) (v := .bool true) rfl (by kernel_rfl) (by kernel_rfl) (by kernel_rfl) (fun _ _ _ h => h) (Or.inl ⟨by rfl, fun w' hSw => by go_simp⟩) hHeld ?_
                try simp only [Act.put, List.getElem_toArray, List.getElem_cons_succ, List.getElem_cons_zero, List.setIfInBounds_toArray, List.set_cons_succ, List.set_cons_zero]
                refine wpAnyH_done (by kernel_rfl) ?_ _
                simp only [Exit.then]
                go_wp2_with fail
                simp only [Exit.noGoto]
                refine bodyPost_ret (v := .tuple #[.int .i64 k0, .agg (cellsK k0), .bool true]) ?_ rfl ⟨rfl, b10⟩
                exact results_slot_cell_slot (p := 3) (q := 2) (r := 4) (ty := 84) Tryz.results93 _ _ w.heap.size 84 _ _ rfl hHeld Tryz.underlying84 rfl (by kernel_rfl)
            · go_simp
              refine hK.out _ _ hHeld (fun hHeld => ?_)
              clear hK K
              try simp only [Act.put, List.getElem_toArray, List.getElem_cons_succ, List.getElem_cons_zero, List.setIfInBounds_toArray, List.set_cons_succ, List.set_cons_zero]
              refine wpAnyH_ready (rs := [1]) (by kernel_rfl) (by simp) ?_
              refine AllReadyH.cons (o := _) rfl (fun K hK => ?_) AllReadyH.nil
              refine step_load rfl 84 _ rfl (w.heap.size) rfl (cellsK k0) 84 _ (by exact hHeld) Tryz.underlying84 rfl (by kernel_rfl) ?_
              refine hK.out _ _ hHeld (fun hHeld => ?_)
              clear hK K
              try simp only [Act.put, List.getElem_toArray, List.getElem_cons_succ, List.getElem_cons_zero, List.setIfInBounds_toArray, List.set_cons_succ, List.set_cons_zero]
              refine wpAnyH_ready (rs := [4]) (by kernel_rfl) (by simp) ?_
              refine AllReadyH.cons (o := _) rfl (fun K hK => ?_) AllReadyH.nil
              have b10 := below_setRow bz (Nat.le_refl w.heap.size) (cellsK k0)
              have hS9 := hHeld.setRow (cellsK k0)
              refine step_row rfl 84 (.tmp 3) (.tmp 22) rfl w.heap.size (cellsK k0) rfl rfl 84 (cellsK k0) (by exact hHeld) (by kernel_rfl) rfl (cells_one _) ?_
              obtain ⟨z10, hz9⟩ : ∃ q, q = z7.setRow w.heap.size (cellsK k0) := ⟨_, rfl⟩
              rw [← hz9] at b10 hS9 ⊢
              clear hz9 bz
              refine hK.out _ _ hS9 (fun hHeld => ?_)
              clear hK K
              try simp only [Act.put, List.getElem_toArray, List.getElem_cons_succ, List.getElem_cons_zero, List.setIfInBounds_toArray, List.set_cons_succ, List.set_cons_zero]
              refine wpAnyH_take (i := 5) (oi := _) (v := .bool true) rfl (by kernel_rfl) (by kernel_rfl) (by kernel_rfl) (fun _ _ _ h => h) (Or.inl ⟨by rfl, fun w' hSw => by go_simp⟩) hHeld ?_
              try simp only [Act.put, List.getElem_toArray, List.getElem_cons_succ, List.getElem_cons_zero, List.setIfInBounds_toArray, List.set_cons_succ, List.set_cons_zero]
              refine wpAnyH_done (by kernel_rfl) ?_ _
              simp only [Exit.then]
              go_wp2_with fail
              simp only [Exit.noGoto]
              refine bodyPost_ret (v := .tuple #[.int .i64 k0, .agg (cellsK k0), .bool true]) ?_ rfl ⟨rfl, b10⟩
              exact results_slot_cell_slot (p := 3) (q := 2) (r := 4) (ty := 84) Tryz.results93 _ _ w.heap.size 84 _ _ rfl hHeld Tryz.underlying84 rfl (by kernel_rfl)
      · have hcmp : ((nameB k0).toList == l) = false := by rw [hnl]; simpa using hc
        have hc' := Lib.hid hc
        clear hc hnl hkeys hmem
        go_wp2_with ((refine wpList_store_row rfl 84 _ _ rfl w5.heap.size (cellsK k0) rfl rfl _ _ (by exact XS) (by kernel_rfl) (by kernel_rfl) (by kernel_rfl) ?_); rw [← hz6]; clear hz6 XS; have z6c := Z6.cells; have z6l := Z6.lt; have ec : (cellsK k0)[0]? = some (.string (nameB k0)) := rfl)
        refine ⟨⟨rfl, rfl, cnt3, HR7.out hc'.out, X7, b6⟩, ?_⟩
        rw [HML.out, (HR7.out hc'.out).left_eq]
        exact hlt5
end Go.Proofs.YtpmcedfeiconfaaGreatDoor.Opw

/- Layer 12: oper.read (made by genoper9.py). -/
namespace Go.Proofs.YtpmcedfeiconfaaGreatDoor.Opw
open Go Go.RowKit Go.ChangeMaps Go.Proofs.YtpmcedfeiconfaaGreatDoor.Gro Go.Proofs.YtpmcedfeiconfaaGreatDoor.Own Go.Proofs.YtpmcedfeiconfaaGreatDoor.Mr Go.Proofs.YtpmcedfeiconfaaGreatDoor.Opn
set_option linter.unusedVariables false
set_option linter.unusedSimpArgs false
theorem elemF : Elem Tryz.prog 142 43 1 8 := ⟨Tryz.underlying142, by
  have h : (Tryz.prog.info? 43).map (fun i => (i.zero, i.size, i.bytes)) = some (some .nilFunc, 1, 8) := by kernel_rfl
  obtain ⟨i, h1, h2, h3, h4⟩ := Go.Proofs.YtpmcedfeiconfaaGreatDoor.Opw.parts_info h
  exact ⟨i, _, h1, h2, h3, h4, rfl⟩, by decide, by decide⟩
abbrev cloV (k a : Nat) : Value := .func (.func k) #[] #[.pointer (some ⟨a, 0, none⟩)]
theorem Oth.cellq {g : Nat} {w w' : World} (h : Oth g w w') {b j : Nat} {v : Value} (hc : w.cell? ⟨b, j, none⟩ = some v) (hb : b ≠ g) : w'.cell? ⟨b, j, none⟩ = some v :=
  (World.cell?_of_block (h.block b (Lib.lt_of_cell hc) hb)).trans hc
abbrev opK (k : Int) : OpD := ⟨k, 0, 0, 0, false, 0, 0⟩
theorem zero_op (u : World) : (zeroValue 50).run Tryz.prog u = .ok (.agg (opC OpD.zero)) u := by kernel_rfl
theorem build_op0 (u : World) : (Instr.build 50 #[]).run Tryz.prog u = .ok (.agg (opC OpD.zero)) u := run_build u _ _ _ (by kernel_rfl)
theorem build_opK (k : Int) (u : World) : (Instr.build 50 #[(0, .int .i64 k)]).run Tryz.prog u = .ok (.agg (opC (opK k))) u := run_build u _ _ _ (by kernel_rfl)
def ReadPost (L : List (List UInt8)) (w : World) (e : Ending) (w' : World) : Prop :=
  e = .returned (.tuple #[opV ((readL L).getD OpD.zero), .bool (readL L).isSome]) ∧ Below w.heap.size w w'
theorem read_none {h : List UInt8} {r : List (List UInt8)} (hf : find h = none) : readL (h :: r) = none := by
  simp only [readL, hf]
theorem read_count {h : List UInt8} {r : List (List UInt8)} {k : Int} (hf : find h = some k) (hn : ¬ r.length = (pts k).length) : readL (h :: r) = none := by
  simp only [readL, hf, if_neg hn]
theorem read_run {h : List UInt8} {r : List (List UInt8)} {k : Int} (hf : find h = some k) (hn : r.length = (pts k).length) : readL (h :: r) = runP (pts k) r (opK k) := by
  simp only [readL, hf, if_pos hn]
  rfl
set_option maxRecDepth 100000 in
set_option maxHeartbeats 16000000 in
theorem fRead (B : Nat) (L : List (List UInt8)) (hx : ∀ x ∈ L, x.length ≤ 100000) (h0 : 0 < L.length) (v : Value) (w : World) (hO : OwnS B w v L) (HLB : Lb w) : Calls Tryz.prog 79 #[v] w (ReadPost L w) := by
  obtain ⟨gw, cap, rfl, _, hwl, hcap, hmax, hcells⟩ := owns_cells hO h0
  cases L with
  | nil => exact absurd h0 (by decide)
  | cons h r =>
  obtain ⟨oo, hoo⟩ : ∃ q, q = (readL (h :: r)).getD OpD.zero := ⟨_, rfl⟩
  obtain ⟨bb, hbb⟩ : ∃ q, q = (readL (h :: r)).isSome := ⟨_, rfl⟩
  unfold ReadPost
  rw [← hoo, ← hbb]
  have HOO := Lib.hid hoo
  have HBB := Lib.hid hbb
  have HL := Lib.hid HLB
  have HX := Lib.hid hx
  clear hoo hbb h0 HLB hO hx
  have hcw : ∀ j (hj : j < (h :: r).length), w.cell? ⟨gw, j, none⟩ = some (strV (h :: r)[j]) := fun j hj => by
    rw [hcells j (by simpa using hj), List.getElem?_map, List.getElem?_eq_getElem hj]
    rfl
  have HCW := Lib.hid hcw
  have hc0 : w.cell? ⟨gw, 0, none⟩ = some (strV h) := hcw 0 (by simp)
  clear hcells hcw
  have hz0 := zero_op
  have hzs := zero_sh
  have hb0 := build_op0
  obtain ⟨w1, hw1⟩ : ∃ q, q = w.alloc (.cells (opC OpD.zero) 50) := ⟨_, rfl⟩
  have Z1 : Bk w1 w.heap.size (opC OpD.zero) 50 := by rw [hw1]; exact Bk.new w _ _
  have b1 : Below w.heap.size w w1 := by rw [hw1]; exact (Below.refl _ _).alloc (Nat.le_refl _) _
  have hHF := fFind h w1
  unfold FindPost at hHF
  obtain ⟨nL, hnL⟩ : ∃ q : Nat, q = (h :: r).length := ⟨_, rfl⟩
  rw [← hnL] at hcap ⊢
  have hn0 : 0 < nL := by rw [hnL]; simp
  have HNL := Lib.hid hnL
  have HW1 := Lib.hid hw1
  clear hnL
  cases hfd : find h with
  | none =>
    rw [hfd] at hHF
    simp only [Option.getD_none, Option.isSome_none] at hHF
    rw [hw1] at hHF
    have HF := Lib.hid hHF
    have hr := read_none (r := r) hfd
    have hoo := HOO.out
    have hbb := HBB.out
    rw [hr] at hoo hbb
    simp only [Option.getD_none, Option.isSome_none] at hoo hbb
    subst hoo; subst hbb
    clear hr hfd hw1 hHF
    go_enter Tryz.func79, Tryz.ntmps79
    go_wp2_with fail
    refine HF.out.mono ?_
    rintro e w2 ⟨rfl, hb2⟩
    rw [← HW1.out] at hb2
    have Z2 := Z1.keep hb2
    have b2 := b1.trans (hb2.mono b1.size)
    have sz2 := b2.size
    have l2 := Z2.lt
    have S3 := Bk.new w2 (cellsK 0) 84
    obtain ⟨w4, hw4⟩ : ∃ q, q = (w2.alloc (.cells (cellsK 0) 84)).setRow w2.heap.size (cellsK 0) := ⟨_, rfl⟩
    have b24 : Below w2.heap.size w2 w4 := by rw [hw4]; exact below_setRow ((Below.refl _ _).alloc (Nat.le_refl _) _) (Nat.le_refl _) _
    have Z4 := Z2.keep b24
    have b4 := b2.trans (b24.mono sz2)
    clear Z1 b1 hb2 Z2 b2 HF HW1
    go_wp2_with (first | ((refine wpList_store_row rfl 84 _ _ rfl w2.heap.size (cellsK 0) rfl rfl _ _ (by exact S3) (by kernel_rfl) (by kernel_rfl) (by kernel_rfl) ?_); rw [← hw4]; clear hw4 S3) | (refine wpList_store_row rfl 50 _ _ rfl w.heap.size (opC OpD.zero) rfl rfl _ _ (by exact Z4) (by kernel_rfl) (by kernel_rfl) (by kernel_rfl) ?_))
    have Z5 := Z4.setRow (opC OpD.zero)
    have b5 := below_setRow b4 (Nat.le_refl w.heap.size) (opC OpD.zero)
    refine bodyPost_ret (v := .tuple #[opV OpD.zero, .bool false]) ?_ rfl ⟨rfl, b5⟩
    exact Rw.results_cell_slot (p := 2) (q := 3) (ty := 50) Tryz.results79 _ _ w.heap.size 50 _ (0, 0) _ rfl Z5 Tryz.underlying50 rfl (by kernel_rfl)
  | some k =>
    have hk : isKind k = true := by
      have := List.find?_some hfd
      have hm := List.mem_of_find?_eq_some hfd
      simp only [kinds, List.mem_cons, List.not_mem_nil, or_false] at hm
      rcases hm with rfl | rfl | rfl | rfl | rfl | rfl | rfl | rfl | rfl <;> rfl
    have hfl := flags hk
    rw [hfd] at hHF
    simp only [Option.getD_some, Option.isSome_some] at hHF
    rw [hw1] at hHF
    have hbk := build_opK k
    obtain ⟨nb, hnb⟩ : ∃ q, q = nameB k := ⟨_, rfl⟩
    obtain ⟨bh, hbh⟩ : ∃ q, q = sharesB k := ⟨_, rfl⟩
    have HFD := Lib.hid hfd
    clear hfd hk hw1
    rcases hfl with ⟨f1, f2, f3⟩ | ⟨f1, f2, f3⟩ | ⟨f1, f2, f3⟩ | ⟨f1, f2, f3⟩ | ⟨f1, f2, f3⟩
    · have hcK : cellsK k = shC nb false false false bh := by unfold cellsK; rw [f1, f2, f3, hnb, hbh]
      have hpt : pts k = [] := by unfold pts; rw [f1, f2, f3]; rfl
      rw [hcK] at hHF
      have HF := Lib.hid hHF
      have HPT := Lib.hid hpt
      clear hcK hpt f1 f2 f3 hnb hbh hHF
      go_enter Tryz.func79, Tryz.ntmps79
      go_wp2_with fail
      refine HF.out.mono ?_
      rintro e w2 ⟨rfl, hb2⟩
      rw [← HW1.out] at hb2
      have Z2 := Z1.keep hb2
      have b2 := b1.trans (hb2.mono b1.size)
      have sz2 := b2.size
      have l2 := Z2.lt
      have S3 := Bk.new w2 (cellsK 0) 84
      obtain ⟨gs, hgs⟩ : ∃ q, q = w2.heap.size := ⟨_, rfl⟩
      obtain ⟨w4, hw4⟩ : ∃ q, q = (w2.alloc (.cells (cellsK 0) 84)).setRow w2.heap.size (shC nb false false false bh) := ⟨_, rfl⟩
      have S4 : Bk w4 w2.heap.size (shC nb false false false bh) 84 := by rw [hw4]; exact S3.setRow _
      have b24 : Below w2.heap.size w2 w4 := by rw [hw4]; exact below_setRow ((Below.refl _ _).alloc (Nat.le_refl _) _) (Nat.le_refl _) _
      have Z4 := Z2.keep b24
      have b4 := b2.trans (b24.mono sz2)
      have sz4 := b4.size
      have X5 := Bk.new w4 (opC OpD.zero) 50
      obtain ⟨w6, hw6⟩ : ∃ q, q = (w4.alloc (.cells (opC OpD.zero) 50)).setRow w4.heap.size (opC (opK k)) := ⟨_, rfl⟩
      have X6 : Bk w6 w4.heap.size (opC (opK k)) 50 := by rw [hw6]; exact X5.setRow _
      have b46 : Below w4.heap.size w4 w6 := by rw [hw6]; exact below_setRow ((Below.refl _ _).alloc (Nat.le_refl _) _) (Nat.le_refl _) _
      have Z6 := Z4.keep b46
      have S6 := S4.keep b46
      have b6 := b4.trans (b46.mono sz4)
      have l4 := Z4.lt
      have ls4 := S4.lt
      have lx6 := X6.lt
      have ls6 := S6.lt
      have sz6 := b6.size
      clear Z1 b1 hb2 Z2 b2 HF HW1 S4 b24 Z4 b4 b46
      have HS6 := Lib.hid S6
      have s6 := S6.cells
      clear S6
      have BZ0 : Below w6.heap.size w6 w6 := Below.refl _ _
      have OF0 : w6.ownsRow w6.heap.size 43 1 (.slice none 0 0) 0 [] := World.ownsRow_nil _ _ _ _
      by_cases hcnt : r.length = 0
      · have hne : nL = 1 := by rw [HNL.out]; simp only [List.length_cons]; omega
        subst hne
        have hrun := read_run HFD.out (by rw [HPT.out]; exact hcnt)
        rw [HPT.out] at hrun
        obtain rfl : r = [] := List.eq_nil_of_length_eq_zero hcnt
        have HRUN := Lib.hid hrun
        clear hrun hcnt
        clear HNL
        go_wp2_with (first | ((refine wpList_store_row rfl 84 _ _ rfl w2.heap.size (shC nb false false false bh) rfl rfl _ _ (by exact S3) (by kernel_rfl) (by kernel_rfl) (by kernel_rfl) ?_); rw [← hw4]; clear hw4 S3) | ((refine wpList_store_row rfl 50 _ _ rfl w4.heap.size (opC (opK k)) rfl rfl _ _ (by exact X5) (by kernel_rfl) (by kernel_rfl) (by kernel_rfl) ?_); rw [← hw6]; clear hw6 X5))
        have ZC := Z6.keep BZ0
        have bC := b6.trans (BZ0.mono sz6)
        have XC := X6.keep BZ0
        have sC := BZ0.size
        clear s6
        refine wp_loop_rounds 1 ?_
        rw [rounds_succ]
        have hr : readL (h :: []) = some (opK k) := by
          rw [HRUN.out]
          simp [Opn.runP, Opn.stepP, Opn.stepT, Opn.stepX, Opn.stepS, Option.bind_some]
        have hoo := HOO.out
        have hbb := HBB.out
        rw [hr] at hoo hbb
        simp only [Option.getD_none, Option.isSome_none, Option.getD_some, Option.isSome_some] at hoo hbb
        subst hoo; subst hbb
        clear hr
        go_wp2_with (first | (refine wpList_load_row rfl 50 _ rfl w4.heap.size rfl _ (opC (opK k)) (0, 0) _ (by exact XC) Tryz.underlying50 rfl (by kernel_rfl) ?_) | (refine wpList_store_row rfl 50 _ _ rfl w.heap.size (opC (opK k)) rfl rfl _ _ (by exact ZC) (by kernel_rfl) (by kernel_rfl) (by kernel_rfl) ?_))
        have Z9 := ZC.setRow (opC (opK k))
        have b9 := below_setRow bC (Nat.le_refl w.heap.size) (opC (opK k))
        refine bodyPost_ret (v := .tuple #[opV (opK k), .bool true]) ?_ rfl ⟨rfl, b9⟩
        exact Rw.results_cell_slot (p := 2) (q := 3) (ty := 50) Tryz.results79 _ _ w.heap.size 50 _ (0, 0) _ rfl Z9 Tryz.underlying50 rfl (by kernel_rfl)
      · have hne : ¬ (nL : Int) = 1 := by rw [HNL.out]; simp only [List.length_cons]; omega
        have hoo := HOO.out
        have hbb := HBB.out
        rw [read_count HFD.out (by rw [HPT.out]; exact hcnt)] at hoo hbb
        simp only [Option.getD_none, Option.isSome_none, Option.getD_some, Option.isSome_some] at hoo hbb
        subst hoo; subst hbb
        have HCN := Lib.hid hcnt
        clear hcnt
        have ZC := Z6.keep BZ0
        have bC := b6.trans (BZ0.mono sz6)
        go_wp2_with (first | (refine wpList_store_row rfl 50 _ _ rfl w.heap.size (opC OpD.zero) rfl rfl _ _ (by exact ZC) (by kernel_rfl) (by kernel_rfl) (by kernel_rfl) ?_) | ((refine wpList_store_row rfl 84 _ _ rfl w2.heap.size (shC nb false false false bh) rfl rfl _ _ (by exact S3) (by kernel_rfl) (by kernel_rfl) (by kernel_rfl) ?_); rw [← hw4]; clear hw4 S3) | ((refine wpList_store_row rfl 50 _ _ rfl w4.heap.size (opC (opK k)) rfl rfl _ _ (by exact X5) (by kernel_rfl) (by kernel_rfl) (by kernel_rfl) ?_); rw [← hw6]; clear hw6 X5))
        have Z9 := ZC.setRow (opC OpD.zero)
        have b9 := below_setRow bC (Nat.le_refl w.heap.size) (opC OpD.zero)
        refine bodyPost_ret (v := .tuple #[opV OpD.zero, .bool false]) ?_ rfl ⟨rfl, b9⟩
        exact Rw.results_cell_slot (p := 2) (q := 3) (ty := 50) Tryz.results79 _ _ w.heap.size 50 _ (0, 0) _ rfl Z9 Tryz.underlying50 rfl (by kernel_rfl)
    · have hcK : cellsK k = shC nb true false false bh := by unfold cellsK; rw [f1, f2, f3, hnb, hbh]
      have hpt : pts k = [0] := by unfold pts; rw [f1, f2, f3]; rfl
      rw [hcK] at hHF
      have HF := Lib.hid hHF
      have HPT := Lib.hid hpt
      clear hcK hpt f1 f2 f3 hnb hbh hHF
      go_enter Tryz.func79, Tryz.ntmps79
      go_wp2_with fail
      refine HF.out.mono ?_
      rintro e w2 ⟨rfl, hb2⟩
      rw [← HW1.out] at hb2
      have Z2 := Z1.keep hb2
      have b2 := b1.trans (hb2.mono b1.size)
      have sz2 := b2.size
      have l2 := Z2.lt
      have S3 := Bk.new w2 (cellsK 0) 84
      obtain ⟨gs, hgs⟩ : ∃ q, q = w2.heap.size := ⟨_, rfl⟩
      obtain ⟨w4, hw4⟩ : ∃ q, q = (w2.alloc (.cells (cellsK 0) 84)).setRow w2.heap.size (shC nb true false false bh) := ⟨_, rfl⟩
      have S4 : Bk w4 w2.heap.size (shC nb true false false bh) 84 := by rw [hw4]; exact S3.setRow _
      have b24 : Below w2.heap.size w2 w4 := by rw [hw4]; exact below_setRow ((Below.refl _ _).alloc (Nat.le_refl _) _) (Nat.le_refl _) _
      have Z4 := Z2.keep b24
      have b4 := b2.trans (b24.mono sz2)
      have sz4 := b4.size
      have X5 := Bk.new w4 (opC OpD.zero) 50
      obtain ⟨w6, hw6⟩ : ∃ q, q = (w4.alloc (.cells (opC OpD.zero) 50)).setRow w4.heap.size (opC (opK k)) := ⟨_, rfl⟩
      have X6 : Bk w6 w4.heap.size (opC (opK k)) 50 := by rw [hw6]; exact X5.setRow _
      have b46 : Below w4.heap.size w4 w6 := by rw [hw6]; exact below_setRow ((Below.refl _ _).alloc (Nat.le_refl _) _) (Nat.le_refl _) _
      have Z6 := Z4.keep b46
      have S6 := S4.keep b46
      have b6 := b4.trans (b46.mono sz4)
      have l4 := Z4.lt
      have ls4 := S4.lt
      have lx6 := X6.lt
      have ls6 := S6.lt
      have sz6 := b6.size
      clear Z1 b1 hb2 Z2 b2 HF HW1 S4 b24 Z4 b4 b46
      have HS6 := Lib.hid S6
      have s6 := S6.cells
      clear S6
      have BZ0 : Below w6.heap.size w6 w6 := Below.refl _ _
      have OF0 : w6.ownsRow w6.heap.size 43 1 (.slice none 0 0) 0 [] := World.ownsRow_nil _ _ _ _
      have BA0 : Below w6.heap.size w6 (w6.alloc (.cells #[(cloV 94 w4.heap.size)] 43)) := BZ0.alloc BZ0.size _
      have OA0 := owns_below OF0 ((Below.refl w6.heap.size w6).alloc (Nat.le_refl _) (.cells #[(cloV 94 w4.heap.size)] 43)) (fun g hg => (World.ownsRow.lt OF0 g hg).2)
      have bs0 := BZ0.size
      by_cases hcnt : r.length = 1
      · have hne : nL = 2 := by rw [HNL.out]; simp only [List.length_cons]; omega
        subst hne
        have hrun := read_run HFD.out (by rw [HPT.out]; exact hcnt)
        rw [HPT.out] at hrun
        obtain ⟨p1, rfl⟩ := List.length_eq_one_iff.1 hcnt
        have HRUN := Lib.hid hrun
        clear hrun hcnt
        have hw1 : w.cell? ⟨gw, 1, none⟩ = some (strV p1) := HCW.out 1 (by simp)
        have hx1 : p1.length ≤ 100000 := HX.out p1 (by simp)
        clear HNL
        go_wp2_with (first | ((refine wpList_store_row rfl 84 _ _ rfl w2.heap.size (shC nb true false false bh) rfl rfl _ _ (by exact S3) (by kernel_rfl) (by kernel_rfl) (by kernel_rfl) ?_); rw [← hw4]; clear hw4 S3) | ((refine wpList_store_row rfl 50 _ _ rfl w4.heap.size (opC (opK k)) rfl rfl _ _ (by exact X5) (by kernel_rfl) (by kernel_rfl) (by kernel_rfl) ?_); rw [← hw6]; clear hw6 X5) | (at_builtin; refine append_row elemF rfl _ _ rfl w6.heap.size (.slice none 0 0) 0 [] rfl OA0 w6.heap.size 1 1 [(cloV 94 w4.heap.size)] rfl rfl (new_cells _ _ _) (fun u hu => by obtain rfl := List.mem_singleton.1 hu; rfl) (by decide) (by decide) (by simp only [World.size_alloc]; omega) ?_; intro vv u1 ON hbn; have BZ1 := BA0.trans hbn; obtain ⟨gp1, cp1, rfl, hgp1, hgl1, _, _, hpc1⟩ := owns_cells ON (by decide); have s6 := ((HS6.out).keep BZ1).cells; clear OA0 BA0 hbn bs0 OF0))
        have OF1 : u1.ownsRow w6.heap.size 43 1 (.slice (some ⟨gp1, 0, none⟩) 1 cp1) 1 [(cloV 94 w4.heap.size)] := ON
        clear ON
        have ZC := Z6.keep BZ1
        have bC := b6.trans (BZ1.mono sz6)
        have XC := X6.keep BZ1
        have sC := BZ1.size
        clear s6
        have hk1 := (bC.cell (show (⟨gw, 1, none⟩ : Addr).block < w.heap.size from hwl)).trans hw1
        have hq1 : u1.cell? ⟨gp1, 0, none⟩ = some (cloV 94 w4.heap.size) := hpc1 0 (by simp)
        clear hw1
        refine wp_loop_rounds 2 ?_
        rw [rounds_succ]
        have HC := Lib.hid (fRead1 ⟨p1.toArray⟩ (show (⟨p1.toArray⟩ : ByteArray).size ≤ 100000 from hx1) w u1 HL.out bC w4.heap.size (by omega) (opK k) XC rfl rfl rfl rfl)
        unfold TkPost at HC
        have epp : (⟨p1.toArray⟩ : ByteArray).data.toList = p1 := rfl
        rw [epp] at HC
        clear epp
        cases hrd : rdT p1 with
        | none =>
          rw [hrd] at HC
          simp only [Option.isSome_none] at HC
          have hr : readL (h :: [p1]) = none := by
            rw [HRUN.out]
            simp [Opn.runP, Opn.stepP, Opn.stepT, Opn.stepX, Opn.stepS, hrd]
          have hoo := HOO.out
          have hbb := HBB.out
          rw [hr] at hoo hbb
          simp only [Option.getD_none, Option.isSome_none, Option.getD_some, Option.isSome_some] at hoo hbb
          subst hoo; subst hbb
          clear hr hrd
          go_wp2_with fail
          refine HC.out.mono ?_
          rintro e z1 ⟨o', XN, OC, rfl, hv⟩
          clear hv
          have ZN := OC.bk ZC (by omega)
          have bN := bC.trans (OC.below (by omega) bC.size)
          have sN := OC.size
          clear hk1 hq1 ZC bC XC HC OC
          have ZC := ZN
          have bC := bN
          clear ZN bN
          have Z9 := ZC.setRow (opC OpD.zero)
          have b9 := below_setRow bC (Nat.le_refl w.heap.size) (opC OpD.zero)
          go_wp2_with (refine wpList_store_row rfl 50 _ _ rfl w.heap.size (opC OpD.zero) rfl rfl _ _ (by exact ZC) (by kernel_rfl) (by kernel_rfl) (by kernel_rfl) ?_)
          refine bodyPost_ret (v := .tuple #[opV OpD.zero, .bool false]) ?_ rfl ⟨rfl, b9⟩
          exact Rw.results_cell_slot (p := 2) (q := 3) (ty := 50) Tryz.results79 _ _ w.heap.size 50 _ (0, 0) _ rfl Z9 Tryz.underlying50 rfl (by kernel_rfl)
        | some q =>
          obtain ⟨t1, u1, b1', n1⟩ := q
          rw [hrd] at HC
          simp only [Option.isSome_some] at HC
          have HRD0 := Lib.hid hrd
          clear hrd
          go_wp2_with fail
          refine HC.out.mono ?_
          rintro e z1 ⟨o', XN, OC, rfl, hv⟩
          have hv' := hv _ rfl
          subst hv'
          clear hv
          have XM : Bk z1 w4.heap.size (opC (⟨k, t1, 0, 0, u1, b1', n1⟩ : OpD)) 50 := XN
          clear XN
          have ZN := OC.bk ZC (by omega)
          have bN := bC.trans (OC.below (by omega) bC.size)
          have sN := OC.size
          clear hk1 hq1 ZC bC XC HC OC
          have ZC := ZN
          have bC := bN
          clear ZN bN
          have XC := XM
          clear XM
          go_wp2_with fail
          rw [rounds_succ]
          have hr : readL (h :: [p1]) = some (⟨k, t1, 0, 0, u1, b1', n1⟩ : OpD) := by
            rw [HRUN.out]
            simp [Opn.runP, Opn.stepP, Opn.stepT, Opn.stepX, Opn.stepS, HRD0.out]
          have hoo := HOO.out
          have hbb := HBB.out
          rw [hr] at hoo hbb
          simp only [Option.getD_none, Option.isSome_none, Option.getD_some, Option.isSome_some] at hoo hbb
          subst hoo; subst hbb
          clear hr
          go_wp2_with (first | (refine wpList_load_row rfl 50 _ rfl w4.heap.size rfl _ (opC (⟨k, t1, 0, 0, u1, b1', n1⟩ : OpD)) (0, 0) _ (by exact XC) Tryz.underlying50 rfl (by kernel_rfl) ?_) | (refine wpList_store_row rfl 50 _ _ rfl w.heap.size (opC (⟨k, t1, 0, 0, u1, b1', n1⟩ : OpD)) rfl rfl _ _ (by exact ZC) (by kernel_rfl) (by kernel_rfl) (by kernel_rfl) ?_))
          have Z9 := ZC.setRow (opC (⟨k, t1, 0, 0, u1, b1', n1⟩ : OpD))
          have b9 := below_setRow bC (Nat.le_refl w.heap.size) (opC (⟨k, t1, 0, 0, u1, b1', n1⟩ : OpD))
          refine bodyPost_ret (v := .tuple #[opV (⟨k, t1, 0, 0, u1, b1', n1⟩ : OpD), .bool true]) ?_ rfl ⟨rfl, b9⟩
          exact Rw.results_cell_slot (p := 2) (q := 3) (ty := 50) Tryz.results79 _ _ w.heap.size 50 _ (0, 0) _ rfl Z9 Tryz.underlying50 rfl (by kernel_rfl)
      · have hne : ¬ (nL : Int) = 2 := by rw [HNL.out]; simp only [List.length_cons]; omega
        have hoo := HOO.out
        have hbb := HBB.out
        rw [read_count HFD.out (by rw [HPT.out]; exact hcnt)] at hoo hbb
        simp only [Option.getD_none, Option.isSome_none, Option.getD_some, Option.isSome_some] at hoo hbb
        subst hoo; subst hbb
        have HCN := Lib.hid hcnt
        clear hcnt
        go_wp2_with (first | (refine wpList_store_row rfl 50 _ _ rfl w.heap.size (opC OpD.zero) rfl rfl _ _ (by exact ZC) (by kernel_rfl) (by kernel_rfl) (by kernel_rfl) ?_) | ((refine wpList_store_row rfl 84 _ _ rfl w2.heap.size (shC nb true false false bh) rfl rfl _ _ (by exact S3) (by kernel_rfl) (by kernel_rfl) (by kernel_rfl) ?_); rw [← hw4]; clear hw4 S3) | ((refine wpList_store_row rfl 50 _ _ rfl w4.heap.size (opC (opK k)) rfl rfl _ _ (by exact X5) (by kernel_rfl) (by kernel_rfl) (by kernel_rfl) ?_); rw [← hw6]; clear hw6 X5) | (at_builtin; refine append_row elemF rfl _ _ rfl w6.heap.size (.slice none 0 0) 0 [] rfl OA0 w6.heap.size 1 1 [(cloV 94 w4.heap.size)] rfl rfl (new_cells _ _ _) (fun u hu => by obtain rfl := List.mem_singleton.1 hu; rfl) (by decide) (by decide) (by simp only [World.size_alloc]; omega) ?_; intro vv u1 ON hbn; have BZ1 := BA0.trans hbn; obtain ⟨gp1, cp1, rfl, hgp1, hgl1, _, _, hpc1⟩ := owns_cells ON (by decide); have s6 := ((HS6.out).keep BZ1).cells; have ZC := Z6.keep BZ1; have bC := b6.trans (BZ1.mono sz6); clear OA0 BA0 hbn bs0 OF0))
        
        have Z9 := ZC.setRow (opC OpD.zero)
        have b9 := below_setRow bC (Nat.le_refl w.heap.size) (opC OpD.zero)
        refine bodyPost_ret (v := .tuple #[opV OpD.zero, .bool false]) ?_ rfl ⟨rfl, b9⟩
        exact Rw.results_cell_slot (p := 2) (q := 3) (ty := 50) Tryz.results79 _ _ w.heap.size 50 _ (0, 0) _ rfl Z9 Tryz.underlying50 rfl (by kernel_rfl)
    · have hcK : cellsK k = shC nb false true false bh := by unfold cellsK; rw [f1, f2, f3, hnb, hbh]
      have hpt : pts k = [1] := by unfold pts; rw [f1, f2, f3]; rfl
      rw [hcK] at hHF
      have HF := Lib.hid hHF
      have HPT := Lib.hid hpt
      clear hcK hpt f1 f2 f3 hnb hbh hHF
      go_enter Tryz.func79, Tryz.ntmps79
      go_wp2_with fail
      refine HF.out.mono ?_
      rintro e w2 ⟨rfl, hb2⟩
      rw [← HW1.out] at hb2
      have Z2 := Z1.keep hb2
      have b2 := b1.trans (hb2.mono b1.size)
      have sz2 := b2.size
      have l2 := Z2.lt
      have S3 := Bk.new w2 (cellsK 0) 84
      obtain ⟨gs, hgs⟩ : ∃ q, q = w2.heap.size := ⟨_, rfl⟩
      obtain ⟨w4, hw4⟩ : ∃ q, q = (w2.alloc (.cells (cellsK 0) 84)).setRow w2.heap.size (shC nb false true false bh) := ⟨_, rfl⟩
      have S4 : Bk w4 w2.heap.size (shC nb false true false bh) 84 := by rw [hw4]; exact S3.setRow _
      have b24 : Below w2.heap.size w2 w4 := by rw [hw4]; exact below_setRow ((Below.refl _ _).alloc (Nat.le_refl _) _) (Nat.le_refl _) _
      have Z4 := Z2.keep b24
      have b4 := b2.trans (b24.mono sz2)
      have sz4 := b4.size
      have X5 := Bk.new w4 (opC OpD.zero) 50
      obtain ⟨w6, hw6⟩ : ∃ q, q = (w4.alloc (.cells (opC OpD.zero) 50)).setRow w4.heap.size (opC (opK k)) := ⟨_, rfl⟩
      have X6 : Bk w6 w4.heap.size (opC (opK k)) 50 := by rw [hw6]; exact X5.setRow _
      have b46 : Below w4.heap.size w4 w6 := by rw [hw6]; exact below_setRow ((Below.refl _ _).alloc (Nat.le_refl _) _) (Nat.le_refl _) _
      have Z6 := Z4.keep b46
      have S6 := S4.keep b46
      have b6 := b4.trans (b46.mono sz4)
      have l4 := Z4.lt
      have ls4 := S4.lt
      have lx6 := X6.lt
      have ls6 := S6.lt
      have sz6 := b6.size
      clear Z1 b1 hb2 Z2 b2 HF HW1 S4 b24 Z4 b4 b46
      have HS6 := Lib.hid S6
      have s6 := S6.cells
      clear S6
      have BZ0 : Below w6.heap.size w6 w6 := Below.refl _ _
      have OF0 : w6.ownsRow w6.heap.size 43 1 (.slice none 0 0) 0 [] := World.ownsRow_nil _ _ _ _
      have BA0 : Below w6.heap.size w6 (w6.alloc (.cells #[(cloV 96 w4.heap.size)] 43)) := BZ0.alloc BZ0.size _
      have OA0 := owns_below OF0 ((Below.refl w6.heap.size w6).alloc (Nat.le_refl _) (.cells #[(cloV 96 w4.heap.size)] 43)) (fun g hg => (World.ownsRow.lt OF0 g hg).2)
      have bs0 := BZ0.size
      by_cases hcnt : r.length = 1
      · have hne : nL = 2 := by rw [HNL.out]; simp only [List.length_cons]; omega
        subst hne
        have hrun := read_run HFD.out (by rw [HPT.out]; exact hcnt)
        rw [HPT.out] at hrun
        obtain ⟨p1, rfl⟩ := List.length_eq_one_iff.1 hcnt
        have HRUN := Lib.hid hrun
        clear hrun hcnt
        have hw1 : w.cell? ⟨gw, 1, none⟩ = some (strV p1) := HCW.out 1 (by simp)
        have hx1 : p1.length ≤ 100000 := HX.out p1 (by simp)
        clear HNL
        go_wp2_with (first | ((refine wpList_store_row rfl 84 _ _ rfl w2.heap.size (shC nb false true false bh) rfl rfl _ _ (by exact S3) (by kernel_rfl) (by kernel_rfl) (by kernel_rfl) ?_); rw [← hw4]; clear hw4 S3) | ((refine wpList_store_row rfl 50 _ _ rfl w4.heap.size (opC (opK k)) rfl rfl _ _ (by exact X5) (by kernel_rfl) (by kernel_rfl) (by kernel_rfl) ?_); rw [← hw6]; clear hw6 X5) | (at_builtin; refine append_row elemF rfl _ _ rfl w6.heap.size (.slice none 0 0) 0 [] rfl OA0 w6.heap.size 1 1 [(cloV 96 w4.heap.size)] rfl rfl (new_cells _ _ _) (fun u hu => by obtain rfl := List.mem_singleton.1 hu; rfl) (by decide) (by decide) (by simp only [World.size_alloc]; omega) ?_; intro vv u1 ON hbn; have BZ1 := BA0.trans hbn; obtain ⟨gp1, cp1, rfl, hgp1, hgl1, _, _, hpc1⟩ := owns_cells ON (by decide); have s6 := ((HS6.out).keep BZ1).cells; clear OA0 BA0 hbn bs0 OF0))
        have OF1 : u1.ownsRow w6.heap.size 43 1 (.slice (some ⟨gp1, 0, none⟩) 1 cp1) 1 [(cloV 96 w4.heap.size)] := ON
        clear ON
        have ZC := Z6.keep BZ1
        have bC := b6.trans (BZ1.mono sz6)
        have XC := X6.keep BZ1
        have sC := BZ1.size
        clear s6
        have hk1 := (bC.cell (show (⟨gw, 1, none⟩ : Addr).block < w.heap.size from hwl)).trans hw1
        have hq1 : u1.cell? ⟨gp1, 0, none⟩ = some (cloV 96 w4.heap.size) := hpc1 0 (by simp)
        clear hw1
        refine wp_loop_rounds 2 ?_
        rw [rounds_succ]
        have HC := Lib.hid (fRead2 ⟨p1.toArray⟩ (show (⟨p1.toArray⟩ : ByteArray).size ≤ 100000 from hx1) u1 (HL.out.keep bC) w4.heap.size (opK k) XC)
        unfold WdPost at HC
        have epp : (⟨p1.toArray⟩ : ByteArray).data.toList = p1 := rfl
        rw [epp] at HC
        clear epp
        cases hrd : rdN 64 p1 with
        | none =>
          rw [hrd] at HC
          simp only [Option.isSome_none] at HC
          have hr : readL (h :: [p1]) = none := by
            rw [HRUN.out]
            simp [Opn.runP, Opn.stepP, Opn.stepT, Opn.stepX, Opn.stepS, hrd]
          have hoo := HOO.out
          have hbb := HBB.out
          rw [hr] at hoo hbb
          simp only [Option.getD_none, Option.isSome_none, Option.getD_some, Option.isSome_some] at hoo hbb
          subst hoo; subst hbb
          clear hr hrd
          go_wp2_with fail
          refine HC.out.mono ?_
          rintro e z1 ⟨v', XN, OC, rfl, hv⟩
          clear hv
          have ZN := OC.bk ZC (by omega)
          have bN := bC.trans (OC.below (by omega) bC.size)
          have sN := OC.size
          clear hk1 hq1 ZC bC XC HC OC
          have ZC := ZN
          have bC := bN
          clear ZN bN
          have Z9 := ZC.setRow (opC OpD.zero)
          have b9 := below_setRow bC (Nat.le_refl w.heap.size) (opC OpD.zero)
          go_wp2_with (refine wpList_store_row rfl 50 _ _ rfl w.heap.size (opC OpD.zero) rfl rfl _ _ (by exact ZC) (by kernel_rfl) (by kernel_rfl) (by kernel_rfl) ?_)
          refine bodyPost_ret (v := .tuple #[opV OpD.zero, .bool false]) ?_ rfl ⟨rfl, b9⟩
          exact Rw.results_cell_slot (p := 2) (q := 3) (ty := 50) Tryz.results79 _ _ w.heap.size 50 _ (0, 0) _ rfl Z9 Tryz.underlying50 rfl (by kernel_rfl)
        | some q =>
          rw [hrd] at HC
          simp only [Option.isSome_some] at HC
          have HRD0 := Lib.hid hrd
          clear hrd
          go_wp2_with fail
          refine HC.out.mono ?_
          rintro e z1 ⟨v', XN, OC, rfl, hv⟩
          have hv' := hv _ rfl
          subst hv'
          clear hv
          have XM : Bk z1 w4.heap.size (opC (⟨k, 0, (q : Int), 0, false, 0, 0⟩ : OpD)) 50 := XN
          clear XN
          have ZN := OC.bk ZC (by omega)
          have bN := bC.trans (OC.below (by omega) bC.size)
          have sN := OC.size
          clear hk1 hq1 ZC bC XC HC OC
          have ZC := ZN
          have bC := bN
          clear ZN bN
          have XC := XM
          clear XM
          go_wp2_with fail
          rw [rounds_succ]
          have hr : readL (h :: [p1]) = some (⟨k, 0, (q : Int), 0, false, 0, 0⟩ : OpD) := by
            rw [HRUN.out]
            simp [Opn.runP, Opn.stepP, Opn.stepT, Opn.stepX, Opn.stepS, HRD0.out]
          have hoo := HOO.out
          have hbb := HBB.out
          rw [hr] at hoo hbb
          simp only [Option.getD_none, Option.isSome_none, Option.getD_some, Option.isSome_some] at hoo hbb
          subst hoo; subst hbb
          clear hr
          go_wp2_with (first | (refine wpList_load_row rfl 50 _ rfl w4.heap.size rfl _ (opC (⟨k, 0, (q : Int), 0, false, 0, 0⟩ : OpD)) (0, 0) _ (by exact XC) Tryz.underlying50 rfl (by kernel_rfl) ?_) | (refine wpList_store_row rfl 50 _ _ rfl w.heap.size (opC (⟨k, 0, (q : Int), 0, false, 0, 0⟩ : OpD)) rfl rfl _ _ (by exact ZC) (by kernel_rfl) (by kernel_rfl) (by kernel_rfl) ?_))
          have Z9 := ZC.setRow (opC (⟨k, 0, (q : Int), 0, false, 0, 0⟩ : OpD))
          have b9 := below_setRow bC (Nat.le_refl w.heap.size) (opC (⟨k, 0, (q : Int), 0, false, 0, 0⟩ : OpD))
          refine bodyPost_ret (v := .tuple #[opV (⟨k, 0, (q : Int), 0, false, 0, 0⟩ : OpD), .bool true]) ?_ rfl ⟨rfl, b9⟩
          exact Rw.results_cell_slot (p := 2) (q := 3) (ty := 50) Tryz.results79 _ _ w.heap.size 50 _ (0, 0) _ rfl Z9 Tryz.underlying50 rfl (by kernel_rfl)
      · have hne : ¬ (nL : Int) = 2 := by rw [HNL.out]; simp only [List.length_cons]; omega
        have hoo := HOO.out
        have hbb := HBB.out
        rw [read_count HFD.out (by rw [HPT.out]; exact hcnt)] at hoo hbb
        simp only [Option.getD_none, Option.isSome_none, Option.getD_some, Option.isSome_some] at hoo hbb
        subst hoo; subst hbb
        have HCN := Lib.hid hcnt
        clear hcnt
        go_wp2_with (first | (refine wpList_store_row rfl 50 _ _ rfl w.heap.size (opC OpD.zero) rfl rfl _ _ (by exact ZC) (by kernel_rfl) (by kernel_rfl) (by kernel_rfl) ?_) | ((refine wpList_store_row rfl 84 _ _ rfl w2.heap.size (shC nb false true false bh) rfl rfl _ _ (by exact S3) (by kernel_rfl) (by kernel_rfl) (by kernel_rfl) ?_); rw [← hw4]; clear hw4 S3) | ((refine wpList_store_row rfl 50 _ _ rfl w4.heap.size (opC (opK k)) rfl rfl _ _ (by exact X5) (by kernel_rfl) (by kernel_rfl) (by kernel_rfl) ?_); rw [← hw6]; clear hw6 X5) | (at_builtin; refine append_row elemF rfl _ _ rfl w6.heap.size (.slice none 0 0) 0 [] rfl OA0 w6.heap.size 1 1 [(cloV 96 w4.heap.size)] rfl rfl (new_cells _ _ _) (fun u hu => by obtain rfl := List.mem_singleton.1 hu; rfl) (by decide) (by decide) (by simp only [World.size_alloc]; omega) ?_; intro vv u1 ON hbn; have BZ1 := BA0.trans hbn; obtain ⟨gp1, cp1, rfl, hgp1, hgl1, _, _, hpc1⟩ := owns_cells ON (by decide); have s6 := ((HS6.out).keep BZ1).cells; have ZC := Z6.keep BZ1; have bC := b6.trans (BZ1.mono sz6); clear OA0 BA0 hbn bs0 OF0))
        
        have Z9 := ZC.setRow (opC OpD.zero)
        have b9 := below_setRow bC (Nat.le_refl w.heap.size) (opC OpD.zero)
        refine bodyPost_ret (v := .tuple #[opV OpD.zero, .bool false]) ?_ rfl ⟨rfl, b9⟩
        exact Rw.results_cell_slot (p := 2) (q := 3) (ty := 50) Tryz.results79 _ _ w.heap.size 50 _ (0, 0) _ rfl Z9 Tryz.underlying50 rfl (by kernel_rfl)
    · have hcK : cellsK k = shC nb true true false bh := by unfold cellsK; rw [f1, f2, f3, hnb, hbh]
      have hpt : pts k = [0, 1] := by unfold pts; rw [f1, f2, f3]; rfl
      rw [hcK] at hHF
      have HF := Lib.hid hHF
      have HPT := Lib.hid hpt
      clear hcK hpt f1 f2 f3 hnb hbh hHF
      go_enter Tryz.func79, Tryz.ntmps79
      go_wp2_with fail
      refine HF.out.mono ?_
      rintro e w2 ⟨rfl, hb2⟩
      rw [← HW1.out] at hb2
      have Z2 := Z1.keep hb2
      have b2 := b1.trans (hb2.mono b1.size)
      have sz2 := b2.size
      have l2 := Z2.lt
      have S3 := Bk.new w2 (cellsK 0) 84
      obtain ⟨gs, hgs⟩ : ∃ q, q = w2.heap.size := ⟨_, rfl⟩
      obtain ⟨w4, hw4⟩ : ∃ q, q = (w2.alloc (.cells (cellsK 0) 84)).setRow w2.heap.size (shC nb true true false bh) := ⟨_, rfl⟩
      have S4 : Bk w4 w2.heap.size (shC nb true true false bh) 84 := by rw [hw4]; exact S3.setRow _
      have b24 : Below w2.heap.size w2 w4 := by rw [hw4]; exact below_setRow ((Below.refl _ _).alloc (Nat.le_refl _) _) (Nat.le_refl _) _
      have Z4 := Z2.keep b24
      have b4 := b2.trans (b24.mono sz2)
      have sz4 := b4.size
      have X5 := Bk.new w4 (opC OpD.zero) 50
      obtain ⟨w6, hw6⟩ : ∃ q, q = (w4.alloc (.cells (opC OpD.zero) 50)).setRow w4.heap.size (opC (opK k)) := ⟨_, rfl⟩
      have X6 : Bk w6 w4.heap.size (opC (opK k)) 50 := by rw [hw6]; exact X5.setRow _
      have b46 : Below w4.heap.size w4 w6 := by rw [hw6]; exact below_setRow ((Below.refl _ _).alloc (Nat.le_refl _) _) (Nat.le_refl _) _
      have Z6 := Z4.keep b46
      have S6 := S4.keep b46
      have b6 := b4.trans (b46.mono sz4)
      have l4 := Z4.lt
      have ls4 := S4.lt
      have lx6 := X6.lt
      have ls6 := S6.lt
      have sz6 := b6.size
      clear Z1 b1 hb2 Z2 b2 HF HW1 S4 b24 Z4 b4 b46
      have HS6 := Lib.hid S6
      have s6 := S6.cells
      clear S6
      have BZ0 : Below w6.heap.size w6 w6 := Below.refl _ _
      have OF0 : w6.ownsRow w6.heap.size 43 1 (.slice none 0 0) 0 [] := World.ownsRow_nil _ _ _ _
      have BA0 : Below w6.heap.size w6 (w6.alloc (.cells #[(cloV 94 w4.heap.size)] 43)) := BZ0.alloc BZ0.size _
      have OA0 := owns_below OF0 ((Below.refl w6.heap.size w6).alloc (Nat.le_refl _) (.cells #[(cloV 94 w4.heap.size)] 43)) (fun g hg => (World.ownsRow.lt OF0 g hg).2)
      have bs0 := BZ0.size
      go_upto_region 9 with (first | ((refine wpList_store_row rfl 84 _ _ rfl w2.heap.size (shC nb true true false bh) rfl rfl _ _ (by exact S3) (by kernel_rfl) (by kernel_rfl) (by kernel_rfl) ?_); rw [← hw4]; clear hw4 S3) | ((refine wpList_store_row rfl 50 _ _ rfl w4.heap.size (opC (opK k)) rfl rfl _ _ (by exact X5) (by kernel_rfl) (by kernel_rfl) (by kernel_rfl) ?_); rw [← hw6]; clear hw6 X5) | (at_builtin; refine append_row elemF rfl _ _ rfl w6.heap.size (.slice none 0 0) 0 [] rfl OA0 w6.heap.size 1 1 [(cloV 94 w4.heap.size)] rfl rfl (new_cells _ _ _) (fun u hu => by obtain rfl := List.mem_singleton.1 hu; rfl) (by decide) (by decide) (by simp only [World.size_alloc]; omega) ?_; intro vv u1 ON hbn; have BZ1 := BA0.trans hbn; obtain ⟨gp1, cp1, rfl, hgp1, hgl1, _, _, hpc1⟩ := owns_cells ON (by decide); have s6 := ((HS6.out).keep BZ1).cells; clear OA0 BA0 hbn bs0 OF0))
      have OF1 : u1.ownsRow w6.heap.size 43 1 (.slice (some ⟨gp1, 0, none⟩) 1 cp1) 1 [(cloV 94 w4.heap.size)] := ON
      clear ON
      have BA1 : Below w6.heap.size w6 (u1.alloc (.cells #[(cloV 96 w4.heap.size)] 43)) := BZ1.alloc BZ1.size _
      have OA1 := owns_below OF1 ((Below.refl u1.heap.size u1).alloc (Nat.le_refl _) (.cells #[(cloV 96 w4.heap.size)] 43)) (fun g hg => (World.ownsRow.lt OF1 g hg).2)
      have bs1 := BZ1.size
      clear s6
      by_cases hcnt : r.length = 2
      · have hne : nL = 3 := by rw [HNL.out]; simp only [List.length_cons]; omega
        subst hne
        have hrun := read_run HFD.out (by rw [HPT.out]; exact hcnt)
        rw [HPT.out] at hrun
        obtain ⟨p1, p2, rfl⟩ : ∃ p1 p2, r = [p1, p2] := by
          match r, hcnt with
          | [a, b], _ => exact ⟨a, b, rfl⟩
        have HRUN := Lib.hid hrun
        clear hrun hcnt
        have hw1 : w.cell? ⟨gw, 1, none⟩ = some (strV p1) := HCW.out 1 (by simp)
        have hx1 : p1.length ≤ 100000 := HX.out p1 (by simp)
        have hw2 : w.cell? ⟨gw, 2, none⟩ = some (strV p2) := HCW.out 2 (by simp)
        have hx2 : p2.length ≤ 100000 := HX.out p2 (by simp)
        clear HNL
        go_wp2_with (first | fail | (at_builtin; refine append_row elemF rfl _ _ rfl w6.heap.size (.slice (some ⟨gp1, 0, none⟩) 1 cp1) 1 [(cloV 94 w4.heap.size)] rfl OA1 u1.heap.size 1 1 [(cloV 96 w4.heap.size)] rfl rfl (new_cells _ _ _) (fun u hu => by obtain rfl := List.mem_singleton.1 hu; rfl) (by decide) (by decide) (by simp only [World.size_alloc]; omega) ?_; intro vv u2 ON hbn; have BZ2 := BA1.trans hbn; obtain ⟨gp2, cp2, rfl, hgp2, hgl2, _, _, hpc2⟩ := owns_cells ON (by decide); have s6 := ((HS6.out).keep BZ2).cells; clear OA1 BA1 hbn bs1 OF1))
        have OF2 : u2.ownsRow w6.heap.size 43 1 (.slice (some ⟨gp2, 0, none⟩) 2 cp2) 2 [(cloV 94 w4.heap.size), (cloV 96 w4.heap.size)] := ON
        clear ON
        have ZC := Z6.keep BZ2
        have bC := b6.trans (BZ2.mono sz6)
        have XC := X6.keep BZ2
        have sC := BZ2.size
        clear s6
        have hk1 := (bC.cell (show (⟨gw, 1, none⟩ : Addr).block < w.heap.size from hwl)).trans hw1
        have hq1 : u2.cell? ⟨gp2, 0, none⟩ = some (cloV 94 w4.heap.size) := hpc2 0 (by simp)
        have hk2 := (bC.cell (show (⟨gw, 2, none⟩ : Addr).block < w.heap.size from hwl)).trans hw2
        have hq2 : u2.cell? ⟨gp2, 1, none⟩ = some (cloV 96 w4.heap.size) := hpc2 1 (by simp)
        clear hw1
        clear hw2
        refine wp_loop_rounds 3 ?_
        rw [rounds_succ]
        have HC := Lib.hid (fRead1 ⟨p1.toArray⟩ (show (⟨p1.toArray⟩ : ByteArray).size ≤ 100000 from hx1) w u2 HL.out bC w4.heap.size (by omega) (opK k) XC rfl rfl rfl rfl)
        unfold TkPost at HC
        have epp : (⟨p1.toArray⟩ : ByteArray).data.toList = p1 := rfl
        rw [epp] at HC
        clear epp
        cases hrd : rdT p1 with
        | none =>
          rw [hrd] at HC
          simp only [Option.isSome_none] at HC
          have hr : readL (h :: [p1, p2]) = none := by
            rw [HRUN.out]
            simp [Opn.runP, Opn.stepP, Opn.stepT, Opn.stepX, Opn.stepS, hrd]
          have hoo := HOO.out
          have hbb := HBB.out
          rw [hr] at hoo hbb
          simp only [Option.getD_none, Option.isSome_none, Option.getD_some, Option.isSome_some] at hoo hbb
          subst hoo; subst hbb
          clear hr hrd
          go_wp2_with fail
          refine HC.out.mono ?_
          rintro e z1 ⟨o', XN, OC, rfl, hv⟩
          clear hv
          have ZN := OC.bk ZC (by omega)
          have bN := bC.trans (OC.below (by omega) bC.size)
          have sN := OC.size
          have hk2 := OC.cellq hk2 (by omega)
          have hq2 := OC.cellq hq2 (by omega)
          clear hk1 hq1 ZC bC XC HC OC
          have ZC := ZN
          have bC := bN
          clear ZN bN
          have Z9 := ZC.setRow (opC OpD.zero)
          have b9 := below_setRow bC (Nat.le_refl w.heap.size) (opC OpD.zero)
          go_wp2_with (refine wpList_store_row rfl 50 _ _ rfl w.heap.size (opC OpD.zero) rfl rfl _ _ (by exact ZC) (by kernel_rfl) (by kernel_rfl) (by kernel_rfl) ?_)
          refine bodyPost_ret (v := .tuple #[opV OpD.zero, .bool false]) ?_ rfl ⟨rfl, b9⟩
          exact Rw.results_cell_slot (p := 2) (q := 3) (ty := 50) Tryz.results79 _ _ w.heap.size 50 _ (0, 0) _ rfl Z9 Tryz.underlying50 rfl (by kernel_rfl)
        | some q =>
          obtain ⟨t1, u1, b1', n1⟩ := q
          rw [hrd] at HC
          simp only [Option.isSome_some] at HC
          have HRD0 := Lib.hid hrd
          clear hrd
          go_wp2_with fail
          refine HC.out.mono ?_
          rintro e z1 ⟨o', XN, OC, rfl, hv⟩
          have hv' := hv _ rfl
          subst hv'
          clear hv
          have XM : Bk z1 w4.heap.size (opC (⟨k, t1, 0, 0, u1, b1', n1⟩ : OpD)) 50 := XN
          clear XN
          have ZN := OC.bk ZC (by omega)
          have bN := bC.trans (OC.below (by omega) bC.size)
          have sN := OC.size
          have hk2 := OC.cellq hk2 (by omega)
          have hq2 := OC.cellq hq2 (by omega)
          clear hk1 hq1 ZC bC XC HC OC
          have ZC := ZN
          have bC := bN
          clear ZN bN
          have XC := XM
          clear XM
          go_wp2_with fail
          rw [rounds_succ]
          have HC := Lib.hid (fRead2 ⟨p2.toArray⟩ (show (⟨p2.toArray⟩ : ByteArray).size ≤ 100000 from hx2) z1 (HL.out.keep bC) w4.heap.size (⟨k, t1, 0, 0, u1, b1', n1⟩ : OpD) XC)
          unfold WdPost at HC
          have epp : (⟨p2.toArray⟩ : ByteArray).data.toList = p2 := rfl
          rw [epp] at HC
          clear epp
          cases hrd : rdN 64 p2 with
          | none =>
            rw [hrd] at HC
            simp only [Option.isSome_none] at HC
            have hr : readL (h :: [p1, p2]) = none := by
              rw [HRUN.out]
              simp [Opn.runP, Opn.stepP, Opn.stepT, Opn.stepX, Opn.stepS, HRD0.out, hrd]
            have hoo := HOO.out
            have hbb := HBB.out
            rw [hr] at hoo hbb
            simp only [Option.getD_none, Option.isSome_none, Option.getD_some, Option.isSome_some] at hoo hbb
            subst hoo; subst hbb
            clear hr hrd
            go_wp2_with fail
            refine HC.out.mono ?_
            rintro e z2 ⟨v', XN, OC, rfl, hv⟩
            clear hv
            have ZN := OC.bk ZC (by omega)
            have bN := bC.trans (OC.below (by omega) bC.size)
            have sN := OC.size
            clear hk2 hq2 ZC bC XC HC OC
            have ZC := ZN
            have bC := bN
            clear ZN bN
            have Z9 := ZC.setRow (opC OpD.zero)
            have b9 := below_setRow bC (Nat.le_refl w.heap.size) (opC OpD.zero)
            go_wp2_with (refine wpList_store_row rfl 50 _ _ rfl w.heap.size (opC OpD.zero) rfl rfl _ _ (by exact ZC) (by kernel_rfl) (by kernel_rfl) (by kernel_rfl) ?_)
            refine bodyPost_ret (v := .tuple #[opV OpD.zero, .bool false]) ?_ rfl ⟨rfl, b9⟩
            exact Rw.results_cell_slot (p := 2) (q := 3) (ty := 50) Tryz.results79 _ _ w.heap.size 50 _ (0, 0) _ rfl Z9 Tryz.underlying50 rfl (by kernel_rfl)
          | some q =>
            rw [hrd] at HC
            simp only [Option.isSome_some] at HC
            have HRD1 := Lib.hid hrd
            clear hrd
            go_wp2_with fail
            refine HC.out.mono ?_
            rintro e z2 ⟨v', XN, OC, rfl, hv⟩
            have hv' := hv _ rfl
            subst hv'
            clear hv
            have XM : Bk z2 w4.heap.size (opC (⟨k, t1, (q : Int), 0, u1, b1', n1⟩ : OpD)) 50 := XN
            clear XN
            have ZN := OC.bk ZC (by omega)
            have bN := bC.trans (OC.below (by omega) bC.size)
            have sN := OC.size
            clear hk2 hq2 ZC bC XC HC OC
            have ZC := ZN
            have bC := bN
            clear ZN bN
            have XC := XM
            clear XM
            go_wp2_with fail
            rw [rounds_succ]
            have hr : readL (h :: [p1, p2]) = some (⟨k, t1, (q : Int), 0, u1, b1', n1⟩ : OpD) := by
              rw [HRUN.out]
              simp [Opn.runP, Opn.stepP, Opn.stepT, Opn.stepX, Opn.stepS, HRD0.out, HRD1.out]
            have hoo := HOO.out
            have hbb := HBB.out
            rw [hr] at hoo hbb
            simp only [Option.getD_none, Option.isSome_none, Option.getD_some, Option.isSome_some] at hoo hbb
            subst hoo; subst hbb
            clear hr
            go_wp2_with (first | (refine wpList_load_row rfl 50 _ rfl w4.heap.size rfl _ (opC (⟨k, t1, (q : Int), 0, u1, b1', n1⟩ : OpD)) (0, 0) _ (by exact XC) Tryz.underlying50 rfl (by kernel_rfl) ?_) | (refine wpList_store_row rfl 50 _ _ rfl w.heap.size (opC (⟨k, t1, (q : Int), 0, u1, b1', n1⟩ : OpD)) rfl rfl _ _ (by exact ZC) (by kernel_rfl) (by kernel_rfl) (by kernel_rfl) ?_))
            have Z9 := ZC.setRow (opC (⟨k, t1, (q : Int), 0, u1, b1', n1⟩ : OpD))
            have b9 := below_setRow bC (Nat.le_refl w.heap.size) (opC (⟨k, t1, (q : Int), 0, u1, b1', n1⟩ : OpD))
            refine bodyPost_ret (v := .tuple #[opV (⟨k, t1, (q : Int), 0, u1, b1', n1⟩ : OpD), .bool true]) ?_ rfl ⟨rfl, b9⟩
            exact Rw.results_cell_slot (p := 2) (q := 3) (ty := 50) Tryz.results79 _ _ w.heap.size 50 _ (0, 0) _ rfl Z9 Tryz.underlying50 rfl (by kernel_rfl)
      · have hne : ¬ (nL : Int) = 3 := by rw [HNL.out]; simp only [List.length_cons]; omega
        have hoo := HOO.out
        have hbb := HBB.out
        rw [read_count HFD.out (by rw [HPT.out]; exact hcnt)] at hoo hbb
        simp only [Option.getD_none, Option.isSome_none, Option.getD_some, Option.isSome_some] at hoo hbb
        subst hoo; subst hbb
        have HCN := Lib.hid hcnt
        clear hcnt
        go_wp2_with (first | (refine wpList_store_row rfl 50 _ _ rfl w.heap.size (opC OpD.zero) rfl rfl _ _ (by exact ZC) (by kernel_rfl) (by kernel_rfl) (by kernel_rfl) ?_) | fail | (at_builtin; refine append_row elemF rfl _ _ rfl w6.heap.size (.slice (some ⟨gp1, 0, none⟩) 1 cp1) 1 [(cloV 94 w4.heap.size)] rfl OA1 u1.heap.size 1 1 [(cloV 96 w4.heap.size)] rfl rfl (new_cells _ _ _) (fun u hu => by obtain rfl := List.mem_singleton.1 hu; rfl) (by decide) (by decide) (by simp only [World.size_alloc]; omega) ?_; intro vv u2 ON hbn; have BZ2 := BA1.trans hbn; obtain ⟨gp2, cp2, rfl, hgp2, hgl2, _, _, hpc2⟩ := owns_cells ON (by decide); have s6 := ((HS6.out).keep BZ2).cells; have ZC := Z6.keep BZ2; have bC := b6.trans (BZ2.mono sz6); clear OA1 BA1 hbn bs1 OF1))
        
        have Z9 := ZC.setRow (opC OpD.zero)
        have b9 := below_setRow bC (Nat.le_refl w.heap.size) (opC OpD.zero)
        refine bodyPost_ret (v := .tuple #[opV OpD.zero, .bool false]) ?_ rfl ⟨rfl, b9⟩
        exact Rw.results_cell_slot (p := 2) (q := 3) (ty := 50) Tryz.results79 _ _ w.heap.size 50 _ (0, 0) _ rfl Z9 Tryz.underlying50 rfl (by kernel_rfl)
    · have hcK : cellsK k = shC nb false false true bh := by unfold cellsK; rw [f1, f2, f3, hnb, hbh]
      have hpt : pts k = [2] := by unfold pts; rw [f1, f2, f3]; rfl
      rw [hcK] at hHF
      have HF := Lib.hid hHF
      have HPT := Lib.hid hpt
      clear hcK hpt f1 f2 f3 hnb hbh hHF
      go_enter Tryz.func79, Tryz.ntmps79
      go_wp2_with fail
      refine HF.out.mono ?_
      rintro e w2 ⟨rfl, hb2⟩
      rw [← HW1.out] at hb2
      have Z2 := Z1.keep hb2
      have b2 := b1.trans (hb2.mono b1.size)
      have sz2 := b2.size
      have l2 := Z2.lt
      have S3 := Bk.new w2 (cellsK 0) 84
      obtain ⟨gs, hgs⟩ : ∃ q, q = w2.heap.size := ⟨_, rfl⟩
      obtain ⟨w4, hw4⟩ : ∃ q, q = (w2.alloc (.cells (cellsK 0) 84)).setRow w2.heap.size (shC nb false false true bh) := ⟨_, rfl⟩
      have S4 : Bk w4 w2.heap.size (shC nb false false true bh) 84 := by rw [hw4]; exact S3.setRow _
      have b24 : Below w2.heap.size w2 w4 := by rw [hw4]; exact below_setRow ((Below.refl _ _).alloc (Nat.le_refl _) _) (Nat.le_refl _) _
      have Z4 := Z2.keep b24
      have b4 := b2.trans (b24.mono sz2)
      have sz4 := b4.size
      have X5 := Bk.new w4 (opC OpD.zero) 50
      obtain ⟨w6, hw6⟩ : ∃ q, q = (w4.alloc (.cells (opC OpD.zero) 50)).setRow w4.heap.size (opC (opK k)) := ⟨_, rfl⟩
      have X6 : Bk w6 w4.heap.size (opC (opK k)) 50 := by rw [hw6]; exact X5.setRow _
      have b46 : Below w4.heap.size w4 w6 := by rw [hw6]; exact below_setRow ((Below.refl _ _).alloc (Nat.le_refl _) _) (Nat.le_refl _) _
      have Z6 := Z4.keep b46
      have S6 := S4.keep b46
      have b6 := b4.trans (b46.mono sz4)
      have l4 := Z4.lt
      have ls4 := S4.lt
      have lx6 := X6.lt
      have ls6 := S6.lt
      have sz6 := b6.size
      clear Z1 b1 hb2 Z2 b2 HF HW1 S4 b24 Z4 b4 b46
      have HS6 := Lib.hid S6
      have s6 := S6.cells
      clear S6
      have BZ0 : Below w6.heap.size w6 w6 := Below.refl _ _
      have OF0 : w6.ownsRow w6.heap.size 43 1 (.slice none 0 0) 0 [] := World.ownsRow_nil _ _ _ _
      have BA0 : Below w6.heap.size w6 (w6.alloc (.cells #[(cloV 98 w4.heap.size)] 43)) := BZ0.alloc BZ0.size _
      have OA0 := owns_below OF0 ((Below.refl w6.heap.size w6).alloc (Nat.le_refl _) (.cells #[(cloV 98 w4.heap.size)] 43)) (fun g hg => (World.ownsRow.lt OF0 g hg).2)
      have bs0 := BZ0.size
      by_cases hcnt : r.length = 1
      · have hne : nL = 2 := by rw [HNL.out]; simp only [List.length_cons]; omega
        subst hne
        have hrun := read_run HFD.out (by rw [HPT.out]; exact hcnt)
        rw [HPT.out] at hrun
        obtain ⟨p1, rfl⟩ := List.length_eq_one_iff.1 hcnt
        have HRUN := Lib.hid hrun
        clear hrun hcnt
        have hw1 : w.cell? ⟨gw, 1, none⟩ = some (strV p1) := HCW.out 1 (by simp)
        have hx1 : p1.length ≤ 100000 := HX.out p1 (by simp)
        clear HNL
        go_wp2_with (first | ((refine wpList_store_row rfl 84 _ _ rfl w2.heap.size (shC nb false false true bh) rfl rfl _ _ (by exact S3) (by kernel_rfl) (by kernel_rfl) (by kernel_rfl) ?_); rw [← hw4]; clear hw4 S3) | ((refine wpList_store_row rfl 50 _ _ rfl w4.heap.size (opC (opK k)) rfl rfl _ _ (by exact X5) (by kernel_rfl) (by kernel_rfl) (by kernel_rfl) ?_); rw [← hw6]; clear hw6 X5) | (at_builtin; refine append_row elemF rfl _ _ rfl w6.heap.size (.slice none 0 0) 0 [] rfl OA0 w6.heap.size 1 1 [(cloV 98 w4.heap.size)] rfl rfl (new_cells _ _ _) (fun u hu => by obtain rfl := List.mem_singleton.1 hu; rfl) (by decide) (by decide) (by simp only [World.size_alloc]; omega) ?_; intro vv u1 ON hbn; have BZ1 := BA0.trans hbn; obtain ⟨gp1, cp1, rfl, hgp1, hgl1, _, _, hpc1⟩ := owns_cells ON (by decide); have s6 := ((HS6.out).keep BZ1).cells; clear OA0 BA0 hbn bs0 OF0))
        have OF1 : u1.ownsRow w6.heap.size 43 1 (.slice (some ⟨gp1, 0, none⟩) 1 cp1) 1 [(cloV 98 w4.heap.size)] := ON
        clear ON
        have ZC := Z6.keep BZ1
        have bC := b6.trans (BZ1.mono sz6)
        have XC := X6.keep BZ1
        have sC := BZ1.size
        clear s6
        have hk1 := (bC.cell (show (⟨gw, 1, none⟩ : Addr).block < w.heap.size from hwl)).trans hw1
        have hq1 : u1.cell? ⟨gp1, 0, none⟩ = some (cloV 98 w4.heap.size) := hpc1 0 (by simp)
        clear hw1
        refine wp_loop_rounds 2 ?_
        rw [rounds_succ]
        have HC := Lib.hid (fRead3 ⟨p1.toArray⟩ (show (⟨p1.toArray⟩ : ByteArray).size ≤ 100000 from hx1) u1 (HL.out.keep bC) w4.heap.size (opK k) XC)
        unfold SlPost at HC
        have epp : (⟨p1.toArray⟩ : ByteArray).data.toList = p1 := rfl
        rw [epp] at HC
        clear epp
        cases hrd : rdN 63 p1 with
        | none =>
          rw [hrd] at HC
          simp only [Option.isSome_none] at HC
          have hr : readL (h :: [p1]) = none := by
            rw [HRUN.out]
            simp [Opn.runP, Opn.stepP, Opn.stepT, Opn.stepX, Opn.stepS, hrd]
          have hoo := HOO.out
          have hbb := HBB.out
          rw [hr] at hoo hbb
          simp only [Option.getD_none, Option.isSome_none, Option.getD_some, Option.isSome_some] at hoo hbb
          subst hoo; subst hbb
          clear hr hrd
          go_wp2_with fail
          refine HC.out.mono ?_
          rintro e z1 ⟨v', XN, OC, rfl, hv⟩
          clear hv
          have ZN := OC.bk ZC (by omega)
          have bN := bC.trans (OC.below (by omega) bC.size)
          have sN := OC.size
          clear hk1 hq1 ZC bC XC HC OC
          have ZC := ZN
          have bC := bN
          clear ZN bN
          have Z9 := ZC.setRow (opC OpD.zero)
          have b9 := below_setRow bC (Nat.le_refl w.heap.size) (opC OpD.zero)
          go_wp2_with (refine wpList_store_row rfl 50 _ _ rfl w.heap.size (opC OpD.zero) rfl rfl _ _ (by exact ZC) (by kernel_rfl) (by kernel_rfl) (by kernel_rfl) ?_)
          refine bodyPost_ret (v := .tuple #[opV OpD.zero, .bool false]) ?_ rfl ⟨rfl, b9⟩
          exact Rw.results_cell_slot (p := 2) (q := 3) (ty := 50) Tryz.results79 _ _ w.heap.size 50 _ (0, 0) _ rfl Z9 Tryz.underlying50 rfl (by kernel_rfl)
        | some q =>
          rw [hrd] at HC
          simp only [Option.isSome_some] at HC
          have HRD0 := Lib.hid hrd
          clear hrd
          go_wp2_with fail
          refine HC.out.mono ?_
          rintro e z1 ⟨v', XN, OC, rfl, hv⟩
          have hv' := hv _ rfl
          subst hv'
          clear hv
          have XM : Bk z1 w4.heap.size (opC (⟨k, 0, 0, (q : Int), false, 0, 0⟩ : OpD)) 50 := XN
          clear XN
          have ZN := OC.bk ZC (by omega)
          have bN := bC.trans (OC.below (by omega) bC.size)
          have sN := OC.size
          clear hk1 hq1 ZC bC XC HC OC
          have ZC := ZN
          have bC := bN
          clear ZN bN
          have XC := XM
          clear XM
          go_wp2_with fail
          rw [rounds_succ]
          have hr : readL (h :: [p1]) = some (⟨k, 0, 0, (q : Int), false, 0, 0⟩ : OpD) := by
            rw [HRUN.out]
            simp [Opn.runP, Opn.stepP, Opn.stepT, Opn.stepX, Opn.stepS, HRD0.out]
          have hoo := HOO.out
          have hbb := HBB.out
          rw [hr] at hoo hbb
          simp only [Option.getD_none, Option.isSome_none, Option.getD_some, Option.isSome_some] at hoo hbb
          subst hoo; subst hbb
          clear hr
          go_wp2_with (first | (refine wpList_load_row rfl 50 _ rfl w4.heap.size rfl _ (opC (⟨k, 0, 0, (q : Int), false, 0, 0⟩ : OpD)) (0, 0) _ (by exact XC) Tryz.underlying50 rfl (by kernel_rfl) ?_) | (refine wpList_store_row rfl 50 _ _ rfl w.heap.size (opC (⟨k, 0, 0, (q : Int), false, 0, 0⟩ : OpD)) rfl rfl _ _ (by exact ZC) (by kernel_rfl) (by kernel_rfl) (by kernel_rfl) ?_))
          have Z9 := ZC.setRow (opC (⟨k, 0, 0, (q : Int), false, 0, 0⟩ : OpD))
          have b9 := below_setRow bC (Nat.le_refl w.heap.size) (opC (⟨k, 0, 0, (q : Int), false, 0, 0⟩ : OpD))
          refine bodyPost_ret (v := .tuple #[opV (⟨k, 0, 0, (q : Int), false, 0, 0⟩ : OpD), .bool true]) ?_ rfl ⟨rfl, b9⟩
          exact Rw.results_cell_slot (p := 2) (q := 3) (ty := 50) Tryz.results79 _ _ w.heap.size 50 _ (0, 0) _ rfl Z9 Tryz.underlying50 rfl (by kernel_rfl)
      · have hne : ¬ (nL : Int) = 2 := by rw [HNL.out]; simp only [List.length_cons]; omega
        have hoo := HOO.out
        have hbb := HBB.out
        rw [read_count HFD.out (by rw [HPT.out]; exact hcnt)] at hoo hbb
        simp only [Option.getD_none, Option.isSome_none, Option.getD_some, Option.isSome_some] at hoo hbb
        subst hoo; subst hbb
        have HCN := Lib.hid hcnt
        clear hcnt
        go_wp2_with (first | (refine wpList_store_row rfl 50 _ _ rfl w.heap.size (opC OpD.zero) rfl rfl _ _ (by exact ZC) (by kernel_rfl) (by kernel_rfl) (by kernel_rfl) ?_) | ((refine wpList_store_row rfl 84 _ _ rfl w2.heap.size (shC nb false false true bh) rfl rfl _ _ (by exact S3) (by kernel_rfl) (by kernel_rfl) (by kernel_rfl) ?_); rw [← hw4]; clear hw4 S3) | ((refine wpList_store_row rfl 50 _ _ rfl w4.heap.size (opC (opK k)) rfl rfl _ _ (by exact X5) (by kernel_rfl) (by kernel_rfl) (by kernel_rfl) ?_); rw [← hw6]; clear hw6 X5) | (at_builtin; refine append_row elemF rfl _ _ rfl w6.heap.size (.slice none 0 0) 0 [] rfl OA0 w6.heap.size 1 1 [(cloV 98 w4.heap.size)] rfl rfl (new_cells _ _ _) (fun u hu => by obtain rfl := List.mem_singleton.1 hu; rfl) (by decide) (by decide) (by simp only [World.size_alloc]; omega) ?_; intro vv u1 ON hbn; have BZ1 := BA0.trans hbn; obtain ⟨gp1, cp1, rfl, hgp1, hgl1, _, _, hpc1⟩ := owns_cells ON (by decide); have s6 := ((HS6.out).keep BZ1).cells; have ZC := Z6.keep BZ1; have bC := b6.trans (BZ1.mono sz6); clear OA0 BA0 hbn bs0 OF0))
        
        have Z9 := ZC.setRow (opC OpD.zero)
        have b9 := below_setRow bC (Nat.le_refl w.heap.size) (opC OpD.zero)
        refine bodyPost_ret (v := .tuple #[opV OpD.zero, .bool false]) ?_ rfl ⟨rfl, b9⟩
        exact Rw.results_cell_slot (p := 2) (q := 3) (ty := 50) Tryz.results79 _ _ w.heap.size 50 _ (0, 0) _ rfl Z9 Tryz.underlying50 rfl (by kernel_rfl)
end Go.Proofs.YtpmcedfeiconfaaGreatDoor.Opw

/- Layer 12: oper.Parse. -/
namespace Go.Proofs.YtpmcedfeiconfaaGreatDoor.Opw
open Go Go.RowKit Go.ChangeMaps Go.Proofs.YtpmcedfeiconfaaGreatDoor.Gro Go.Proofs.YtpmcedfeiconfaaGreatDoor.Own Go.Proofs.YtpmcedfeiconfaaGreatDoor.Mr Go.Proofs.YtpmcedfeiconfaaGreatDoor.Opn
set_option linter.unusedVariables false
set_option linter.unusedSimpArgs false
theorem rd_le {B : Nat} {l : List UInt8} {v : Nat} (h : rdN B l = some v) : v ≤ 2 ^ B - 1 := by
  unfold rdN at h
  split at h
  · rename_i u hu
    injection h with h
    rw [← h]
    exact Lib.parseUintB_le hu
  · cases h
theorem le64 {v : Nat} (h : v ≤ 2 ^ 64 - 1) : (v : Int) ≤ 18446744073709551615 := by
  have : (2 : Nat) ^ 64 - 1 = 18446744073709551615 := by decide
  omega
theorem le63 {v : Nat} (h : v ≤ 2 ^ 63 - 1) : (v : Int) ≤ 9223372036854775807 := by
  have : (2 : Nat) ^ 63 - 1 = 9223372036854775807 := by decide
  omega
theorem tk_fits {l : List UInt8} {t : Int} {u : Bool} {b n : Int} (h : rdT l = some (t, u, b, n)) : 0 ≤ t ∧ t ≤ 18446744073709551615 ∧ 0 ≤ b ∧ b ≤ 9223372036854775807 ∧ 0 ≤ n ∧ n ≤ 9223372036854775807 := by
  unfold rdT at h
  split at h
  · split at h
    · split at h
      · rename_i x y h1 h2
        have e1 := le63 (rd_le h1)
        have e2 := le63 (rd_le h2)
        simp only [Option.some.injEq, Prod.mk.injEq] at h
        omega
      · cases h
    · cases h
  · split at h
    · rename_i v h1
      have e1 := le64 (rd_le h1)
      simp only [Option.some.injEq, Prod.mk.injEq] at h
      omega
    · cases h
theorem step_fits {i : Nat} {p : List UInt8} {o o' : OpD} (hF : o.Fits) (h : Opn.stepP i p o = some o') : o'.Fits := by
  match i with
  | 0 =>
    simp only [Opn.stepP, Opn.stepT] at h
    split at h
    · rename_i t u b n h1
      have := tk_fits h1
      injection h with h
      rw [← h]
      exact ⟨hF.k, by simp only; omega, hF.x, hF.s, by simp only; omega, by simp only; omega⟩
    · cases h
  | 1 =>
    simp only [Opn.stepP, Opn.stepX] at h
    split at h
    · rename_i v h1
      have := le64 (rd_le h1)
      injection h with h
      rw [← h]
      exact ⟨hF.k, hF.t, by simp only; omega, hF.s, hF.b, hF.n⟩
    · cases h
  | n + 2 =>
    simp only [Opn.stepP, Opn.stepS] at h
    split at h
    · rename_i v h1
      have := le63 (rd_le h1)
      injection h with h
      rw [← h]
      exact ⟨hF.k, hF.t, hF.x, by simp only; omega, hF.b, hF.n⟩
    · cases h
theorem run_fits : ∀ (ps : List Nat) (q : List (List UInt8)) (o o' : OpD), o.Fits → Opn.runP ps q o = some o' → o'.Fits
  | [], q, o, o', hF, h => by
    simp only [Opn.runP] at h
    injection h with h
    exact h ▸ hF
  | i :: ps, [], o, o', hF, h => by
    simp only [Opn.runP] at h
    injection h with h
    exact h ▸ hF
  | i :: ps, p :: q, o, o', hF, h => by
    simp only [Opn.runP, Option.bind_eq_some_iff] at h
    obtain ⟨o1, h1, h2⟩ := h
    exact run_fits ps q o1 o' (step_fits hF h1) h2
theorem read_fits {L : List (List UInt8)} {o : OpD} (h : readL L = some o) : o.Fits := by
  unfold readL at h
  split at h
  · cases h
  · split at h
    · cases h
    · rename_i k hk
      split at h
      · refine run_fits _ _ _ _ ?_ h
        have hm := List.mem_of_find?_eq_some hk
        simp only [kinds, List.mem_cons, List.not_mem_nil, or_false] at hm
        refine ⟨?_, (by show (0 : Int) ≤ 0 ∧ (0 : Int) ≤ 18446744073709551615; decide), (by show (0 : Int) ≤ 0 ∧ (0 : Int) ≤ 18446744073709551615; decide), (by show (-9223372036854775808 : Int) ≤ 0 ∧ (0 : Int) ≤ 9223372036854775807; decide), (by show (-9223372036854775808 : Int) ≤ 0 ∧ (0 : Int) ≤ 9223372036854775807; decide), (by show (-9223372036854775808 : Int) ≤ 0 ∧ (0 : Int) ≤ 9223372036854775807; decide)⟩
        show -9223372036854775808 ≤ k ∧ k ≤ 9223372036854775807
        omega
      · cases h
theorem split_pos (n : Nat) (s : List UInt8) : 0 < (splitL (n + 1) s).length := by unfold splitL; simp
theorem split_len : ∀ (n : Nat) (s : List UInt8), (splitL n s).length ≤ n
  | 0, s => by simp [splitL]
  | n + 1, s => by
    simp only [splitL, List.length_cons]
    split
    · simp
    · have := split_len n (Lib.cut s [32]).2.1
      omega
def ParsePost (l : List UInt8) (w : World) (e : Ending) (w' : World) : Prop :=
  e = .returned (.tuple #[opV ((parseL l).getD OpD.zero), .int .i64 (if (parseL l).isSome = true then 0 else 3)]) ∧ Below w.heap.size w w'
set_option maxRecDepth 100000 in
set_option maxHeartbeats 16000000 in
theorem fParse (l : List UInt8) (hl : l.length ≤ 100000) (w : World) (HLB : Lb w) : Calls Tryz.prog 67 #[strV l] w (ParsePost l w) := by
  obtain ⟨oo, hoo⟩ : ∃ q, q = (parseL l).getD OpD.zero := ⟨_, rfl⟩
  obtain ⟨bb, hbb⟩ : ∃ q : Int, q = (if (parseL l).isSome = true then 0 else 3) := ⟨_, rfl⟩
  unfold ParsePost
  rw [← hoo, ← hbb]
  have HOO := Lib.hid hoo
  have HBB := Lib.hid hbb
  clear hoo hbb
  have hz0 := zero_op
  have hb0 := build_op0
  obtain ⟨w1, hw1⟩ : ∃ q, q = w.alloc (.cells (opC OpD.zero) 50) := ⟨_, rfl⟩
  have Z1 : Bk w1 w.heap.size (opC OpD.zero) 50 := by rw [hw1]; exact Bk.new w _ _
  have b1 : Below w.heap.size w w1 := by rw [hw1]; exact (Below.refl _ _).alloc (Nat.le_refl _) _
  have L1 := HLB.keep b1
  have hS := fSplit l (by omega) w1 L1
  rw [hw1] at hS
  have HS := Lib.hid hS
  have HW1 := Lib.hid hw1
  clear hS hw1
  go_enter Tryz.func67, Tryz.ntmps67
  go_wp2_with fail
  refine HS.out.mono ?_
  rintro e w2 ⟨v, rfl, O2, hb2⟩
  rw [← HW1.out] at O2 hb2
  have Z2 := Z1.keep hb2
  have b2 := b1.trans (hb2.mono b1.size)
  have L2 := HLB.keep b2
  have HR := Lib.hid (fRead w1.heap.size (splitL 4 l) (fun x hx => Nat.le_trans (splitL_short 4 l x hx) hl) (split_pos 3 l) v w2 O2 L2)
  clear HS HW1 Z1 b1 L1 hb2 O2
  unfold ReadPost at HR
  have sz2 := b2.size
  cases hrd : readL (splitL 4 l) with
  | none =>
    rw [hrd] at HR
    simp only [Option.getD_none, Option.isSome_none] at HR
    have hp : parseL l = none := by unfold parseL; rw [hrd]
    have hoo := HOO.out
    have hbb := HBB.out
    rw [hp] at hoo hbb
    simp only [Option.getD_none, Option.isSome_none, Bool.false_eq_true, if_false] at hoo hbb
    subst hoo; subst hbb
    clear hp hrd
    go_wp2_with fail
    refine HR.out.mono ?_
    rintro e w3 ⟨rfl, hb3⟩
    have Z3 := Z2.keep hb3
    have b3 := b2.trans (hb3.mono sz2)
    have sz3 := b3.size
    have l3 := Z3.lt
    have X4 := Bk.new w3 (opC OpD.zero) 50
    obtain ⟨w4, hw4⟩ : ∃ q, q = (w3.alloc (.cells (opC OpD.zero) 50)).setRow w3.heap.size (opC OpD.zero) := ⟨_, rfl⟩
    have b34 : Below w3.heap.size w3 w4 := by rw [hw4]; exact below_setRow ((Below.refl _ _).alloc (Nat.le_refl _) _) (Nat.le_refl _) _
    have Z4 := Z3.keep b34
    have b4 := b3.trans (b34.mono sz3)
    clear Z2 b2 L2 hb3 Z3 b3 HR
    go_wp2_with (first | ((refine wpList_store_row rfl 50 _ _ rfl w3.heap.size (opC OpD.zero) rfl rfl _ _ (by exact X4) (by kernel_rfl) (by kernel_rfl) (by kernel_rfl) ?_); rw [← hw4]; clear hw4 X4) | (refine wpList_store_row rfl 50 _ _ rfl w.heap.size (opC OpD.zero) rfl rfl _ _ (by exact Z4) (by kernel_rfl) (by kernel_rfl) (by kernel_rfl) ?_))
    have Z5 := Z4.setRow (opC OpD.zero)
    have b5 := below_setRow b4 (Nat.le_refl w.heap.size) (opC OpD.zero)
    refine bodyPost_ret (v := .tuple #[opV OpD.zero, .int .i64 3]) ?_ rfl ⟨rfl, b5⟩
    exact Rw.results_cell_slot (p := 2) (q := 3) (ty := 50) Tryz.results67 _ _ w.heap.size 50 _ (0, 0) _ rfl Z5 Tryz.underlying50 rfl (by kernel_rfl)
  | some o =>
    rw [hrd] at HR
    simp only [Option.getD_some, Option.isSome_some] at HR
    have hF := read_fits hrd
    have hp : parseL l = if (right o && text o == l) = true then some o else none := by
      unfold parseL
      rw [hrd]
    have HP := Lib.hid hp
    clear hp hrd
    go_wp2_with fail
    refine HR.out.mono ?_
    rintro e w3 ⟨rfl, hb3⟩
    have Z3 := Z2.keep hb3
    have b3 := b2.trans (hb3.mono sz2)
    have sz3 := b3.size
    have l3 := Z3.lt
    have X4 := Bk.new w3 (opC OpD.zero) 50
    obtain ⟨w4, hw4⟩ : ∃ q, q = (w3.alloc (.cells (opC OpD.zero) 50)).setRow w3.heap.size (opC o) := ⟨_, rfl⟩
    have X5 : Bk w4 w3.heap.size (opC o) 50 := by rw [hw4]; exact X4.setRow _
    have b34 : Below w3.heap.size w3 w4 := by rw [hw4]; exact below_setRow ((Below.refl _ _).alloc (Nat.le_refl _) _) (Nat.le_refl _) _
    have Z4 := Z3.keep b34
    have b4 := b3.trans (b34.mono sz3)
    have sz4 := b4.size
    have L4 := HLB.keep b4
    have HT := Lib.hid (fText o hF w4 L4)
    clear Z2 b2 L2 hb3 Z3 b3 HR b34
    go_wp2_with (first | ((refine wpList_store_row rfl 50 _ _ rfl w3.heap.size (opC o) rfl rfl _ _ (by exact X4) (by kernel_rfl) (by kernel_rfl) (by kernel_rfl) ?_); rw [← hw4]; clear hw4 X4) | (refine wpList_load_row rfl 50 _ rfl w3.heap.size rfl _ (opC o) (0, 0) _ (by exact X5) Tryz.underlying50 rfl (by kernel_rfl) ?_))
    refine HT.out.mono ?_
    rintro e w5 ⟨rfl, hb5⟩
    have X6 := X5.keep hb5
    have Z6 := Z4.keep hb5
    have b6 := b4.trans (hb5.mono sz4)
    clear X5 Z4 b4 hb5 HT L4
    have hgood : (right o && text o == l) = false → parseL l = none := fun h => by rw [HP.out, h]; rfl
    cases hr : right o with
    | false =>
      rw [hr] at hgood
      have hp := hgood rfl
      have hoo := HOO.out
      have hbb := HBB.out
      rw [hp] at hoo hbb
      simp only [Option.getD_none, Option.isSome_none, Bool.false_eq_true, if_false] at hoo hbb
      subst hoo; subst hbb
      clear hp hgood hr
      go_wp2_with (refine wpList_store_row rfl 50 _ _ rfl w.heap.size (opC OpD.zero) rfl rfl _ _ (by exact Z6) (by kernel_rfl) (by kernel_rfl) (by kernel_rfl) ?_)
      have Z7 := Z6.setRow (opC OpD.zero)
      have b7 := below_setRow b6 (Nat.le_refl w.heap.size) (opC OpD.zero)
      refine bodyPost_ret (v := .tuple #[opV OpD.zero, .int .i64 3]) ?_ rfl ⟨rfl, b7⟩
      exact Rw.results_cell_slot (p := 2) (q := 3) (ty := 50) Tryz.results67 _ _ w.heap.size 50 _ (0, 0) _ rfl Z7 Tryz.underlying50 rfl (by kernel_rfl)
    | true =>
      obtain ⟨tx, htx⟩ : ∃ q, q = text o := ⟨_, rfl⟩
      rw [hr, ← htx] at hgood
      simp only [if_true, ← htx]
      cases hc : (tx == l) with
      | false =>
        rw [hc] at hgood
        have hp := hgood rfl
        have hoo := HOO.out
        have hbb := HBB.out
        rw [hp] at hoo hbb
        simp only [Option.getD_none, Option.isSome_none, Bool.false_eq_true, if_false] at hoo hbb
        subst hoo; subst hbb
        have HH := Lib.hid (And.intro htx hr)
        clear hp hgood hr htx
        go_wp2_with (refine wpList_store_row rfl 50 _ _ rfl w.heap.size (opC OpD.zero) rfl rfl _ _ (by exact Z6) (by kernel_rfl) (by kernel_rfl) (by kernel_rfl) ?_)
        have Z7 := Z6.setRow (opC OpD.zero)
        have b7 := below_setRow b6 (Nat.le_refl w.heap.size) (opC OpD.zero)
        refine bodyPost_ret (v := .tuple #[opV OpD.zero, .int .i64 3]) ?_ rfl ⟨rfl, b7⟩
        exact Rw.results_cell_slot (p := 2) (q := 3) (ty := 50) Tryz.results67 _ _ w.heap.size 50 _ (0, 0) _ rfl Z7 Tryz.underlying50 rfl (by kernel_rfl)
      | true =>
        have hp : parseL l = some o := by rw [HP.out, hr, ← htx, hc]; rfl
        have hoo := HOO.out
        have hbb := HBB.out
        rw [hp] at hoo hbb
        simp only [Option.getD_some, Option.isSome_some, if_true] at hoo hbb
        have hoo2 := hoo.symm
        subst hoo2; subst hbb
        have HH := Lib.hid (And.intro htx hr)
        clear hp hgood hr htx
        go_wp2_with (first | (refine wpList_load_row rfl 50 _ rfl w3.heap.size rfl _ (opC o) (0, 0) _ (by exact X6) Tryz.underlying50 rfl (by kernel_rfl) ?_) | (refine wpList_store_row rfl 50 _ _ rfl w.heap.size (opC o) rfl rfl _ _ (by exact Z6) (by kernel_rfl) (by kernel_rfl) (by kernel_rfl) ?_))
        have Z7 := Z6.setRow (opC o)
        have b7 := below_setRow b6 (Nat.le_refl w.heap.size) (opC o)
        refine bodyPost_ret (v := .tuple #[opV o, .int .i64 0]) ?_ rfl ⟨rfl, b7⟩
        exact Rw.results_cell_slot (p := 2) (q := 3) (ty := 50) Tryz.results67 _ _ w.heap.size 50 _ (0, 0) _ rfl Z7 Tryz.underlying50 rfl (by kernel_rfl)
end Go.Proofs.YtpmcedfeiconfaaGreatDoor.Opw

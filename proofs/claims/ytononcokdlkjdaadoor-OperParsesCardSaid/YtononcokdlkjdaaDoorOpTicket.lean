/- Layer 12: oper.readTicket and the closures of oper.read. -/
import Derived.Test.YtononcokdlkjdaaDoorOpRead
namespace Go.Proofs.YtononcokdlkjdaaDoor.Opw
open Go Go.RowKit Go.ChangeMaps Go.Proofs.YtononcokdlkjdaaDoor.Gro Go.Proofs.YtononcokdlkjdaaDoor.Own Go.Proofs.YtononcokdlkjdaaDoor.Mr Go.Proofs.YtononcokdlkjdaaDoor.Opn
set_option linter.unusedVariables false
set_option linter.unusedSimpArgs false
theorem cut_sizes (s p : List UInt8) : (Lib.cut s p).1.length ≤ s.length ∧ (Lib.cut s p).2.1.length ≤ s.length := by
  unfold Lib.cut
  split
  · simp; omega
  · simp
theorem Oth.drewN {g : Nat} (w : World) (n : Nat) : Oth g w (w.drewN n) := ⟨rfl, rfl, rfl, Nat.le_refl _, fun _ _ _ => rfl⟩
theorem bk_drewN {w : World} {g n : Nat} {cs : Array Value} {t : TypeId} (X : Bk w g cs t) : Bk (w.drewN n) g cs t := X
theorem lb_drewN {w : World} {n : Nat} (L : Lb w) : Lb (w.drewN n) := L.keep (below_drewN (Below.refl _ _) n)
/-- The ticket's fields are those that were read, wherever something was read. -/
def TkPost (g : Nat) (o : OpD) (l : List UInt8) (w : World) (e : Ending) (w' : World) : Prop :=
  ∃ o' : OpD, Bk w' g (opC o') 24 ∧ Oth g w w' ∧ e = .returned (.bool (rdT l).isSome) ∧ ∀ q, rdT l = some q → o' = { o with t := q.1, u := q.2.1, b := q.2.2.1, n := q.2.2.2 }
set_option maxRecDepth 100000 in
set_option maxHeartbeats 8000000 in
theorem fReadTicket (s : ByteArray) (hs : s.size ≤ 1000) (w0 w : World) (L0 : Lb w0) (hb0 : Below w0.heap.size w0 w) (g : Nat) (hg0 : w0.heap.size ≤ g) (o : OpD) (X : Bk w g (opC o) 24) (ht : o.t = 0) (hu : o.u = false) (hb : o.b = 0) (hn : o.n = 0) :
    Calls Tryd.prog 33 #[.string s, .pointer (some ⟨g, 0, none⟩)] w (TkPost g o s.data.toList w) := by
  have L := L0.keep hb0
  obtain ⟨k, t, x, sl, u, b, n⟩ := o
  simp only at ht hu hb hn
  subst ht; subst hu; subst hb; subst hn
  obtain ⟨l, hl⟩ : ∃ l, l = s.data.toList := ⟨_, rfl⟩
  have hll : l.length ≤ 1000 := by rw [hl, ← Lib.size_eq]; exact hs
  have HP := Lib.hid (Tryd.strings_CutPrefix s ⟨#[64]⟩ w)
  rw [← hl] at HP ⊢
  have hd : (⟨#[64]⟩ : ByteArray).data.toList = [64] := rfl
  rw [hd] at HP
  have hlt := X.lt
  cases hp : [64].isPrefixOf l with
  | false =>
    have h1 : Lib.hasPrefix l [64] = false := hp
    rw [h1] at HP
    have hr : rdT l = (match rdN 64 l with | some v => some ((v : Int), false, 0, 0) | none => none) := by unfold rdT; rw [hp]; rfl
    have HW := Lib.hid (fReadWord s (by omega) w L g 1 (opC ⟨k, 0, x, sl, false, 0, 0⟩) X (.int .u64 0) rfl)
    rw [← hl] at HW
    have HR := Lib.hid hr
    clear hp h1 hr hl hll hd
    go_enter Tryd.func33, Tryd.ntmps33
    go_wp2_with fail
    refine HP.out.mono ?_
    rintro e w1 ⟨rfl, hw1⟩
    obtain rfl : w1 = w := hw1
    have x0 := X.cells
    go_wp2_with fail
    refine HW.out.mono ?_
    rintro e w2 ⟨v, X2, hO, h0, h1, rfl, hv⟩
    have HV := Lib.hid hv
    clear hv x0
    go_wp2
    go_ret
    refine ⟨⟨k, v, x, sl, false, 0, 0⟩, X2, hO, ?_, ?_⟩
    · rw [HR.out]
      cases rdN 64 l <;> rfl
    · intro q hq
      rw [HR.out] at hq
      cases hc : rdN 64 l with
      | none => rw [hc] at hq; cases hq
      | some u =>
        rw [hc] at hq
        simp only [Option.some.injEq] at hq
        rw [← hq, HV.out u hc]
  | true =>
    have h1 : Lib.hasPrefix l [64] = true := hp
    have h2 : Lib.trimPrefix l [64] = l.drop 1 := by unfold Lib.trimPrefix; rw [h1]; rfl
    obtain ⟨r, hr0⟩ : ∃ r, r = l.drop 1 := ⟨_, rfl⟩
    rw [h1, h2, ← hr0] at HP
    obtain ⟨c1, hc1⟩ : ∃ q, q = (Lib.cut r [46]).1 := ⟨_, rfl⟩
    obtain ⟨c2, hc2⟩ : ∃ q, q = (Lib.cut r [46]).2.1 := ⟨_, rfl⟩
    obtain ⟨c3, hc3⟩ : ∃ q, q = (Lib.cut r [46]).2.2 := ⟨_, rfl⟩
    have hr : rdT l = (if c3 = true then (match rdN 63 c1, rdN 63 c2 with | some b, some n => some ((0 : Int), true, (b : Int), (n : Int)) | _, _ => none) else none) := by
      unfold rdT
      rw [hp, ← hr0, ← hc1, ← hc2, ← hc3]
      rfl
    have hz := cut_sizes r [46]
    rw [← hc1, ← hc2] at hz
    have hdl : r.length ≤ 1000 := by rw [hr0]; simp; omega
    obtain ⟨m, hm⟩ := L.mx
    have HC := Lib.hid (Tryd.strings_Cut ⟨r.toArray⟩ ⟨#[46]⟩ m w (by show r.length < _; omega) hm)
    have e1 : (⟨r.toArray⟩ : ByteArray).data.toList = r := rfl
    have e2 : (⟨#[46]⟩ : ByteArray).data.toList = [46] := rfl
    rw [e1, e2, ← hc1, ← hc2, ← hc3] at HC
    have hz1 : (⟨c1.toArray⟩ : ByteArray).size ≤ 281474976710656 := by show c1.length ≤ _; omega
    have hz2 : (⟨c2.toArray⟩ : ByteArray).size ≤ 281474976710656 := by show c2.length ≤ _; omega
    have HZ1 := Lib.hid hz1
    have HZ2 := Lib.hid hz2
    have HR := Lib.hid hr
    have HL := Lib.hid L
    clear hp h1 h2 hr0 hr hz hdl hc1 hc2 hc3 hm e1 e2 hz1 hz2 hl hll L
    go_enter Tryd.func33, Tryd.ntmps33
    go_wp2_with fail
    refine HP.out.mono ?_
    rintro e w1 ⟨rfl, hw1⟩
    obtain rfl : w1 = w := hw1
    go_wp2_with fail
    refine HC.out.mono ?_
    rintro e w2 ⟨rfl, nn, hw2⟩
    have X2 : Bk w2 g (opC ⟨k, 0, x, sl, false, 0, 0⟩) 24 := by rw [hw2]; exact bk_drewN X
    have O2 : Oth g w1 w2 := by rw [hw2]; exact Oth.drewN w1 nn
    have L2 : Lb w2 := by rw [hw2]; exact lb_drewN HL.out
    clear hw2
    have hlt2 := X2.lt
    have x2 := X2.cells
    have f2 := X2.frozen
    go_upto_region 6 with fail
    have X3 : Bk (w2.setCell ⟨g, 4, none⟩ (.bool true)) g (opC ⟨k, 0, x, sl, true, 0, 0⟩) 24 := X2.setCell 4 (.bool true)
    have O3 := O2.cell 4 (.bool true)
    have L3 : Lb (w2.setCell ⟨g, 4, none⟩ (.bool true)) := O3.lb hg0 hb0.size L0 hb0
    obtain ⟨w3, hw3⟩ : ∃ q, q = w2.setCell ⟨g, 4, none⟩ (.bool true) := ⟨_, rfl⟩
    rw [← hw3] at X3 O3 L3 ⊢
    clear hw3 X2 O2 L2 hlt2 x2 f2 HC HP
    have hlt3 := X3.lt
    cases c3 with
    | false =>
      go_wp2_with fail
      go_ret
      exact ⟨⟨k, 0, x, sl, true, 0, 0⟩, X3, O3, by rw [HR.out]; rfl, fun q hq => by rw [HR.out] at hq; simp at hq⟩
    | true =>
      have HI := Lib.hid (fReadIndex ⟨c1.toArray⟩ HZ1.out w3 L3 g 5 _ X3 (.int .i64 0) rfl)
      have e1 : (⟨c1.toArray⟩ : ByteArray).data.toList = c1 := rfl
      rw [e1] at HI
      clear e1
      cases hr1 : rdN 63 c1 with
      | none =>
        rw [hr1] at HI
        simp only [Option.isSome_none] at HI
        have HR1 := Lib.hid hr1
        clear hr1
        go_wp2_with fail
        refine HI.out.mono ?_
        rintro e w4 ⟨v, X4, O4, h0, h1, rfl, hv⟩
        clear hv
        go_wp2_with fail
        go_ret
        exact ⟨⟨k, 0, x, sl, true, v, 0⟩, X4, O3.trans O4, by rw [HR.out, HR1.out]; rfl, fun q hq => by rw [HR.out, HR1.out] at hq; simp at hq⟩
      | some u1 =>
        rw [hr1] at HI
        simp only [Option.isSome_some] at HI
        have HR1 := Lib.hid hr1
        clear hr1
        go_wp2_with fail
        refine HI.out.mono ?_
        rintro e w4 ⟨v1, X4, O4, h0, h1, rfl, hv⟩
        have hv1 := hv u1 rfl
        subst hv1
        clear hv HI
        have X5 : Bk w4 g (opC ⟨k, 0, x, sl, true, u1, 0⟩) 24 := X4
        have O5 := O3.trans O4
        have L5 : Lb w4 := O5.lb hg0 hb0.size L0 hb0
        have hlt4 := X5.lt
        clear X4 X3 O3 O4 L3
        have HJ := Lib.hid (fReadIndex ⟨c2.toArray⟩ HZ2.out w4 L5 g 6 _ X5 (.int .i64 0) rfl)
        have e2 : (⟨c2.toArray⟩ : ByteArray).data.toList = c2 := rfl
        rw [e2] at HJ
        clear e2
        go_wp2_with fail
        refine HJ.out.mono ?_
        rintro e w5 ⟨v2, X6, O6, h0', h1', rfl, hv⟩
        have HV := Lib.hid hv
        clear hv HJ
        go_wp2_with fail
        go_ret
        refine ⟨⟨k, 0, x, sl, true, u1, v2⟩, X6, O5.trans O6, ?_, ?_⟩
        · rw [HR.out, HR1.out]
          cases rdN 63 c2 <;> rfl
        · intro q hq
          rw [HR.out, HR1.out] at hq
          cases hc : rdN 63 c2 with
          | none => rw [hc] at hq; simp at hq
          | some u2 =>
            rw [hc] at hq
            simp only [if_true, Option.some.injEq] at hq
            rw [← hq, HV.out u2 hc]
theorem fRead1 (s : ByteArray) (hs : s.size ≤ 1000) (w0 w : World) (L0 : Lb w0) (hb0 : Below w0.heap.size w0 w) (g : Nat) (hg0 : w0.heap.size ≤ g) (o : OpD) (X : Bk w g (opC o) 24) (ht : o.t = 0) (hu : o.u = false) (hb : o.b = 0) (hn : o.n = 0) :
    Calls Tryd.prog 32 #[.string s, .pointer (some ⟨g, 0, none⟩)] w (TkPost g o s.data.toList w) := by
  have H := Lib.hid (fReadTicket s hs w0 w L0 hb0 g hg0 o X ht hu hb hn)
  clear X
  go_enter Tryd.func32, Tryd.ntmps32
  go_wp2_with fail
  refine H.out.mono ?_
  rintro e w1 ⟨o', X1, O1, rfl, h1⟩
  go_wp2_with fail
  go_ret
  exact ⟨o', X1, O1, rfl, h1⟩
def WdPost (g : Nat) (o : OpD) (l : List UInt8) (w : World) (e : Ending) (w' : World) : Prop :=
  ∃ v : Int, Bk w' g (opC { o with x := v }) 24 ∧ Oth g w w' ∧ e = .returned (.bool (rdN 64 l).isSome) ∧ ∀ u : Nat, rdN 64 l = some u → v = u
def SlPost (g : Nat) (o : OpD) (l : List UInt8) (w : World) (e : Ending) (w' : World) : Prop :=
  ∃ v : Int, Bk w' g (opC { o with s := v }) 24 ∧ Oth g w w' ∧ e = .returned (.bool (rdN 63 l).isSome) ∧ ∀ u : Nat, rdN 63 l = some u → v = u
theorem fRead2 (s : ByteArray) (hs : s.size ≤ 1000) (w : World) (L : Lb w) (g : Nat) (o : OpD) (X : Bk w g (opC o) 24) :
    Calls Tryd.prog 34 #[.string s, .pointer (some ⟨g, 0, none⟩)] w (WdPost g o s.data.toList w) := by
  have H := Lib.hid (fReadWord s (by omega) w L g 2 _ X (.int .u64 o.x) rfl)
  clear X
  go_enter Tryd.func34, Tryd.ntmps34
  go_wp2_with fail
  refine H.out.mono ?_
  rintro e w1 ⟨v, X1, O1, _, _, rfl, h1⟩
  have H1 := Lib.hid h1
  clear h1
  go_wp2_with fail
  go_ret
  exact ⟨v, X1, O1, rfl, H1.out⟩
theorem fRead3 (s : ByteArray) (hs : s.size ≤ 1000) (w : World) (L : Lb w) (g : Nat) (o : OpD) (X : Bk w g (opC o) 24) :
    Calls Tryd.prog 36 #[.string s, .pointer (some ⟨g, 0, none⟩)] w (SlPost g o s.data.toList w) := by
  have H := Lib.hid (fReadIndex s (by omega) w L g 3 _ X (.int .i64 o.s) rfl)
  clear X
  go_enter Tryd.func36, Tryd.ntmps36
  go_wp2_with fail
  refine H.out.mono ?_
  rintro e w1 ⟨v, X1, O1, _, _, rfl, h1⟩
  have H1 := Lib.hid h1
  clear h1
  go_wp2_with fail
  go_ret
  exact ⟨v, X1, O1, rfl, H1.out⟩
/-! ### split -/
/-- Strings of the call's own, nil too. -/
theorem OwnS.nil {B : Nat} {w : World} : OwnS B w (.slice none 0 0) [] := World.ownsRow_nil _ _ _ _
theorem splitL_short : ∀ (n : Nat) (s : List UInt8), ∀ x ∈ splitL n s, x.length ≤ s.length
  | 0, s, x, h => by simp [splitL] at h
  | n + 1, s, x, h => by
    have hz := cut_sizes s [32]
    simp only [splitL] at h
    rcases List.mem_cons.1 h with rfl | h
    · exact hz.1
    · split at h
      · cases h
      · exact Nat.le_trans (splitL_short n _ x h) hz.2
end Go.Proofs.YtononcokdlkjdaaDoor.Opw

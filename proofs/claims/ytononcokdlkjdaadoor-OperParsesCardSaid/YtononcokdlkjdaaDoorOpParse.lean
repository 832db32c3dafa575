/- Layer 12: oper.Parse. -/
import Derived.Test.YtononcokdlkjdaaDoorOpReadW
namespace Go.Proofs.YtononcokdlkjdaaDoor.Opw
open Go Go.RowKit Go.ChangeMaps Go.Proofs.YtononcokdlkjdaaDoor.Gro Go.Proofs.YtononcokdlkjdaaDoor.Own Go.Proofs.YtononcokdlkjdaaDoor.Mr Go.Proofs.YtononcokdlkjdaaDoor.Opn
set_option linter.unusedVariables false
set_option linter.unusedSimpArgs false
theorem rd_le {B : Nat} {l : List UInt8} {v : Nat} (h : rdN B l = some v) : v ≤ 2 ^ B - 1 := by
  unfold rdN at h
  split at h
  · rename_i u hu
    injection h with h
    rw [← h]
    exact Lib.parseUintB_le hu
  · cases h
theorem le64 {v : Nat} (h : v ≤ 2 ^ 64 - 1) : (v : Int) ≤ 18446744073709551615 := by
  have : (2 : Nat) ^ 64 - 1 = 18446744073709551615 := by decide
  omega
theorem le63 {v : Nat} (h : v ≤ 2 ^ 63 - 1) : (v : Int) ≤ 9223372036854775807 := by
  have : (2 : Nat) ^ 63 - 1 = 9223372036854775807 := by decide
  omega
theorem tk_fits {l : List UInt8} {t : Int} {u : Bool} {b n : Int} (h : rdT l = some (t, u, b, n)) : 0 ≤ t ∧ t ≤ 18446744073709551615 ∧ 0 ≤ b ∧ b ≤ 9223372036854775807 ∧ 0 ≤ n ∧ n ≤ 9223372036854775807 := by
  unfold rdT at h
  split at h
  · split at h
    · split at h
      · rename_i x y h1 h2
        have e1 := le63 (rd_le h1)
        have e2 := le63 (rd_le h2)
        simp only [Option.some.injEq, Prod.mk.injEq] at h
        omega
      · cases h
    · cases h
  · split at h
    · rename_i v h1
      have e1 := le64 (rd_le h1)
      simp only [Option.some.injEq, Prod.mk.injEq] at h
      omega
    · cases h
theorem step_fits {i : Nat} {p : List UInt8} {o o' : OpD} (hF : o.Fits) (h : Opn.stepP i p o = some o') : o'.Fits := by
  match i with
  | 0 =>
    simp only [Opn.stepP, Opn.stepT] at h
    split at h
    · rename_i t u b n h1
      have := tk_fits h1
      injection h with h
      rw [← h]
      exact ⟨hF.k, by simp only; omega, hF.x, hF.s, by simp only; omega, by simp only; omega⟩
    · cases h
  | 1 =>
    simp only [Opn.stepP, Opn.stepX] at h
    split at h
    · rename_i v h1
      have := le64 (rd_le h1)
      injection h with h
      rw [← h]
      exact ⟨hF.k, hF.t, by simp only; omega, hF.s, hF.b, hF.n⟩
    · cases h
  | n + 2 =>
    simp only [Opn.stepP, Opn.stepS] at h
    split at h
    · rename_i v h1
      have := le63 (rd_le h1)
      injection h with h
      rw [← h]
      exact ⟨hF.k, hF.t, hF.x, by simp only; omega, hF.b, hF.n⟩
    · cases h
theorem run_fits : ∀ (ps : List Nat) (q : List (List UInt8)) (o o' : OpD), o.Fits → Opn.runP ps q o = some o' → o'.Fits
  | [], q, o, o', hF, h => by
    simp only [Opn.runP] at h
    injection h with h
    exact h ▸ hF
  | i :: ps, [], o, o', hF, h => by
    simp only [Opn.runP] at h
    injection h with h
    exact h ▸ hF
  | i :: ps, p :: q, o, o', hF, h => by
    simp only [Opn.runP, Option.bind_eq_some_iff] at h
    obtain ⟨o1, h1, h2⟩ := h
    exact run_fits ps q o1 o' (step_fits hF h1) h2
theorem read_fits {L : List (List UInt8)} {o : OpD} (h : readL L = some o) : o.Fits := by
  unfold readL at h
  split at h
  · cases h
  · split at h
    · cases h
    · rename_i k hk
      split at h
      · refine run_fits _ _ _ _ ?_ h
        have hm := List.mem_of_find?_eq_some hk
        simp only [kinds, List.mem_cons, List.not_mem_nil, or_false] at hm
        refine ⟨?_, (by show (0 : Int) ≤ 0 ∧ (0 : Int) ≤ 18446744073709551615; decide), (by show (0 : Int) ≤ 0 ∧ (0 : Int) ≤ 18446744073709551615; decide), (by show (-9223372036854775808 : Int) ≤ 0 ∧ (0 : Int) ≤ 9223372036854775807; decide), (by show (-9223372036854775808 : Int) ≤ 0 ∧ (0 : Int) ≤ 9223372036854775807; decide), (by show (-9223372036854775808 : Int) ≤ 0 ∧ (0 : Int) ≤ 9223372036854775807; decide)⟩
        show -9223372036854775808 ≤ k ∧ k ≤ 9223372036854775807
        omega
      · cases h
theorem split_pos (n : Nat) (s : List UInt8) : 0 < (splitL (n + 1) s).length := by unfold splitL; simp
theorem split_len : ∀ (n : Nat) (s : List UInt8), (splitL n s).length ≤ n
  | 0, s => by simp [splitL]
  | n + 1, s => by
    simp only [splitL, List.length_cons]
    split
    · simp
    · have := split_len n (Lib.cut s [32]).2.1
      omega
def ParsePost (l : List UInt8) (w : World) (e : Ending) (w' : World) : Prop :=
  e = .returned (.tuple #[opV ((parseL l).getD OpD.zero), .int .i64 (if (parseL l).isSome = true then 0 else 3)]) ∧ Below w.heap.size w w'
set_option maxRecDepth 100000 in
set_option maxHeartbeats 16000000 in
theorem fParse (l : List UInt8) (hl : l.length ≤ 1000) (w : World) (HLB : Lb w) : Calls Tryd.prog 15 #[strV l] w (ParsePost l w) := by
  obtain ⟨oo, hoo⟩ : ∃ q, q = (parseL l).getD OpD.zero := ⟨_, rfl⟩
  obtain ⟨bb, hbb⟩ : ∃ q : Int, q = (if (parseL l).isSome = true then 0 else 3) := ⟨_, rfl⟩
  unfold ParsePost
  rw [← hoo, ← hbb]
  have HOO := Lib.hid hoo
  have HBB := Lib.hid hbb
  clear hoo hbb
  have hz0 := zero_op
  have hb0 := build_op0
  obtain ⟨w1, hw1⟩ : ∃ q, q = w.alloc (.cells (opC OpD.zero) 24) := ⟨_, rfl⟩
  have Z1 : Bk w1 w.heap.size (opC OpD.zero) 24 := by rw [hw1]; exact Bk.new w _ _
  have b1 : Below w.heap.size w w1 := by rw [hw1]; exact (Below.refl _ _).alloc (Nat.le_refl _) _
  have L1 := HLB.keep b1
  have hS := fSplit l (by omega) w1 L1
  rw [hw1] at hS
  have HS := Lib.hid hS
  have HW1 := Lib.hid hw1
  clear hS hw1
  go_enter Tryd.func15, Tryd.ntmps15
  go_wp2_with fail
  refine HS.out.mono ?_
  rintro e w2 ⟨v, rfl, O2, hb2⟩
  rw [← HW1.out] at O2 hb2
  have Z2 := Z1.keep hb2
  have b2 := b1.trans (hb2.mono b1.size)
  have L2 := HLB.keep b2
  have HR := Lib.hid (fRead w1.heap.size (splitL 4 l) (fun x hx => Nat.le_trans (splitL_short 4 l x hx) hl) (split_pos 3 l) v w2 O2 L2)
  clear HS HW1 Z1 b1 L1 hb2 O2
  unfold ReadPost at HR
  have sz2 := b2.size
  cases hrd : readL (splitL 4 l) with
  | none =>
    rw [hrd] at HR
    simp only [Option.getD_none, Option.isSome_none] at HR
    have hp : parseL l = none := by unfold parseL; rw [hrd]
    have hoo := HOO.out
    have hbb := HBB.out
    rw [hp] at hoo hbb
    simp only [Option.getD_none, Option.isSome_none, Bool.false_eq_true, if_false] at hoo hbb
    subst hoo; subst hbb
    clear hp hrd
    go_wp2_with fail
    refine HR.out.mono ?_
    rintro e w3 ⟨rfl, hb3⟩
    have Z3 := Z2.keep hb3
    have b3 := b2.trans (hb3.mono sz2)
    have sz3 := b3.size
    have l3 := Z3.lt
    have X4 := Bk.new w3 (opC OpD.zero) 24
    obtain ⟨w4, hw4⟩ : ∃ q, q = (w3.alloc (.cells (opC OpD.zero) 24)).setRow w3.heap.size (opC OpD.zero) := ⟨_, rfl⟩
    have b34 : Below w3.heap.size w3 w4 := by rw [hw4]; exact below_setRow ((Below.refl _ _).alloc (Nat.le_refl _) _) (Nat.le_refl _) _
    have Z4 := Z3.keep b34
    have b4 := b3.trans (b34.mono sz3)
    clear Z2 b2 L2 hb3 Z3 b3 HR
    go_wp2_with (first | ((refine wpList_store_row rfl 24 _ _ rfl w3.heap.size (opC OpD.zero) rfl rfl _ _ (by exact X4) (by kernel_rfl) (by kernel_rfl) (by kernel_rfl) ?_); rw [← hw4]; clear hw4 X4) | (refine wpList_store_row rfl 24 _ _ rfl w.heap.size (opC OpD.zero) rfl rfl _ _ (by exact Z4) (by kernel_rfl) (by kernel_rfl) (by kernel_rfl) ?_))
    have Z5 := Z4.setRow (opC OpD.zero)
    have b5 := below_setRow b4 (Nat.le_refl w.heap.size) (opC OpD.zero)
    refine bodyPost_ret (v := .tuple #[opV OpD.zero, .int .i64 3]) ?_ rfl ⟨rfl, b5⟩
    exact Rw.results_cell_slot (p := 2) (q := 3) (ty := 24) Tryd.results15 _ _ w.heap.size 24 _ (0, 0) _ rfl Z5 Tryd.underlying24 rfl (by kernel_rfl)
  | some o =>
    rw [hrd] at HR
    simp only [Option.getD_some, Option.isSome_some] at HR
    have hF := read_fits hrd
    have hp : parseL l = if (right o && text o == l) = true then some o else none := by
      unfold parseL
      rw [hrd]
    have HP := Lib.hid hp
    clear hp hrd
    go_wp2_with fail
    refine HR.out.mono ?_
    rintro e w3 ⟨rfl, hb3⟩
    have Z3 := Z2.keep hb3
    have b3 := b2.trans (hb3.mono sz2)
    have sz3 := b3.size
    have l3 := Z3.lt
    have X4 := Bk.new w3 (opC OpD.zero) 24
    obtain ⟨w4, hw4⟩ : ∃ q, q = (w3.alloc (.cells (opC OpD.zero) 24)).setRow w3.heap.size (opC o) := ⟨_, rfl⟩
    have X5 : Bk w4 w3.heap.size (opC o) 24 := by rw [hw4]; exact X4.setRow _
    have b34 : Below w3.heap.size w3 w4 := by rw [hw4]; exact below_setRow ((Below.refl _ _).alloc (Nat.le_refl _) _) (Nat.le_refl _) _
    have Z4 := Z3.keep b34
    have b4 := b3.trans (b34.mono sz3)
    have sz4 := b4.size
    have L4 := HLB.keep b4
    have HT := Lib.hid (fText o hF w4 L4)
    clear Z2 b2 L2 hb3 Z3 b3 HR b34
    go_wp2_with (first | ((refine wpList_store_row rfl 24 _ _ rfl w3.heap.size (opC o) rfl rfl _ _ (by exact X4) (by kernel_rfl) (by kernel_rfl) (by kernel_rfl) ?_); rw [← hw4]; clear hw4 X4) | (refine wpList_load_row rfl 24 _ rfl w3.heap.size rfl _ (opC o) (0, 0) _ (by exact X5) Tryd.underlying24 rfl (by kernel_rfl) ?_))
    refine HT.out.mono ?_
    rintro e w5 ⟨rfl, hb5⟩
    have X6 := X5.keep hb5
    have Z6 := Z4.keep hb5
    have b6 := b4.trans (hb5.mono sz4)
    clear X5 Z4 b4 hb5 HT L4
    have hgood : (right o && text o == l) = false → parseL l = none := fun h => by rw [HP.out, h]; rfl
    cases hr : right o with
    | false =>
      rw [hr] at hgood
      have hp := hgood rfl
      have hoo := HOO.out
      have hbb := HBB.out
      rw [hp] at hoo hbb
      simp only [Option.getD_none, Option.isSome_none, Bool.false_eq_true, if_false] at hoo hbb
      subst hoo; subst hbb
      clear hp hgood hr
      go_wp2_with (refine wpList_store_row rfl 24 _ _ rfl w.heap.size (opC OpD.zero) rfl rfl _ _ (by exact Z6) (by kernel_rfl) (by kernel_rfl) (by kernel_rfl) ?_)
      have Z7 := Z6.setRow (opC OpD.zero)
      have b7 := below_setRow b6 (Nat.le_refl w.heap.size) (opC OpD.zero)
      refine bodyPost_ret (v := .tuple #[opV OpD.zero, .int .i64 3]) ?_ rfl ⟨rfl, b7⟩
      exact Rw.results_cell_slot (p := 2) (q := 3) (ty := 24) Tryd.results15 _ _ w.heap.size 24 _ (0, 0) _ rfl Z7 Tryd.underlying24 rfl (by kernel_rfl)
    | true =>
      obtain ⟨tx, htx⟩ : ∃ q, q = text o := ⟨_, rfl⟩
      rw [hr, ← htx] at hgood
      simp only [if_true, ← htx]
      cases hc : (tx == l) with
      | false =>
        rw [hc] at hgood
        have hp := hgood rfl
        have hoo := HOO.out
        have hbb := HBB.out
        rw [hp] at hoo hbb
        simp only [Option.getD_none, Option.isSome_none, Bool.false_eq_true, if_false] at hoo hbb
        subst hoo; subst hbb
        have HH := Lib.hid (And.intro htx hr)
        clear hp hgood hr htx
        go_wp2_with (refine wpList_store_row rfl 24 _ _ rfl w.heap.size (opC OpD.zero) rfl rfl _ _ (by exact Z6) (by kernel_rfl) (by kernel_rfl) (by kernel_rfl) ?_)
        have Z7 := Z6.setRow (opC OpD.zero)
        have b7 := below_setRow b6 (Nat.le_refl w.heap.size) (opC OpD.zero)
        refine bodyPost_ret (v := .tuple #[opV OpD.zero, .int .i64 3]) ?_ rfl ⟨rfl, b7⟩
        exact Rw.results_cell_slot (p := 2) (q := 3) (ty := 24) Tryd.results15 _ _ w.heap.size 24 _ (0, 0) _ rfl Z7 Tryd.underlying24 rfl (by kernel_rfl)
      | true =>
        have hp : parseL l = some o := by rw [HP.out, hr, ← htx, hc]; rfl
        have hoo := HOO.out
        have hbb := HBB.out
        rw [hp] at hoo hbb
        simp only [Option.getD_some, Option.isSome_some, if_true] at hoo hbb
        have hoo2 := hoo.symm
        subst hoo2; subst hbb
        have HH := Lib.hid (And.intro htx hr)
        clear hp hgood hr htx
        go_wp2_with (first | (refine wpList_load_row rfl 24 _ rfl w3.heap.size rfl _ (opC o) (0, 0) _ (by exact X6) Tryd.underlying24 rfl (by kernel_rfl) ?_) | (refine wpList_store_row rfl 24 _ _ rfl w.heap.size (opC o) rfl rfl _ _ (by exact Z6) (by kernel_rfl) (by kernel_rfl) (by kernel_rfl) ?_))
        have Z7 := Z6.setRow (opC o)
        have b7 := below_setRow b6 (Nat.le_refl w.heap.size) (opC o)
        refine bodyPost_ret (v := .tuple #[opV o, .int .i64 0]) ?_ rfl ⟨rfl, b7⟩
        exact Rw.results_cell_slot (p := 2) (q := 3) (ty := 24) Tryd.results15 _ _ w.heap.size 24 _ (0, 0) _ rfl Z7 Tryd.underlying24 rfl (by kernel_rfl)
end Go.Proofs.YtononcokdlkjdaaDoor.Opw

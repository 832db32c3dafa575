/- The contract of (*Pool).meets. -/
import Derived.Test.YtgpdkagmacpghaaIdealPool
import Derived.WalkSmall
namespace Go.Proofs.Ytgpdkagmacpghaa.Idl
open Go Go.RowKit Go.Proofs.Ytgpdkagmacpghaa.Mr Go.ChangeMaps
set_option linter.unusedVariables false
set_option linter.unusedSimpArgs false

def mt (n ws : Int) (L : List (Int × Int)) (D : List Int) (t : Int) (xs : List Int) : Bool :=
  if n = 0 then true else if n = 1 then !toldB t L D else if n = 2 then al t L else if n = 3 then al t L && payB ws (num t L) xs else if n = 4 then !al t L else false

theorem quiet_eq {P : Program} {f : FuncId} {args : Array Value} {w : World} {n : Nat} {v : Value}
    (h : Calls P f args (w.drewN n) fun e w' => e = .returned v ∧ w.drewN n = w') : Calls P f args (w.drewN n) fun e w'' => e = .returned v ∧ ∃ m, w'' = w.drewN m :=
  h.mono fun _ _ ⟨he, hm⟩ => ⟨he, n, hm.symm⟩
theorem SlI.below {w w' : World} {v : Value} {xs : List Int} (h : SlI w v xs) (hb : Below w.heap.size w w') : SlI w' v xs := by
  rcases h with h | ⟨b, off, cap, hv, hc⟩
  · exact .inl h
  · exact .inr ⟨b, off, cap, hv, fun i hi => (hb.cell (p := ⟨b, off + i, none⟩) (cell_lt (hc i hi))).trans (hc i hi)⟩
theorem SlI.drewN {w : World} {v : Value} {xs : List Int} (h : SlI w v xs) (n : Nat) : SlI (w.drewN n) v xs := h

section
variable {w : World} {p : Nat} {ws : Int} {ml md : Option Nat} {L : List (Int × Int)} {D : List Int}

theorem meets (h : PoolAt w p ws ml md L D) (n : Int) (a : Ans) (xs : List Int) (hr : SlI w a.read xs) (hx : xs.length ≤ 1000000) :
    Calls Try.prog 115 #[.pointer (some ⟨p, 0, none⟩), .int .i64 n, a.val] w fun e w' => e = .returned (.bool (mt n ws L D a.t xs)) ∧ Below w.heap.size w w' := by
  obtain ⟨k, ot, x, sl, by_, nth, t, r, use, rd⟩ := a
  unfold Ans.val
  simp only at hr ⊢
  have H1 := Lib.hid (fun o : Obj => h.below ((Below.refl w.heap.size w).alloc (Nat.le_refl _) o))
  have HR := Lib.hid (fun o : Obj => hr.below ((Below.refl w.heap.size w).alloc (Nat.le_refl _) o))
  have hpl := h.lt
  have hc0 := fun o : Obj => (h.below ((Below.refl w.heap.size w).alloc (Nat.le_refl _) o)).c0
  clear h hr
  by_cases h0 : n = 0
  · subst h0
    go_enter Try.func115, Try.ntmps115
    go_wp2_with (first | (go_at_call 131; refine (live (H1.out _) _).mono ?_; rintro e w' ⟨rfl, rfl⟩))
    go_ret
    exact ⟨rfl, (Below.refl _ _).alloc (Nat.le_refl _) _⟩
  by_cases h1 : n = 1
  · subst h1
    go_enter Try.func115, Try.ntmps115
    go_wp2_with (first | (go_at_call 131; refine (live (H1.out _) _).mono ?_; rintro e w' ⟨rfl, rfl⟩) | (go_at_call 132; refine (told (H1.out _) _).mono ?_; rintro e w' ⟨rfl, rfl⟩))
    go_ret
    exact ⟨rfl, (Below.refl _ _).alloc (Nat.le_refl _) _⟩
  by_cases h2 : n = 2
  · subst h2
    go_enter Try.func115, Try.ntmps115
    go_wp2_with (first | (go_at_call 131; refine (live (H1.out _) _).mono ?_; rintro e w' ⟨rfl, rfl⟩))
    go_ret
    exact ⟨rfl, (Below.refl _ _).alloc (Nat.le_refl _) _⟩
  by_cases h4 : n = 4
  · subst h4
    go_enter Try.func115, Try.ntmps115
    go_wp2_with (first | (go_at_call 131; refine (live (H1.out _) _).mono ?_; rintro e w' ⟨rfl, rfl⟩))
    go_ret
    exact ⟨rfl, (Below.refl _ _).alloc (Nat.le_refl _) _⟩
  by_cases h3 : n = 3
  · subst h3
    have hm : mt 3 ws L D t xs = (al t L && payB ws (num t L) xs) := rfl
    cases hs : al t L
    · have HM := Lib.hid (hm.trans (by rw [hs]; rfl : _ = false))
      have HS := Lib.hid hs
      clear hm hs
      go_enter Try.func115, Try.ntmps115
      go_wp2_with (first | (go_at_call 131; refine (live (H1.out _) _).mono ?_; rintro e w' ⟨rfl, rfl⟩; have hs := HS.out))
      go_quiet (fail)
      go_wp2
      go_ret
      exact ⟨by rw [HM.out]; rfl, below_drewN ((Below.refl w.heap.size w).alloc (Nat.le_refl _) _) _⟩
    · have HM := Lib.hid (hm.trans (by rw [hs]; rfl : _ = payB ws (num t L) xs))
      have HS := Lib.hid hs
      clear hm hs
      go_enter Try.func115, Try.ntmps115
      go_wp2_with (first | (go_at_call 131; refine (live (H1.out _) _).mono ?_; rintro e w' ⟨rfl, rfl⟩; have hs := HS.out))
      go_quiet ((go_at_call 133; exact quiet_eq (isPayload _ _ _ xs _ ((HR.out _).drewN _) hx)))
      go_wp2
      go_ret
      exact ⟨by rw [HM.out]; rfl, below_drewN ((Below.refl w.heap.size w).alloc (Nat.le_refl _) _) _⟩
  · have e0 : (n == 0) = false := by simpa using h0
    have e1 : (n == 1) = false := by simpa using h1
    have e2 : (n == 2) = false := by simpa using h2
    have e3 : (n == 3) = false := by simpa using h3
    have e4 : (n == 4) = false := by simpa using h4
    have HM := Lib.hid (show mt n ws L D t xs = false by simp [mt, h0, h1, h2, h3, h4])
    clear h0 h1 h2 h3 h4
    go_enter Try.func115, Try.ntmps115
    go_wp2_with (first | (go_at_call 131; refine (live (H1.out _) _).mono ?_; rintro e w' ⟨rfl, rfl⟩))
    go_ret
    exact ⟨by rw [HM.out]; rfl, (Below.refl _ _).alloc (Nat.le_refl _) _⟩
end
end Go.Proofs.Ytgpdkagmacpghaa.Idl

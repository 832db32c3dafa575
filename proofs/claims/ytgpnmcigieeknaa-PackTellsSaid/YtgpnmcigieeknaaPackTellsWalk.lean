/- The law PackTells returns true: code and reference unpack the same fields, and packing them yields the word. -/
import Derived.Test.YtgpnmcigieeknaaPackWalks
namespace Go.Proofs.Ytgpnmcigieeknaa.packTells
open Go.RowKit Go.Proofs.Ytgpnmcigieeknaa.Pk
set_option linter.unusedVariables false
set_option maxRecDepth 100000 in
theorem walk (a0 : Int) (w0 : (Lit.int .u64 a0).wf = true) (w : World) :
    Calls Try.prog 4 #[.int .u64 a0] w fun e w' => e = .returned (.bool true) ∧ Grown w w' := by
  simp only [Lit.wf, Bool.and_eq_true, decide_eq_true_eq] at w0
  have h0 : 0 ≤ a0 := w0.1
  have h1 : a0 < 18446744073709551616 := by have h := w0.2; have e : IntKind.u64.max = 18446744073709551615 := rfl; omega
  clear w0
  have e1 := hd_back a0 h0 h1
  have e2 := en_back a0 h0 h1
  have e3 := an_back a0 h0 h1
  have e4 := sl_back a0 h0 h1
  have e5 := tk_back a0 h0 h1
  go_enter Try.func4, Try.ntmps4
  go_wp2_with (first | (go_at_call 7; refine (awake _).mono ?_; rintro e w' ⟨rfl, rfl⟩) | (go_at_call 8; refine (head _ _ _).mono ?_; rintro e w' ⟨rfl, rfl⟩) | (go_at_call 10; refine (entry _ _ _ _).mono ?_; rintro e w' ⟨rfl, rfl⟩) | (go_at_call 12; refine (announce _ _ _).mono ?_; rintro e w' ⟨rfl, rfl⟩) | (go_at_call 14; refine (slab _ _ _ _).mono ?_; rintro e w' ⟨rfl, rfl⟩) | (go_at_call 16; refine (ticket _ _ _).mono ?_; rintro e w' ⟨rfl, rfl⟩) | (go_at_call 18; refine (unhead _ h0 h1 _).mono ?_; rintro e w' ⟨rfl, rfl⟩) | (go_at_call 20; refine (unentry _ h0 h1 _).mono ?_; rintro e w' ⟨rfl, rfl⟩) | (go_at_call 22; refine (unannounce _ h0 h1 _).mono ?_; rintro e w' ⟨rfl, rfl⟩) | (go_at_call 23; refine (unslab _ h0 h1 _).mono ?_; rintro e w' ⟨rfl, rfl⟩) | (go_at_call 25; refine (unticket _ h0 h1 _).mono ?_; rintro e w' ⟨rfl, rfl⟩) | (go_at_call 19; refine (runhead _ h0 h1 _).mono ?_; rintro e w' ⟨rfl, m, rfl⟩) | (go_at_call 21; refine (runentry _ h0 h1 _).mono ?_; rintro e w' ⟨rfl, m, rfl⟩) | (go_at_call 24; refine (runslab _ h0 h1 _).mono ?_; rintro e w' ⟨rfl, m, rfl⟩) | (go_at_call 26; refine (runticket _ h0 h1 _).mono ?_; rintro e w' ⟨rfl, m, rfl⟩))
  go_ret
  exact ⟨rfl, Grown.refl _⟩
end Go.Proofs.Ytgpnmcigieeknaa.packTells

/- The law PackFits returns true: fields that fit are recovered by unpacking. -/
import Derived.Test.YtgpnmcigieeknaaPackWalks
namespace Go.Proofs.Ytgpnmcigieeknaa.packFits
open Go.RowKit Go.Proofs.Ytgpnmcigieeknaa.Pk
set_option linter.unusedVariables false
set_option maxRecDepth 100000 in
theorem walk (a0 : Int) (a1 : Int) (a2 : Int) (a3 : Int) (a4 : Int) (a5 : Bool) (w0 : (Lit.int .u16 a0).wf = true) (w1 : (Lit.int .u16 a1).wf = true) (w2 : (Lit.int .u8 a2).wf = true) (w3 : (Lit.int .u8 a3).wf = true) (w4 : (Lit.int .u32 a4).wf = true) (w : World) :
    Calls Try.prog 5 #[.int .u16 a0, .int .u16 a1, .int .u8 a2, .int .u8 a3, .int .u32 a4, .bool a5] w fun e w' => e = .returned (.bool true) ∧ Grown w w' := by
  simp only [Lit.wf, Bool.and_eq_true, decide_eq_true_eq] at w0 w1 w2 w3 w4
  have h0 : 0 ≤ a0 ∧ a0 < 65536 := ⟨w0.1, by have h := w0.2; have e : IntKind.u16.max = 65535 := rfl; omega⟩
  have h1 : 0 ≤ a1 ∧ a1 < 65536 := ⟨w1.1, by have h := w1.2; have e : IntKind.u16.max = 65535 := rfl; omega⟩
  have h2 : 0 ≤ a2 ∧ a2 < 256 := ⟨w2.1, by have h := w2.2; have e : IntKind.u8.max = 255 := rfl; omega⟩
  have h3 : 0 ≤ a3 ∧ a3 < 256 := ⟨w3.1, by have h := w3.2; have e : IntKind.u8.max = 255 := rfl; omega⟩
  have h4 : 0 ≤ a4 ∧ a4 < 4294967296 := ⟨w4.1, by have h := w4.2; have e : IntKind.u32.max = 4294967295 := rfl; omega⟩
  clear w0 w1 w2 w3 w4
  have e1 := hd_fit1 a0 a4 h0 h4
  have e2 := hd_fit2 a0 a4 h0 h4
  have e3 := en_fit1 a4 a1 a2 h1 h4
  have e4 := en_fit2 a4 a1 a2 h1 h4
  have e5 := en_fit3 a4 a1 a2 h1 h4
  have e6 := an_fit1 a4 a5 h4
  have e7 := an_fit2 a4 a5 h4
  have e8 := sl_fit1 a2 a3 a4 h4
  have e9 := sl_fit2 a2 a3 a4 h4
  have e10 := sl_fit3 a2 a3 a4 h4
  have e11 := tk_fit1 a0 a4 h0 h4
  have e12 := tk_fit2 a0 a4 h0 h4
  go_enter Try.func5, Try.ntmps5
  go_wp2_with (first | (go_at_call 7; refine (awake _).mono ?_; rintro e w' ⟨rfl, rfl⟩) | (go_at_call 8; refine (head _ _ _).mono ?_; rintro e w' ⟨rfl, rfl⟩) | (go_at_call 10; refine (entry _ _ _ _).mono ?_; rintro e w' ⟨rfl, rfl⟩) | (go_at_call 12; refine (announce _ _ _).mono ?_; rintro e w' ⟨rfl, rfl⟩) | (go_at_call 14; refine (slab _ _ _ _).mono ?_; rintro e w' ⟨rfl, rfl⟩) | (go_at_call 16; refine (ticket _ _ _).mono ?_; rintro e w' ⟨rfl, rfl⟩) | (go_at_call 18; refine (unhead _ (hd_rng _ _).1 (hd_rng _ _).2 _).mono ?_; rintro e w' ⟨rfl, rfl⟩) | (go_at_call 20; refine (unentry _ (en_rng _ _ _).1 (en_rng _ _ _).2 _).mono ?_; rintro e w' ⟨rfl, rfl⟩) | (go_at_call 22; refine (unannounce _ (an_rng _ _).1 (an_rng _ _).2 _).mono ?_; rintro e w' ⟨rfl, rfl⟩) | (go_at_call 23; refine (unslab _ (sl_rng _ _ _).1 (sl_rng _ _ _).2 _).mono ?_; rintro e w' ⟨rfl, rfl⟩) | (go_at_call 25; refine (unticket _ (tk_rng _ _).1 (tk_rng _ _).2 _).mono ?_; rintro e w' ⟨rfl, rfl⟩))
  go_ret
  exact ⟨rfl, Grown.refl _⟩
end Go.Proofs.Ytgpnmcigieeknaa.packFits

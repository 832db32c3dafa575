/- The reference's Copy of words and Great; memory.Copy. -/
import Derived.Test.YtgpdkagmacpghaaRefs
import Derived.Test.YtgpdkagmacpghaaMemFirstWalk
import Derived.Test.YtgpdkagmacpghaaRef04
import Derived.Test.YtgpdkagmacpghaaWorks
namespace Go.Proofs.Ytgpdkagmacpghaa.Me
open Go Go.RowKit Go.Proofs.Ytgpdkagmacpghaa.Gro Go.Proofs.Ytgpdkagmacpghaa.Own Go.Proofs.Ytgpdkagmacpghaa.Wd Go.Proofs.Ytgpdkagmacpghaa.Ap Go.Proofs.Ytgpdkagmacpghaa.Pl
set_option linter.unusedVariables false
set_option linter.unusedSimpArgs false
theorem copyWords {v : Sl} {L : List Int} (hL : L.length ≤ 1000) {w : World} (hr : Reads w .u64 v.v L) : Calls Try.prog 40 #[v.v] w fun e w' => ∃ y : Sl, e = .returned y.v ∧ w'.ownsRow w.heap.size 22 1 y.v L.length (L.map (.int .u64)) ∧ Below w.heap.size w w' := by
  have ho : (w.alloc (.cells #[] 22)).ownsRow w.heap.size 22 1 (.slice (some ⟨w.heap.size, 0, none⟩) 0 0) 0 (([] : List Int).map (Value.int .u64)) := World.ownsRow_lit w #[] 0 (Nat.le_refl _) (by unfold maxLen; omega) rfl
  have hr2 := hr.keep ((Below.refl w.heap.size w).alloc (Nat.le_refl _) (.cells #[] 22))
  go_enter Try.func40, Try.ntmps40
  go_wp2_with (at_builtin; refine append_any elemW rfl _ _ rfl w.heap.size _ 0 [] rfl ho _ L rfl hr2 (by omega) (by simp) ?_; intro y w3 h3 hb3)
  go_ret
  refine ⟨y, rfl, ?_, ((Below.refl w.heap.size w).alloc (Nat.le_refl _) _).trans hb3⟩
  simpa using h3
/-- What the statements about memories leave aside. -/
def greatC (c : Cfg) : Bool := decide (chk c = 0) && (decide (40 < c.sl * c.bl) || decide (16 < c.en))
theorem greatMem (c : Cfg) (hf : c.Wf) (w : World) : Calls Try.prog 38 #[cv c] w fun e w' => e = .returned (.bool (greatC c)) ∧ Below w.heap.size w w' := by
  have HK := Lib.hid (refCheck c hf)
  have B0 := Bk.new w (ccM c) 24
  by_cases h0 : chk c = 0
  · have hok := chk_ok.1 h0
    have q1 := hok.sl
    have q2 := hok.bl
    have hm := mul_range (a := c.sl) (b := c.bl) (A := 8) (B := 16) (by omega) (by omega) (by omega) (by omega)
    have hw : IntKind.i64.wrap (c.sl * c.bl) = c.sl * c.bl := by rw [IntKind.wrap_i64]; omega
    have hb : (chk c == 0) = true := by simp [h0]
    have hd : decide (chk c = 0) = true := by simp [h0]
    cases h1 : decide (40 < c.sl * c.bl)
    · cases h2 : decide (16 < c.en)
      all_goals
        have HG : RowKit.Hid (greatC c = _) := Lib.hid (show greatC c = (true && (decide (40 < c.sl * c.bl) || decide (16 < c.en))) by unfold greatC; rw [hd])
        rw [HG.out, h1, h2]
        clear HG h0 hd hok q1 q2 hm
        go_enter Try.func38, Try.ntmps38
        go_wp2_with fail
        refine (HK.out _).mono ?_
        rintro e w1 ⟨rfl, hb1⟩
        have B1 := B0.keep hb1
        have xx := B1.cells
        go_wp2
        go_ret
        exact ⟨rfl, ((Below.refl _ _).alloc (Nat.le_refl _) _).trans (hb1.mono (by simp))⟩
    · have HG : RowKit.Hid (greatC c = true) := Lib.hid (by unfold greatC; rw [hd, h1]; rfl)
      rw [HG.out]
      clear HG h0 hd hok q1 q2 hm
      go_enter Try.func38, Try.ntmps38
      go_wp2_with fail
      refine (HK.out _).mono ?_
      rintro e w1 ⟨rfl, hb1⟩
      have B1 := B0.keep hb1
      have xx := B1.cells
      go_wp2
      go_ret
      exact ⟨rfl, ((Below.refl _ _).alloc (Nat.le_refl _) _).trans (hb1.mono (by simp))⟩
  · have hb : (chk c == 0) = false := by simp [h0]
    have HG : RowKit.Hid (greatC c = false) := Lib.hid (by unfold greatC; rw [decide_eq_false h0]; rfl)
    rw [HG.out]
    clear HG h0
    go_enter Try.func38, Try.ntmps38
    go_wp2_with fail
    refine (HK.out _).mono ?_
    rintro e w1 ⟨rfl, hb1⟩
    go_wp2
    go_ret
    exact ⟨rfl, ((Below.refl _ _).alloc (Nat.le_refl _) _).trans (hb1.mono (by simp))⟩
end Go.Proofs.Ytgpdkagmacpghaa.Me

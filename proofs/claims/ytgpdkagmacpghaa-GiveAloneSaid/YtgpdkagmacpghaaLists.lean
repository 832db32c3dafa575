/- List, whichever; the law StackLists (made by genlist.py). -/
import Derived.Test.YtgpdkagmacpghaaStackList
import Derived.Test.YtgpdkagmacpghaaRefList
import Derived.Test.YtgpdkagmacpghaaStackAwake
import Derived.Test.YtgpdkagmacpghaaGreat
namespace Go.Proofs.Ytgpdkagmacpghaa.Me
open Go Go.RowKit Go.Proofs.Ytgpdkagmacpghaa.Gro Go.Proofs.Ytgpdkagmacpghaa.Own Go.Proofs.Ytgpdkagmacpghaa.Wd Go.Proofs.Ytgpdkagmacpghaa.Ap Go.Proofs.Ytgpdkagmacpghaa.Pl Go.Proofs.Ytgpdkagmacpghaa.Wo
set_option linter.unusedVariables false
set_option linter.unusedSimpArgs false
theorem stackList (c : Cfg) (hf : c.Wf) (e : Bool) {L : List Int} {v : Sl} {w : World} (hr : Reads w .u64 v.v L) (hL : ∀ x ∈ L, 0 ≤ x ∧ x < 18446744073709551616) : Calls Try.prog 94 #[cv c, v.v, .bool e] w (ListPost c L e w) := by
  have hln := reads_len hr
  obtain ⟨ad, n, cap⟩ := v
  simp only at hln
  by_cases h : chk c = 0
  · by_cases hs : (n : Int) = siz c
    · have h3 := siz_ge h
      obtain ⟨ad', cap', e1, _, _, h4⟩ := hr
      simp only [Sl.v, Value.slice.injEq] at e1
      obtain ⟨rfl, e2, rfl⟩ := e1
      rcases h4 with h4 | ⟨b0, off, rfl, hb0, hc⟩
      · subst h4; simp at hln; omega
      · cases e
        · exact lsP_main_false c hf n cap b0 off L hL h hs hln.symm w hb0 hc
        · exact lsP_main_true c hf n cap b0 off L hL h hs hln.symm w hb0 hc
    · exact list_no (by rw [listR, if_neg (fun q => hs (by omega))]) (lsP_len c hf ad n cap e h hs w)
  · exact list_no (by rw [listR, if_neg (fun q => h q.1)]) (lsP_bad c hf ad n cap e h w)
theorem refList (c : Cfg) (hf : c.Wf) (e : Bool) {L : List Int} {v : Sl} {w : World} (hr : Reads w .u64 v.v L) (hL : ∀ x ∈ L, 0 ≤ x ∧ x < 18446744073709551616) : Calls Try.prog 9 #[cv c, v.v, .bool e] w (ListPost c L e w) := by
  have hln := reads_len hr
  obtain ⟨ad, n, cap⟩ := v
  simp only at hln
  by_cases h : chk c = 0
  · by_cases hs : (n : Int) = siz c
    · have h3 := siz_ge h
      obtain ⟨ad', cap', e1, _, _, h4⟩ := hr
      simp only [Sl.v, Value.slice.injEq] at e1
      obtain ⟨rfl, e2, rfl⟩ := e1
      rcases h4 with h4 | ⟨b0, off, rfl, hb0, hc⟩
      · subst h4; simp at hln; omega
      · cases e
        · exact lsR_main_false c hf n cap b0 off L hL h hs hln.symm w hb0 hc
        · exact lsR_main_true c hf n cap b0 off L hL h hs hln.symm w hb0 hc
    · exact list_no (by rw [listR, if_neg (fun q => hs (by omega))]) (lsR_len c hf ad n cap e h hs w)
  · exact list_no (by rw [listR, if_neg (fun q => h q.1)]) (lsR_bad c hf ad n cap e h w)
end Go.Proofs.Ytgpdkagmacpghaa.Me

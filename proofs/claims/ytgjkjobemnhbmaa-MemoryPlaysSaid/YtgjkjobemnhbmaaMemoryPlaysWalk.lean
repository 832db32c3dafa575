/- The law MemoryPlays: its ways put together. -/
import Derived.Test.YtgjkjobemnhbmaaMemPlaysB
namespace Go.Proofs.Ytgjkjobemnhbmaa.Me
open Go Go.RowKit Go.Proofs.Ytgjkjobemnhbmaa.Gro Go.Proofs.Ytgjkjobemnhbmaa.Own Go.Proofs.Ytgjkjobemnhbmaa.Wd Go.Proofs.Ytgjkjobemnhbmaa.Ap Go.Proofs.Ytgjkjobemnhbmaa.Pl
set_option linter.unusedVariables false
theorem memoryPlays (c : Cfg) (hf : c.Wf) (v y : Sl) (L : List Int) (w : World) (hr : Reads w .u64 v.v L) (ha : Shp.ReadsA w y.v y.len) :
    Calls Try.prog 3 #[cv c, v.v, y.v] w fun e w' => e = .returned (.bool true) ∧ Below w.heap.size w w' := by
  have hln := reads_len hr
  have hle := reads_le hr
  obtain ⟨ad, n, cap⟩ := v
  obtain ⟨ad2, na, cap2⟩ := y
  simp only at hln hle ha
  unfold maxLen at hle
  obtain ⟨ad', cap', e, q1, q2, q3⟩ := ha
  simp only [Sl.v, Value.slice.injEq, true_and] at e
  obtain ⟨e1, e2⟩ := e
  subst e1
  subst e2
  unfold maxLen at q2
  cases hg : greatC c
  · by_cases hn : n ≤ 400
    · by_cases hna : na ≤ 60
      · by_cases hk : chk c = 0
        · by_cases hs : (n : Int) = siz c
          · refine plays_good_pos c hf ad ad2 n cap na cap2 hg hn hna hk L hln.symm hs w hr (Lib.hid ?_)
            rcases q3 with h | ⟨b, off, had, hb, hc⟩
            · exact .inl h
            · refine .inr ⟨b, off, had, fun k hk w' hbw => ?_⟩
              obtain ⟨kd, at_, x, yv, c0, c1, c2, c3⟩ := hc k hk
              exact ⟨kd, at_, x, yv, (hbw.cell (p := ⟨b, _, none⟩) hb).trans c0, (hbw.cell (p := ⟨b, _, none⟩) hb).trans c1, (hbw.cell (p := ⟨b, _, none⟩) hb).trans c2, (hbw.cell (p := ⟨b, _, none⟩) hb).trans c3⟩
          · exact plays_form c hf ad ad2 n cap na cap2 hg hn hna hk L hln.symm hs w hr
        · exact plays_bad c hf ad ad2 n cap na cap2 hg hn hna hk L hln.symm w hr
      · exact plays_many c hf ad ad2 n cap na cap2 hg hn (by omega) (by omega) w
    · exact plays_long c hf ad ad2 n cap na cap2 hg (by omega) (by omega) w
  · exact plays_great c hf ad ad2 n cap na cap2 hg w
end Go.Proofs.Ytgjkjobemnhbmaa.Me

/- The law SlabClaims (made by gensc2.py). -/
import Derived.Test.YtblkfbbdeodpjaaScNil
import Derived.Test.YtblkfbbdeodpjaaScMain
namespace Go.Proofs.Ytblkfbbdeodpjaa.Me
open Go Go.RowKit Go.Proofs.Ytblkfbbdeodpjaa.Gro Go.Proofs.Ytblkfbbdeodpjaa.Own Go.Proofs.Ytblkfbbdeodpjaa.Wd Go.Proofs.Ytblkfbbdeodpjaa.Ap Go.Proofs.Ytblkfbbdeodpjaa.Pl Go.Proofs.Ytblkfbbdeodpjaa.Wo
set_option linter.unusedVariables false
set_option linter.unusedSimpArgs false
theorem slabClaims (n0 n1 n2 : Int) (hn0 : 0 ≤ n0 ∧ n0 < 256) (hn1 : 0 ≤ n1 ∧ n1 < 256) (hn2 : 0 ≤ n2 ∧ n2 < 256) (v : Sl) (pk : List Int) (w : World) (hr : Reads w .u8 v.v pk) (hpk : ∀ x ∈ pk, 0 ≤ x ∧ x < 256) : Calls Try.prog 7 #[.int .u8 n0, .int .u8 n1, .int .u8 n2, v.v] w fun e w' => e = .returned (.bool true) ∧ Below w.heap.size w w' := by
  have hl := reads_len hr
  have hle := reads_le hr
  obtain ⟨ad, n, cap⟩ := v
  simp only at hl hle
  unfold maxLen at hle
  by_cases hlong : 800 < n
  · exact sc_long n0 n1 n2 hn0 hn1 hn2 ad n cap hlong (by omega) w
  · obtain ⟨ad', cap', e1, _, _, h4⟩ := hr
    simp only [Sl.v, Value.slice.injEq] at e1
    obtain ⟨rfl, e2, rfl⟩ := e1
    rcases h4 with h4 | ⟨b0, off, rfl, hb0, hc⟩
    · subst h4
      simp only [List.length_nil] at hl
      subst hl
      exact sc_nil n0 n1 n2 hn0 hn1 hn2 ad cap w
    · subst hl
      exact sc_main n0 n1 n2 hn0 hn1 hn2 b0 off cap pk hpk (by omega) w hb0 hc
end Go.Proofs.Ytblkfbbdeodpjaa.Me

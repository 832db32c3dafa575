/- EntryChanges: what the steps do to the words. -/
import Derived.Test.YtblkfbbdeodpjaaEntryKeeps
import Derived.Test.YtblkfbbdeodpjaaEntryLive
namespace Go.Proofs.Ytblkfbbdeodpjaa.Me
open Go Go.RowKit Go.Proofs.Ytblkfbbdeodpjaa.Gro Go.Proofs.Ytblkfbbdeodpjaa.Own Go.Proofs.Ytblkfbbdeodpjaa.Wd Go.Proofs.Ytblkfbbdeodpjaa.Ap Go.Proofs.Ytblkfbbdeodpjaa.Pl Go.Proofs.Ytblkfbbdeodpjaa.Wo
set_option linter.unusedVariables false
set_option linter.unusedSimpArgs false
theorem good_has {c : Cfg} {t : Int} (hg : goodB c t = true) : hasB c (t % 65536 - 1) c.en = true ∧ 1 ≤ t / 65536 ∧ t / 65536 ≤ c.la := by
  unfold goodB at hg
  simp only [Bool.and_eq_true, decide_eq_true_eq] at hg
  exact ⟨hg.1.1, hg.1.2, hg.2⟩
theorem ec_adr {c : Cfg} {L : List Int} {t : Int} (h : chk c = 0) (hs : (L.length : Int) = siz c) (hg : goodB c t = true) : ∃ j : Nat, aEnt c (t % 65536 - 1) = (j : Int) ∧ j < L.length := by
  have hh := (good_has hg).1
  obtain ⟨h1, h2, h3⟩ := hasB_spec hh
  have hok := chk_ok.1 h
  have hww := hok.ww
  have he : aEnt c (t % 65536 - 1) = 3 + c.ww + c.sl + 2 * (t % 65536 - 1) := by rw [aEnt, if_pos hh]
  have hsl := hok.sl
  have h2' := hok.en
  have h3' := hok.bl
  have h4 := hok.wd
  have m1 := mul_range (a := c.sl) (b := c.bl) (A := 8) (B := 16) (by omega) (by omega) (by omega) (by omega)
  have m2 := mul_range (a := c.sl * c.bl) (b := 1 + c.wd) (A := 128) (B := 5) (by omega) (by omega) (by omega) (by omega)
  have hz : siz c = 3 + c.ww + c.sl + 2 * c.en + c.sl * c.bl * (1 + c.wd) := by rw [siz, if_pos (okB_of_ok hok)]
  exact ⟨(aEnt c (t % 65536 - 1)).toNat, by omega, by omega⟩
theorem ec_ld {c : Cfg} {L : List Int} {t : Int} {j : Nat} (hj : aEnt c (t % 65536 - 1) = (j : Int)) (hjl : j < L.length) : ldV L (aEnt c (t % 65536 - 1)) = lvW c L t := by
  rw [hj, ldV_at hjl]
  unfold lvW
  rw [hj, Int.toNat_natCast, List.getD_eq_getElem?_getD, List.getElem?_eq_getElem hjl]
  rfl
theorem ec_cs {c : Cfg} {L : List Int} {t : Int} {j : Nat} (hj : aEnt c (t % 65536 - 1) = (j : Int)) (hjl : j < L.length) : csB L (aEnt c (t % 65536 - 1)) (lvW c L t) = true := by
  rw [hj, csB_at hjl]
  unfold lvW
  rw [hj, Int.toNat_natCast, List.getD_eq_getElem?_getD, List.getElem?_eq_getElem hjl]
  simp
theorem ec_new {c : Cfg} {L : List Int} {t : Int} {j : Nat} (hj : aEnt c (t % 65536 - 1) = (j : Int)) (hjl : j < L.length) (E : Int) : lvW c (csL L (aEnt c (t % 65536 - 1)) (lvW c L t) E) t = E := by
  rw [csL_yes (ec_cs hj hjl)]
  unfold lvW
  rw [hj, Int.toNat_natCast, List.getD_eq_getElem?_getD, List.getElem?_set_self hjl]
  rfl
theorem lv_good {c : Cfg} {L : List Int} {t : Int} (h : chk c = 0) (hs : (L.length : Int) = siz c) (hg : goodB c t = true) : lvB c L t = enB (lvW c L t) (t / 65536) := by
  unfold lvB
  rw [decide_eq_true h, decide_eq_true hs, hg]
  rfl
section
variable {c : Cfg} {a : Acc} {L : List Int} {t : Int} {j : Nat}
theorem ec_find (hj : aEnt c (t % 65536 - 1) = (j : Int)) (hjl : j < L.length) (hb : enB (lvW c L t) (t / 65536) = true) (ln : Int) (hl : ln = 60 ∨ ln = 44 ∨ ln = 42) :
    (entryLn c a L { pz with ln := ln, t := t }).fin = ⟨acc L 1 (aEnt c (t % 65536 - 1)) 0 0, L, { pz with t := t, v := lvW c L t, c := lvW c L t / 16 % 65536 }, 1, true⟩ := by
  have e : entryLn c a L { pz with ln := ln, t := t } = enFind c L { pz with ln := ln, t := t } := by
    unfold entryLn
    rcases hl with rfl | rfl | rfl <;> simp
  rw [e]
  unfold enFind enT
  simp only [ec_ld hj hjl, hb, if_true]
  rw [Res.fin1 (show (1 : Int) ≠ 0 by decide)]
  rfl
theorem ec_lost (hj : aEnt c (t % 65536 - 1) = (j : Int)) (hjl : j < L.length) (hb : enB (lvW c L t) (t / 65536) = false) :
    (entryLn c a L { pz with ln := 60, t := t }).fin = ⟨acc L 1 (aEnt c (t % 65536 - 1)) 0 0, L, { pz with t := t }, 2, true⟩ := by
  have e : entryLn c a L { pz with ln := 60, t := t } = enFind c L { pz with ln := 60, t := t } := by
    unfold entryLn
    simp
  rw [e]
  unfold enFind enT
  simp only [ec_ld hj hjl, hb, Bool.false_eq_true, if_false]
  rw [Res.fin1 (show (2 : Int) ≠ 0 by decide)]
  rfl
theorem ec_45 (hj : aEnt c (t % 65536 - 1) = (j : Int)) (hjl : j < L.length) (b cc : Int) :
    (entryLn c a L { pz with ln := 45, t := t, v := lvW c L t, c := cc, b := b }).fin = ⟨acc L 3 (aEnt c (t % 65536 - 1)) (lvW c L t) (Pk.en (t / 65536) (wrap64 (b - 1)) 1), csL L (aEnt c (t % 65536 - 1)) (lvW c L t) (Pk.en (t / 65536) (wrap64 (b - 1)) 1), { pz with t := t, v := lvW c L t, c := cc }, 1, true⟩ := by
  have e : entryLn c a L { pz with ln := 45, t := t, v := lvW c L t, c := cc, b := b } = en45 c L { pz with ln := 45, t := t, v := lvW c L t, c := cc, b := b } := by
    unfold entryLn
    simp
  rw [e]
  unfold en45 enT enRe
  simp only [ec_cs hj hjl, if_true]
  rw [Res.fin1 (show (1 : Int) ≠ 0 by decide)]
  rfl
def ecE (c : Cfg) (t : Int) : Int := if c.la ≤ t / 65536 then Pk.en (t / 65536) (-1) 2 else Pk.en (t / 65536 + 1) (-1) 0
def ecI (c : Cfg) (t : Int) : Int := if c.la ≤ t / 65536 then 0 else t % 65536
theorem ec_43 (hj : aEnt c (t % 65536 - 1) = (j : Int)) (hjl : j < L.length) (cc : Int) :
    (entryLn c a L { pz with ln := 43, t := t, v := lvW c L t, c := cc }).fin = ⟨acc L 3 (aEnt c (t % 65536 - 1)) (lvW c L t) (ecE c t), csL L (aEnt c (t % 65536 - 1)) (lvW c L t) (ecE c t), { pz with t := t, v := lvW c L t, c := cc, i := ecI c t }, 1, true⟩ := by
  have e : entryLn c a L { pz with ln := 43, t := t, v := lvW c L t, c := cc } = en43 c L { pz with ln := 43, t := t, v := lvW c L t, c := cc } := by
    unfold entryLn
    simp
  rw [e]
  unfold en43 enT
  simp only [ec_cs hj hjl, if_true]
  rw [Res.fin1 (show (1 : Int) ≠ 0 by decide)]
  rfl
end
/-- A block written by line 45 is found again. -/
theorem ec_back {g q : Int} (hg : 0 ≤ g ∧ g ≤ 1048576) (hq : 0 ≤ q ∧ q < 40) : enB (Pk.en g q 1) g = true ∧ Pk.en g q 1 / 16 % 65536 = q + 1 := by
  unfold enB Pk.en
  constructor
  · simp only [Bool.and_eq_true, decide_eq_true_eq, beq_iff_eq]
    omega
  · omega
theorem ec_dead {c : Cfg} {t : Int} (g : Int) (hg : 1 ≤ t / 65536 ∧ t / 65536 ≤ 1048576) : enB (ecE c t) g = false ∧ 0 ≤ ecE c t ∧ ecE c t < 18446744073709551616 ∧ ecE c t / 16 % 65536 = 0 ∧ (c.la ≤ t / 65536 → ecE c t / 1048576 = t / 65536 ∧ ecE c t % 16 = 2) ∧ (¬ c.la ≤ t / 65536 → ecE c t / 1048576 = t / 65536 + 1 ∧ ecE c t % 16 = 0) := by
  unfold ecE enB
  split
  · rename_i h
    refine ⟨?_, (Pk.en_rng _ _ _).1, (Pk.en_rng _ _ _).2, ?_, fun _ => ?_, fun h2 => absurd h h2⟩
    · have : Pk.en (t / 65536) (-1) 2 % 16 = 2 := by unfold Pk.en; omega
      simp [this]
    · unfold Pk.en; omega
    · constructor <;> unfold Pk.en <;> omega
  · rename_i h
    refine ⟨?_, (Pk.en_rng _ _ _).1, (Pk.en_rng _ _ _).2, ?_, fun h2 => absurd h2 h, fun _ => ?_⟩
    · have : Pk.en (t / 65536 + 1) (-1) 0 % 16 = 0 := by unfold Pk.en; omega
      simp [this]
    · unfold Pk.en; omega
    · constructor <;> unfold Pk.en <;> omega
end Go.Proofs.Ytblkfbbdeodpjaa.Me

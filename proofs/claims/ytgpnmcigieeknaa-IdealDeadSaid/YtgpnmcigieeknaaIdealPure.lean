/- What an answer does to the tickets: plain facts on the two lists. -/
import Derived.Test.YtgpnmcigieeknaaIdealStep
namespace Go.Proofs.Ytgpnmcigieeknaa.Idl
open Go Go.RowKit

theorem lk_upd (t x t' : Int) : ∀ L, lk t' (updN t x L) = if t' = t then some x else lk t' L
  | [] => by simp only [updN, lk]
  | p :: r => by
    unfold updN
    by_cases h : t = p.1
    · rw [if_pos h]; simp only [lk, ← h]
      by_cases h2 : t' = t
      · simp [h2]
      · simp [h2]
    · rw [if_neg h]; simp only [lk, lk_upd t x t' r]
      by_cases h2 : t' = p.1
      · have h3 : ¬ t' = t := fun e => h (e.symm.trans h2)
        rw [if_pos h2, if_neg h3, if_pos h2]
      · rw [if_neg h2, if_neg h2]
theorem al_upd (t x t' : Int) (L : List (Int × Int)) : al t' (updN t x L) = if t' = t then true else al t' L := by
  unfold al; rw [lk_upd]; split <;> rfl
theorem keys_upd (t x : Int) : ∀ L : List (Int × Int), (updN t x L).map (·.1) = if t ∈ L.map (·.1) then L.map (·.1) else L.map (·.1) ++ [t]
  | [] => rfl
  | p :: r => by
    unfold updN
    by_cases h : t = p.1
    · simp [h]
    · rw [if_neg h]
      simp only [List.map_cons, keys_upd t x r, List.mem_cons, h, false_or]
      split <;> simp
theorem nodup_upd (t x : Int) {L : List (Int × Int)} (h : (L.map (·.1)).Nodup) : ((updN t x L).map (·.1)).Nodup := by
  rw [keys_upd]
  split
  · exact h
  · rename_i hn
    rw [List.nodup_append]
    exact ⟨h, by simp, fun a ha b hb => by simp at hb; subst hb; exact fun e => hn (e ▸ ha)⟩
theorem mem_keys {t : Int} : ∀ {L : List (Int × Int)}, lk t L ≠ none → t ∈ L.map (·.1)
  | [], h => absurd rfl h
  | p :: r, h => by
    unfold lk at h
    by_cases e : t = p.1
    · simp [e]
    · rw [if_neg e] at h
      exact List.mem_cons_of_mem _ (mem_keys h)
theorem lk_del (t t' : Int) : ∀ {L : List (Int × Int)}, (L.map (·.1)).Nodup → lk t' (delN t L) = if t' = t then none else lk t' L
  | [], _ => by simp [delN, lk]
  | p :: r, hn => by
    simp only [List.map_cons, List.nodup_cons] at hn
    unfold delN
    by_cases h : t = p.1
    · rw [if_pos h]
      by_cases h2 : t' = t
      · rw [if_pos h2]
        subst h2
        cases hl : lk t' r with
        | none => rfl
        | some v => exact absurd (h ▸ mem_keys (by rw [hl]; simp)) hn.1
      · rw [if_neg h2]; simp only [lk]; rw [if_neg (fun e => h2 (e.trans h.symm))]
    · rw [if_neg h]; simp only [lk, lk_del t t' hn.2]
      by_cases h2 : t' = p.1
      · have h3 : ¬ t' = t := fun e => h (e.symm.trans h2)
        rw [if_pos h2, if_neg h3, if_pos h2]
      · rw [if_neg h2, if_neg h2]
theorem al_del (t t' : Int) {L : List (Int × Int)} (h : (L.map (·.1)).Nodup) : al t' (delN t L) = if t' = t then false else al t' L := by
  unfold al; rw [lk_del t t' h]; split <;> rfl
theorem keys_del (t : Int) : ∀ L : List (Int × Int), ((delN t L).map (·.1)).Sublist (L.map (·.1))
  | [] => List.Sublist.slnil
  | p :: r => by
    unfold delN
    by_cases h : t = p.1
    · rw [if_pos h]; exact List.sublist_cons_self _ _
    · rw [if_neg h]; exact (keys_del t r).cons_cons _
theorem mem_addD {t t' : Int} {D : List Int} : t' ∈ addD t D ↔ t' ∈ D ∨ t' = t := by
  unfold addD
  split
  · rename_i h
    exact ⟨.inl, fun h' => h'.elim id (fun e => e ▸ h)⟩
  · simp

/-- The four things that can come of an answer. -/
inductive Did (L : List (Int × Int)) (D : List Int) (k r t x : Int) (ok : Bool) : List (Int × Int) → List Int → Prop where
  | same : Did L D k r t x ok L D
  | issue : ok = true → toldB t L D = false → k = 3 → r = 0 → Did L D k r t x ok (updN t x L) D
  | renum : ok = true → al t L = true → Did L D k r t x ok (updN t x L) D
  | kill : ok = true → al t L = true → k = 4 → r = 0 → Did L D k r t x ok (delN t L) (addD t D)

theorem did (ws : Int) (L : List (Int × Int)) (D : List Int) (k r t x : Int) (xs : List Int) : Did L D k r t x (stepOk ws L D k r t xs) (stL ws L D k r t x xs) (stD ws L D k r t xs) := by
  unfold stL stD
  cases hok : stepOk ws L D k r t xs
  · simp only [Bool.false_eq_true, if_false]; exact .same
  · simp only [if_true]
    have hm : mt (rn k r) ws L D t xs = true := by
      unfold stepOk at hok
      simp only [Bool.and_eq_true] at hok
      exact hok.2
    by_cases h1 : rd k r = 1
    · have hi := rd_issue h1
      rw [hi.1] at hm
      have ht : toldB t L D = false := by
        have : (!toldB t L D) = true := hm
        simpa using this
      have e1 : chL (rd k r) t x L = updN t x L := by unfold chL; rw [if_pos (.inl h1)]
      have e2 : chD (rd k r) t D = D := by unfold chD; rw [if_neg (by omega)]
      rw [e1, e2]
      exact .issue rfl ht hi.2.1 hi.2.2
    · by_cases h3 : rd k r = 3
      · have hi := rd_renum h3
        rw [hi.1] at hm
        have e1 : chL (rd k r) t x L = updN t x L := by unfold chL; rw [if_pos (.inr h3)]
        have e2 : chD (rd k r) t D = D := by unfold chD; rw [if_neg (by omega)]
        rw [e1, e2]
        exact .renum rfl hm
      · by_cases h2 : rd k r = 2
        · have hi := rd_kill h2
          rw [hi.1] at hm
          have e1 : chL (rd k r) t x L = delN t L := by unfold chL; rw [if_neg (by omega), if_pos h2]
          have e2 : chD (rd k r) t D = addD t D := by unfold chD; rw [if_pos h2]
          rw [e1, e2]
          exact .kill rfl hm hi.2.1 hi.2.2
        · have e1 : chL (rd k r) t x L = L := by unfold chL; rw [if_neg (by omega), if_neg h2]
          have e2 : chD (rd k r) t D = D := by unfold chD; rw [if_neg h2]
          rw [e1, e2]
          exact .same

section
variable {L L' : List (Int × Int)} {D D' : List Int} {k r t x : Int} {ok : Bool}
theorem told_iff : toldB t L D = true ↔ al t L = true ∨ t ∈ D := by unfold toldB; simp
theorem told_no : toldB t L D = false ↔ al t L = false ∧ t ∉ D := by unfold toldB; simp

theorem Did.nodup (h : Did L D k r t x ok L' D') (hn : (L.map (·.1)).Nodup) : (L'.map (·.1)).Nodup := by
  cases h with
  | same => exact hn
  | issue => exact nodup_upd t x hn
  | renum => exact nodup_upd t x hn
  | kill => exact (keys_del t L).nodup hn
/-- A ticket that was live and isn't any more: a Free that succeeded. -/
theorem Did.died (h : Did L D k r t x ok L' D') (h1 : al t L = true) (h2 : al t L' = false) : k = 4 ∧ r = 0 ∧ ok = true ∧ t ∈ D' := by
  cases h with
  | same => rw [h1] at h2; cases h2
  | issue _ ht => rw [(told_no.1 ht).1] at h1; cases h1
  | renum => rw [al_upd, if_pos rfl] at h2; cases h2
  | kill h0 _ hk hr => exact ⟨hk, hr, h0, mem_addD.2 (.inr rfl)⟩
theorem Did.born (h : Did L D k r t x ok L' D') (h1 : al t L = false) (h2 : al t L' = true) : k = 3 ∧ toldB t L D = false ∧ ok = true := by
  cases h with
  | same => rw [h1] at h2; cases h2
  | issue h0 ht hk => exact ⟨hk, ht, h0⟩
  | renum _ ha => rw [h1] at ha; cases ha
  | kill _ ha => rw [h1] at ha; cases ha
theorem Did.told (h : Did L D k r t x ok L' D') (h1 : toldB t L D = true) : toldB t L' D' = true := by
  cases h with
  | same => exact h1
  | issue _ ht => rw [h1] at ht; cases ht
  | renum => exact told_iff.2 (.inl (by rw [al_upd, if_pos rfl]))
  | kill => exact told_iff.2 (.inr (mem_addD.2 (.inr rfl)))
theorem Did.no (h : Did L D k r t x false L' D') : al t L = al t L' := by
  cases h with
  | same => rfl
  | issue h0 => cases h0
  | renum h0 => cases h0
  | kill h0 => cases h0
/-- A dead ticket stays dead. -/
theorem Did.dead (h : Did L D k r t x ok L' D') (hn : (L.map (·.1)).Nodup) {t' : Int} (h1 : al t' L = false) (h2 : t' ∈ D) : al t' L' = false ∧ t' ∈ D' := by
  cases h with
  | same => exact ⟨h1, h2⟩
  | issue _ ht =>
    have hne : t' ≠ t := fun e => (told_no.1 ht).2 (e ▸ h2)
    exact ⟨by rw [al_upd, if_neg hne]; exact h1, h2⟩
  | renum _ ha =>
    have hne : t' ≠ t := fun e => by rw [e] at h1; rw [h1] at ha; cases ha
    exact ⟨by rw [al_upd, if_neg hne]; exact h1, h2⟩
  | kill =>
    refine ⟨?_, mem_addD.2 (.inl h2)⟩
    rw [al_del t t' hn]
    split
    · rfl
    · exact h1
end
end Go.Proofs.Ytgpnmcigieeknaa.Idl

/- OrderKeeps: what Whole and Keeps say of a list of events, and that the first implies the second (made by genord.py). -/
import Derived.Test.YtgpdkagmacpghaaBk
namespace Go.Proofs.Ytgpdkagmacpghaa.Od
set_option linter.unusedVariables false
/-- What counts of an event: its worker and number, and its kind. -/
structure Ev where
  (o : Int × Int) (k : Int)
def before (k : Int) : Option Int := if k = 1 then some 0 else if k = 3 then some 1 else if k = 4 then some 3 else none
def put (f : Int × Int → Int) (o : Int × Int) (v : Int) : Int × Int → Int := fun x => if x = o then v else f x
def wholeF : List Ev → (Int × Int → Int) → Bool
  | [], _ => true
  | e :: r, f => match before e.k with
    | none => wholeF r f
    | some b => if f e.o ≠ b then false else wholeF r (put f e.o e.k)
/-- Where an operation has its first point. -/
def fpF : List Ev → Int × Int → Nat → Option Nat
  | [], _, _ => none
  | e :: r, o, i => if e.k = 3 ∧ e.o = o then some i else fpF r o (i + 1)
def keepsF (pt : Int × Int → Option Nat) : List Ev → (Int × Int → Bool) → Nat → Bool
  | [], _, _ => true
  | e :: r, called, last => match pt e.o with
    | none => keepsF pt r called last
    | some p => if e.k = 1 ∧ called e.o = false then (if p < last then false else keepsF pt r (fun x => if x = e.o then true else called x) last)
      else if e.k = 4 then keepsF pt r called (max last p) else keepsF pt r called last
theorem fp_ge : ∀ (s : List Ev) (o : Int × Int) (i p : Nat), fpF s o i = some p → i ≤ p
  | [], _, _, _, h => by cases h
  | e :: r, o, i, p, h => by
    rw [fpF] at h
    split at h
    · simp only [Option.some.injEq] at h
      omega
    · have := fp_ge r o (i + 1) p h
      omega
theorem fp_on {e : Ev} {r : List Ev} {o : Int × Int} {i : Nat} (h : ¬ (e.k = 3 ∧ e.o = o)) : fpF (e :: r) o i = fpF r o (i + 1) := by rw [fpF, if_neg h]
theorem keeps_of {pt : Int × Int → Option Nat} : ∀ (s : List Ev) (i last : Nat) (f : Int × Int → Int) (called : Int × Int → Bool), wholeF s f = true → last ≤ i →
    (∀ o, f o = 0 ∨ f o = 1 ∨ f o = 3 ∨ f o = 4) → (∀ o, f o = 0 ∨ f o = 1 → pt o = fpF s o i) → (∀ o, f o = 3 ∨ f o = 4 → ∃ p, pt o = some p ∧ p < i) → keepsF pt s called last = true
  | [], _, _, _, _, _, _, _, _, _ => rfl
  | e :: r, i, last, f, called, hw, hl, hf, h1, h2 => by
    have rest : ∀ (last' : Nat) (f' : Int × Int → Int) (called' : Int × Int → Bool), wholeF r f' = true → last' ≤ i + 1 → (∀ o, f' o = 0 ∨ f' o = 1 ∨ f' o = 3 ∨ f' o = 4) → (∀ o, f' o = 0 ∨ f' o = 1 → pt o = fpF r o (i + 1)) → (∀ o, f' o = 3 ∨ f' o = 4 → ∃ p, pt o = some p ∧ p < i + 1) → keepsF pt r called' last' = true :=
      fun last' f' called' a b c d g => keeps_of r (i + 1) last' f' called' a b c d g
    rw [wholeF] at hw
    by_cases k1 : e.k = 1
    · rw [show before e.k = some 0 by rw [before, if_pos k1]] at hw
      simp only at hw
      by_cases q : f e.o = 0
      · rw [if_neg (by simpa using q)] at hw
        have R : ∀ called', keepsF pt r called' last = true := fun called' => rest last _ called' hw (by omega)
          (fun o => by unfold put; split; exact .inr (.inl k1); exact hf o)
          (fun o ho => by
            rw [← fp_on (e := e) (i := i) (by omega)]
            unfold put at ho
            split at ho
            · rename_i e1
              exact h1 o (.inl (by rw [e1]; exact q))
            · exact h1 o ho)
          (fun o ho => by
            unfold put at ho
            split at ho
            · omega
            · obtain ⟨p, hp, hpi⟩ := h2 o ho
              exact ⟨p, hp, by omega⟩)
        rw [keepsF]
        have hpt := h1 e.o (.inl q)
        cases hp : pt e.o with
        | none => exact R called
        | some p =>
          have hge := fp_ge _ _ _ _ (hpt ▸ hp)
          simp only
          split
          · rw [if_neg (by omega)]
            exact R _
          · rw [if_neg (by omega)]
            exact R called
      · rw [if_pos (by simpa using q)] at hw
        cases hw
    by_cases k3 : e.k = 3
    · rw [show before e.k = some 1 by rw [before, if_neg k1, if_pos k3]] at hw
      simp only at hw
      by_cases q : f e.o = 1
      · rw [if_neg (by simpa using q)] at hw
        have hpt : pt e.o = some i := by rw [h1 e.o (.inr q), fpF, if_pos ⟨k3, rfl⟩]
        have R := rest last _ called hw (by omega)
          (fun o => by unfold put; split; exact .inr (.inr (.inl k3)); exact hf o)
          (fun o ho => by
            unfold put at ho
            split at ho
            · omega
            · rename_i hne
              rw [← fp_on (e := e) (i := i) (by rintro ⟨_, e2⟩; exact hne e2.symm)]
              exact h1 o ho)
          (fun o ho => by
            unfold put at ho
            split at ho
            · rename_i e1
              exact ⟨i, by rw [e1]; exact hpt, by omega⟩
            · obtain ⟨p, hp, hpi⟩ := h2 o ho
              exact ⟨p, hp, by omega⟩)
        rw [keepsF, hpt]
        simp only
        rw [if_neg (by omega), if_neg (by omega)]
        exact R
      · rw [if_pos (by simpa using q)] at hw
        cases hw
    by_cases k4 : e.k = 4
    · rw [show before e.k = some 3 by rw [before, if_neg k1, if_neg k3, if_pos k4]] at hw
      simp only at hw
      by_cases q : f e.o = 3
      · rw [if_neg (by simpa using q)] at hw
        obtain ⟨p, hp, hpi⟩ := h2 e.o (.inl q)
        have R := rest (max last p) _ called hw (by omega)
          (fun o => by unfold put; split; exact .inr (.inr (.inr k4)); exact hf o)
          (fun o ho => by
            unfold put at ho
            split at ho
            · omega
            · rw [← fp_on (e := e) (i := i) (by omega)]
              exact h1 o ho)
          (fun o ho => by
            unfold put at ho
            split at ho
            · rename_i e1
              exact ⟨p, by rw [e1]; exact hp, by omega⟩
            · obtain ⟨p, hp, hpi⟩ := h2 o ho
              exact ⟨p, hp, by omega⟩)
        rw [keepsF, hp]
        simp only
        rw [if_neg (by omega), if_pos k4]
        exact R
      · rw [if_pos (by simpa using q)] at hw
        cases hw
    · rw [show before e.k = none by rw [before, if_neg k1, if_neg k3, if_neg k4]] at hw
      simp only at hw
      have R := rest last f called hw (by omega) hf
        (fun o ho => by
          rw [← fp_on (e := e) (i := i) (by omega)]
          exact h1 o ho)
        (fun o ho => by
          obtain ⟨p, hp, hpi⟩ := h2 o ho
          exact ⟨p, hp, by omega⟩)
      rw [keepsF]
      cases hp : pt e.o with
      | none => exact R
      | some p =>
        simp only
        rw [if_neg (by omega), if_neg k4]
        exact R
/-- Whole implies Keeps. -/
theorem whole_keeps (l : List Ev) (h : wholeF l (fun _ => 0) = true) : keepsF (fun o => fpF l o 0) l (fun _ => false) 0 = true :=
  keeps_of l 0 0 _ _ h (Nat.le_refl _) (fun _ => .inl rfl) (fun _ _ => rfl) (fun o ho => by rcases ho with q | q <;> cases q)
end Go.Proofs.Ytgpdkagmacpghaa.Od

/- A region that draws its order and in which some operations may come up in whatever order while everything else waits for them: one invariant over the list of those that have come up serves every order. -/
import Derived.RegionTactic
namespace Go.Proofs.Ytgpdkagmacpghaa.Rp
open Go

theorem perm_append_of_subset : ∀ (l : List Nat) (l' : List Nat), l.Nodup → (∀ x ∈ l, x ∈ l') → ∃ r, l'.Perm (l ++ r)
  | [], l', _, _ => ⟨l', List.Perm.refl _⟩
  | x :: l, l', hd, hs => by
    have hx : x ∈ l' := hs x List.mem_cons_self
    have hn := List.nodup_cons.1 hd
    obtain ⟨r, hr⟩ := perm_append_of_subset l (l'.erase x) hn.2 (fun y hy => by
      have hne : y ≠ x := fun e => hn.1 (e ▸ hy)
      exact (List.mem_erase_of_ne hne).2 (hs y (List.mem_cons_of_mem _ hy)))
    exact ⟨r, (List.perm_cons_erase hx).trans (hr.cons x)⟩

def setAll (l0 : Array Bool) (l : List Nat) : Array Bool := l.foldr (fun i x => x.setIfInBounds i true) l0

theorem size_setAll (l0 : Array Bool) (l : List Nat) : (setAll l0 l).size = l0.size := by
  induction l with
  | nil => rfl
  | cons i l ih => simp only [setAll, List.foldr_cons, Array.size_setIfInBounds]; exact ih

theorem get_setAll (l0 : Array Bool) (l : List Nat) (i : Nat) : (setAll l0 l)[i]? = if i ∈ l then (if i < l0.size then some true else none) else l0[i]? := by
  induction l with
  | nil => simp [setAll]
  | cons j l ih =>
    show ((setAll l0 l).setIfInBounds j true)[i]? = _
    by_cases h : j = i
    · subst h
      rw [Array.getElem?_setIfInBounds_self, size_setAll]; simp
    · rw [Array.getElem?_setIfInBounds_ne h, ih]
      have : i ∈ j :: l ↔ i ∈ l := by simp [Ne.symm h]
      simp only [this]

theorem setAll_perm (l0 : Array Bool) {l l' : List Nat} (h : ∀ i, i ∈ l ↔ i ∈ l') : setAll l0 l = setAll l0 l' := by
  apply Array.ext_getElem?
  intro i
  rw [get_setAll, get_setAll]
  simp only [h i]

theorem getD_setAll (l0 : Array Bool) {l : List Nat} {i : Nat} (d : Bool) (h : i ∉ l) : (setAll l0 l).getD i d = l0.getD i d := by
  rw [Array.getD_eq_getD_getElem?, Array.getD_eq_getD_getElem?, get_setAll, if_neg h]

def permB (md : Region.Mode) (ops : Array Oper) (l0 : Array Bool) (J : List Nat) : Bool :=
  (J.all fun j => (Region.ready md ops l0).contains j) &&
  (List.range ops.size).all fun i => l0.getD i true || J.contains i ||
    match ops[i]? with
    | none => false
    | some o => (J.all fun j => o.after.toList.any fun e => Region.binds md e && e.on == j) || o.after.toList.any fun e => Region.binds md e && !J.contains e.on && !l0.getD e.on false

theorem ready_setAll {md : Region.Mode} {ops : Array Oper} {l0 : Array Bool} {j : Nat} (h : j ∈ Region.ready md ops l0) : ∀ {l : List Nat}, j ∉ l → j ∈ Region.ready md ops (setAll l0 l)
  | [], _ => h
  | _ :: _, hn => ready_mono (ready_setAll h (fun hm => hn (List.mem_cons_of_mem _ hm))) (fun e => hn (e ▸ List.mem_cons_self))

theorem mem_of_ready {md : Region.Mode} {ops : Array Oper} {l0 : Array Bool} {J : List Nat} (hb : permB md ops l0 J = true) {done : List Nat} {j0 : Nat} (hj0 : j0 ∈ J) (hj0' : j0 ∉ done) (hsub : ∀ x ∈ done, x ∈ J)
    {i : Nat} (hi : i ∈ Region.ready md ops (setAll l0 done)) : i ∈ J ∧ i ∉ done := by
  obtain ⟨h0, o, ho, hall⟩ := mem_ready.1 hi
  have hnd : i ∉ done := by
    intro hm
    have hlt : i < ops.size := (Array.getElem?_eq_some_iff.1 ho).1
    rw [Array.getD_eq_getD_getElem?, get_setAll, if_pos hm] at h0
    by_cases hs : i < l0.size
    · rw [if_pos hs] at h0; cases h0
    · rw [if_neg hs] at h0; cases h0
  refine ⟨?_, hnd⟩
  simp only [permB, Bool.and_eq_true, List.all_eq_true, List.mem_range] at hb
  have h1 := hb.2 i (Array.getElem?_eq_some_iff.1 ho).1
  have hJ0 := mem_ready.1 (by simpa using hb.1 j0 hj0 : j0 ∈ Region.ready md ops l0)
  rw [getD_setAll _ _ hnd] at h0
  simp only [h0, Bool.false_or, Bool.or_eq_true, ho] at h1
  rcases h1 with h1 | h1 | h1
  · simpa using h1
  · exfalso
    have h2 := List.all_eq_true.1 h1 j0 hj0
    rw [List.any_eq_true] at h2
    obtain ⟨e, he, h3⟩ := h2
    simp only [Bool.and_eq_true, beq_iff_eq] at h3
    have h4 := hall e (Array.mem_def.2 he) h3.1
    rw [h3.2, getD_setAll _ _ hj0'] at h4
    have h5 := hJ0.1
    rw [Array.getD_eq_getD_getElem?] at h4 h5
    cases hx : l0[j0]? with
    | none => rw [hx] at h4; cases h4
    | some x => rw [hx] at h4 h5; simp at h4 h5; rw [h4] at h5; cases h5
  · exfalso
    rw [List.any_eq_true] at h1
    obtain ⟨e, he, h3⟩ := h1
    simp only [Bool.and_eq_true, Bool.not_eq_true'] at h3
    have h4 := hall e (Array.mem_def.2 he) h3.1.1
    have hn : e.on ∉ done := fun hm => by
      have := hsub _ hm
      simp [this] at h3
    rw [getD_setAll _ _ hn] at h4
    rw [h3.2] at h4
    cases h4

theorem wpAny_perm {P : Program} {md : Region.Mode} {ops : Array Oper} {Q : Exit → Act → World → Prop} {a : Act} {l0 : Array Bool} (J : List Nat) (S : List Nat → World → Prop) (fe : Nat)
    (hb : permB md ops l0 J = true) (hJ : J.Nodup)
    (hstep : ∀ (done : List Nat) (w : World) (i : Nat), S done w → i ∈ J → i ∉ done → (∀ x ∈ done, x ∈ J) → wpOp P ops Q i (fun a' w' => a' = a ∧ S (i :: done) w') a w)
    (hend : ∀ (done : List Nat) (w : World), S done w → done.Perm J → wpAny P md ops Q fe (setAll l0 J) a w) :
    ∀ (n : Nat) (done : List Nat) (w : World), n + done.length = J.length → done.Nodup → (∀ x ∈ done, x ∈ J) → S done w → wpAny P md ops Q (n + fe) (setAll l0 done) a w
  | 0, done, w, hn, hd, hsub, hS => by
    have hp : done.Perm J := by
      obtain ⟨r, hr⟩ := perm_append_of_subset done J hd hsub
      have hl := hr.length_eq
      rw [List.length_append] at hl
      have hr0 : r = [] := List.length_eq_zero_iff.1 (by omega)
      rw [hr0, List.append_nil] at hr
      exact hr.symm
    rw [Nat.zero_add, setAll_perm l0 (fun i => hp.mem_iff)]
    exact hend done w hS hp
  | n + 1, done, w, hn, hd, hsub, hS => by
    have hex : ∃ j0 ∈ J, j0 ∉ done := by
      apply Classical.byContradiction
      intro hc
      have hsub' : ∀ x ∈ J, x ∈ done := fun x hx => Classical.byContradiction fun hx' => hc ⟨x, hx, hx'⟩
      obtain ⟨r, hr⟩ := perm_append_of_subset J done hJ hsub'
      have hl := hr.length_eq
      rw [List.length_append] at hl
      omega
    obtain ⟨j0, hj0, hj0'⟩ := hex
    have hb' := hb
    simp only [permB, Bool.and_eq_true, List.all_eq_true] at hb'
    rw [Nat.add_right_comm n 1 fe]
    refine ⟨fun he => ?_, fun i hi => ?_⟩
    · have h1 : j0 ∈ Region.ready md ops (setAll l0 done) := ready_setAll (by simpa using hb'.1 j0 hj0) hj0'
      rw [he] at h1
      cases h1
    · obtain ⟨hiJ, hid⟩ := mem_of_ready hb hj0 hj0' hsub hi
      refine wpOp_mono ?_ (hstep done w i hS hiJ hid hsub)
      rintro a' w' ⟨rfl, hS'⟩
      exact wpAny_perm J S fe hb hJ hstep hend n (i :: done) w' (by simp; omega) (List.nodup_cons.2 ⟨hid, hd⟩) (fun x hx => by rcases List.mem_cons.1 hx with rfl | hx; exact hiJ; exact hsub x hx) hS'

end Go.Proofs.Ytgpdkagmacpghaa.Rp

/- Layer 21: a script as an argument. -/
import Derived.Test.YtpmcedfeiconfaaGreatDoorScLaid
import Derived.Test.YtpmcedfeiconfaaGreatDoorScRight
import Derived.Test.YtpmcedfeiconfaaGreatDoorScLaws
namespace Go.Proofs.YtpmcedfeiconfaaGreatDoor.Opw
open Go Go.ChangeShapes Go.WideShapes Go.ChangeAt Go.RowKit Go.Proofs.YtpmcedfeiconfaaGreatDoor.Opn Go.Proofs.YtpmcedfeiconfaaGreatDoor.Shp Go.Proofs.YtpmcedfeiconfaaGreatDoor.Scr Go.Proofs.YtpmcedfeiconfaaGreatDoor.Scw Go.Proofs.YtpmcedfeiconfaaGreatDoor.Wd Go.Proofs.YtpmcedfeiconfaaGreatDoor.Pl
set_option linter.unusedVariables false
set_option linter.unusedSimpArgs false
theorem list_ofG {α : Type} {Q : Nat → α → Prop} : ∀ (n : Nat), (∀ i, i < n → ∃ z, Q i z) → ∃ L : List α, L.length = n ∧ ∀ i (h : i < L.length), Q i L[i]
  | 0, _ => ⟨[], rfl, fun i h => by cases h⟩
  | n + 1, h => by
    obtain ⟨L, h1, h2⟩ := list_ofG n (fun i hi => h i (by omega))
    obtain ⟨z, hz⟩ := h n (by omega)
    refine ⟨L ++ [z], by simp [h1], fun i hi => ?_⟩
    by_cases hn : i < L.length
    · rw [List.getElem_append_left hn]; exact h2 i hn
    · have e : i = n := by simp at hi; omega
      subst e
      rw [List.getElem_append_right (by omega)]
      simpa [h1] using hz
theorem oks_cells {W : World} : ∀ (es : List Shape) (b o : Nat), Shape.oks W es b o → ∃ cs, Shape.okl W es cs ∧ W.rangeAt b o cs
  | [], b, o, _ => ⟨[], trivial, fun j v hv => by simp at hv⟩
  | s :: r, b, o, h => by
    rw [Shape.oks] at h
    obtain ⟨⟨v, hv, hok⟩, hr⟩ := h
    obtain ⟨cs, h1, h2⟩ := oks_cells r b (o + 1) hr
    refine ⟨v :: cs, ⟨hok, h1⟩, fun j u hu => ?_⟩
    cases j with
    | zero =>
      simp only [List.getElem?_cons_zero, Option.some.injEq] at hu
      subst hu
      exact hv
    | succ j =>
      have := h2 j u (by simpa using hu)
      rw [show o + (j + 1) = o + 1 + j by omega]
      exact this
abbrev opSh : List Shape := [.int .i64, .int .u64, .int .u64, .int .i64, .bool, .int .i64, .int .i64]
theorem ops_of_ok {W : World} {v : Value} (h : Shape.ok W (.slice opSh) v) : ∃ l : List OpD, ReadsO W v l ∧ ∀ o ∈ l, o.Fits := by
  rw [Shape.ok] at h
  obtain ⟨ad, n, cap, rfl, h1, h2, h3⟩ := h
  rcases h3 with rfl | ⟨b, off, rfl, hb, hc⟩
  · exact ⟨[], ⟨ad, cap, rfl, Nat.zero_le _, h2, .inl rfl⟩, fun o ho => by cases ho⟩
  obtain ⟨L, hL, hQ⟩ := list_ofG (Q := fun i (o : OpD) => W.rangeAt b (off + i * 7) (opC o).toList ∧ o.Fits) n (fun i hi => by
    obtain ⟨cs, e1, e2⟩ := oks_cells opSh b _ (hc i hi)
    obtain ⟨o, rfl, hF⟩ := okl_opw e1
    exact ⟨o, e2, hF⟩)
  subst hL
  refine ⟨L, ⟨_, cap, rfl, h1, h2, .inr ⟨b, off, rfl, hb (by simp), fun i hi => (hQ i hi).1⟩⟩, fun o ho => ?_⟩
  obtain ⟨i, hi, rfl⟩ := List.mem_iff_getElem.1 ho
  exact (hQ i hi).2
theorem progs_of_ok {W : World} {v : Value} (h : Shape.ok W (.slice [.slice opSh]) v) : ∃ p : List (List OpD), ReadsP W v p ∧ ∀ l ∈ p, ∀ o ∈ l, o.Fits := by
  rw [Shape.ok] at h
  obtain ⟨ad, n, cap, rfl, h1, h2, h3⟩ := h
  rcases h3 with rfl | ⟨b, off, rfl, hb, hc⟩
  · exact ⟨[], ⟨ad, cap, rfl, Nat.zero_le _, h2, .inl rfl⟩, fun o ho => by cases ho⟩
  obtain ⟨L, hL, hQ⟩ := list_ofG (Q := fun i (l : List OpD) => (∃ u, W.cell? ⟨b, off + i, none⟩ = some u ∧ ReadsO W u l) ∧ ∀ o ∈ l, o.Fits) n (fun i hi => by
    have h4 := hc i hi
    rw [Shape.oks] at h4
    obtain ⟨⟨u, hu, hok⟩, _⟩ := h4
    obtain ⟨l, h5, h6⟩ := ops_of_ok hok
    have e : off + i * [Shape.slice opSh].length = off + i := by simp
    rw [e] at hu
    exact ⟨l, ⟨u, hu, h5⟩, h6⟩)
  subst hL
  refine ⟨L, ⟨_, cap, rfl, h1, h2, .inr ⟨b, off, rfl, hb (by simp), fun i hi => (hQ i hi).1⟩⟩, fun l hl => ?_⟩
  obtain ⟨i, hi, rfl⟩ := List.mem_iff_getElem.1 hl
  exact (hQ i hi).2
theorem picks_of_ok {W : World} {v : Value} (h : Shape.ok W (.slice [.int .i64]) v) : ∃ k : List Int, Reads W .i64 v k := by
  rw [Shape.ok] at h
  obtain ⟨ad, n, cap, rfl, h1, h2, h3⟩ := h
  rcases h3 with rfl | ⟨b, off, rfl, hb, hc⟩
  · exact ⟨[], ⟨ad, cap, rfl, Nat.zero_le _, h2, .inl rfl⟩⟩
  obtain ⟨L, hL, hQ⟩ := list_ofG (Q := fun i (z : Int) => W.cell? ⟨b, off + i, none⟩ = some (.int .i64 z)) n (fun i hi => by
    have h4 := hc i hi
    rw [Shape.oks] at h4
    obtain ⟨⟨u, hu, hok⟩, _⟩ := h4
    obtain ⟨z, rfl, _⟩ := ok_int hok
    have e : off + i * [Shape.int .i64].length = off + i := by simp
    rw [e] at hu
    exact ⟨z, hu⟩)
  subst hL
  exact ⟨L, ⟨_, cap, rfl, h1, h2, .inr ⟨b, off, rfl, hb (by simp), fun i hi => hQ i hi⟩⟩⟩
structure ScA where
  s : ScD
  ap : Option Addr
  cp : Nat
  ak : Option Addr
  ck : Nat
theorem scr_shapes : Shp.shapes Tryz.prog 6 28 = some [.int .i64, .int .i64, .int .i64, .int .i64, .int .i64, .int .i64, .int .i64, .int .u64, .slice [.slice opSh], .slice [.int .i64]] := by kernel_rfl
section
variable {H : Type} {enc : TypeId × Value → H} {W : World}
set_option maxRecDepth 100000 in
theorem open_scr {r : Reach} {b0 : Nat} {v : Value} {d : DataW H} {p : List MemPlace} (hv : Value.okWide Tryz.prog W r b0 28 v) (h : DataW.Trod enc Tryz.prog W 0 (fun _ => true) true 28 v d p) :
    ∃ x : ScA, v = sV x.s.c (.slice x.ap x.s.p.length x.cp) (.slice x.ak x.s.k.length x.ck) ∧ x.s.c.Wf ∧ FitS x.s ∧ ReadsP W (.slice x.ap x.s.p.length x.cp) x.s.p ∧ Reads W .i64 (.slice x.ak x.s.k.length x.ck) x.s.k := by
  obtain ⟨cs, rfl, _⟩ := okWide_struct Tryz.underlying28 hv
  obtain ⟨fuel, hf⟩ := h
  have hk := open_shapes 6 _ _ scr_shapes fuel _ _ hf (by kernel_rfl)
  obtain ⟨l⟩ := cs
  simp only [Value.cells] at hk
  obtain ⟨n0, _, rfl, f0, hk⟩ := okl_int hk
  obtain ⟨n1, _, rfl, f1, hk⟩ := okl_int hk
  obtain ⟨n2, _, rfl, f2, hk⟩ := okl_int hk
  obtain ⟨n3, _, rfl, f3, hk⟩ := okl_int hk
  obtain ⟨n4, _, rfl, f4, hk⟩ := okl_int hk
  obtain ⟨n5, _, rfl, f5, hk⟩ := okl_int hk
  obtain ⟨n6, _, rfl, f6, hk⟩ := okl_int hk
  obtain ⟨n7, _, rfl, f7, hk⟩ := okl_int hk
  obtain ⟨v8, _, rfl, g8, hk⟩ := okl_cons hk
  obtain ⟨v9, _, rfl, g9, hk⟩ := okl_cons hk
  obtain rfl := okl_nil hk
  obtain ⟨p, hp, hF⟩ := progs_of_ok g8
  obtain ⟨k, hk9⟩ := picks_of_ok g9
  have hp0 := hp
  have hk0 := hk9
  obtain ⟨ap, cp, rfl, _⟩ := hp0
  obtain ⟨ak, ck, rfl, _⟩ := hk0
  have h7 : 0 ≤ n7 ∧ n7 < 18446744073709551616 := by have := wf_u64 f7; omega
  exact ⟨⟨⟨⟨n0, n1, n2, n3, n4, n5, n6, n7⟩, p, k⟩, ap, cp, ak, ck⟩, rfl, ⟨h7.1, h7.2⟩, hF, hp, hk9⟩
end
end Go.Proofs.YtpmcedfeiconfaaGreatDoor.Opw

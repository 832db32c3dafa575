/- Arguments of the laws, opened: a slice of states, an event. -/
import Derived.Test.YtgpdkagmacpghaaOpens
import Derived.Test.YtgpdkagmacpghaaGuardSee0
namespace Go.Proofs.Ytgpdkagmacpghaa.Shp
open Go Go.ChangeShapes Go.WideShapes Go.Proofs.Ytgpdkagmacpghaa.Pl Go.Proofs.Ytgpdkagmacpghaa.Wd Go.Proofs.Ytgpdkagmacpghaa.Ap Go.Proofs.Ytgpdkagmacpghaa.Wo
set_option linter.unusedVariables false
theorem okl_of_oks {W : World} : ∀ {sh : List Shape} {b o : Nat}, Shape.oks W sh b o → ∃ cs : List Value, W.rangeAt b o cs ∧ Shape.okl W sh cs
  | [], b, o, _ => ⟨[], fun j v h => by simp at h, trivial⟩
  | s :: r, b, o, h => by
    rw [Shape.oks] at h
    obtain ⟨⟨v, hv, hs⟩, hr⟩ := h
    obtain ⟨cs, h1, h2⟩ := okl_of_oks hr
    refine ⟨v :: cs, fun j u hu => ?_, ⟨hs, h2⟩⟩
    cases j with
    | zero =>
      simp only [List.getElem?_cons_zero, Option.some.injEq] at hu
      subst hu
      exact hv
    | succ j =>
      rw [show o + (j + 1) = o + 1 + j by omega]
      exact h1 j u (by simpa using hu)
theorem worksList {W : World} {b off : Nat} : ∀ n, (∀ i, i < n → Shape.oks W workSh b (off + i * 33)) → ∃ xs : List Wk, xs.length = n ∧ ∀ i (h : i < xs.length), W.rangeAt b (off + i * 33) (wc xs[i]).toList
  | 0, _ => ⟨[], rfl, fun i h => by simp at h⟩
  | n + 1, h => by
    obtain ⟨xs, h1, h2⟩ := worksList n (fun i hi => h i (by omega))
    obtain ⟨cs, h3, h4⟩ := okl_of_oks (h n (by omega))
    obtain ⟨s, x, rfl, _, _⟩ := okl_work h4
    refine ⟨xs ++ [s], by simp [h1], fun i hi => ?_⟩
    by_cases hlt : i < xs.length
    · rw [List.getElem_append_left hlt]
      exact h2 i hlt
    · obtain rfl : i = n := by simp at hi; omega
      rw [List.getElem_append_right (by omega)]
      simp only [h1, Nat.sub_self, List.getElem_cons_zero]
      exact h3
theorem readsW_of_ok {W : World} {v : Value} (h : Shape.ok W (.slice workSh) v) : ∃ (x : Sl) (xs : List Wk), v = x.v ∧ WReads W x.v xs := by
  rw [Shape.ok] at h
  obtain ⟨ad, n, cap, rfl, h1, h2, h3⟩ := h
  rcases h3 with rfl | ⟨b, off, rfl, hb, hc⟩
  · exact ⟨⟨ad, 0, cap⟩, [], rfl, ad, cap, rfl, h1, h2, .inl rfl⟩
  · obtain ⟨xs, e, hr⟩ := worksList n hc
    subst e
    exact ⟨⟨_, _, cap⟩, xs, rfl, _, cap, rfl, h1, h2, .inr ⟨b, off, rfl, hb (by simp), hr⟩⟩
/-- An event. -/
structure Ev where
  (tk wo n kd o0 o1 o2 o3 : Int) (o4 : Bool) (o5 o6 t rt : Int) (rd : Sl) (ln ak at_ x y old : Int)
def ec (e : Ev) : Array Value := #[.int .i64 e.tk, .int .i64 e.wo, .int .i64 e.n, .int .i64 e.kd, .int .i64 e.o0, .int .u64 e.o1, .int .u64 e.o2, .int .i64 e.o3, .bool e.o4, .int .i64 e.o5, .int .i64 e.o6, .int .u64 e.t, .int .i64 e.rt, e.rd.v, .int .i64 e.ln, .int .i64 e.ak, .int .i64 e.at_, .int .u64 e.x, .int .u64 e.y, .int .u64 e.old]
abbrev eventSh : List Shape := [i6, i6, i6, i6, i6, u6, u6, i6, .bool, i6, i6, u6, i6, (.slice [.int .u64]), i6, i6, i6, u6, u6, u6]
section
variable {H : Type} {enc : TypeId × Value → H} {W : World}
theorem event_shapes : shapes Try.prog 6 99 = some eventSh := by kernel_rfl
set_option maxRecDepth 100000 in
theorem okl_event {cs : List Value} (h : Shape.okl W eventSh cs) : ∃ e, cs = (ec e).toList := by
  unfold eventSh at h
  obtain ⟨n0, _, rfl, q0, h⟩ := okl_int h
  obtain ⟨n1, _, rfl, q1, h⟩ := okl_int h
  obtain ⟨n2, _, rfl, q2, h⟩ := okl_int h
  obtain ⟨n3, _, rfl, q3, h⟩ := okl_int h
  obtain ⟨n4, _, rfl, q4, h⟩ := okl_int h
  obtain ⟨n5, _, rfl, q5, h⟩ := okl_int h
  obtain ⟨n6, _, rfl, q6, h⟩ := okl_int h
  obtain ⟨n7, _, rfl, q7, h⟩ := okl_int h
  obtain ⟨n8, _, e8, h1⟩ := okl_bool h
  subst e8
  have h := h1
  clear h1
  obtain ⟨n9, _, rfl, q9, h⟩ := okl_int h
  obtain ⟨n10, _, rfl, q10, h⟩ := okl_int h
  obtain ⟨n11, _, rfl, q11, h⟩ := okl_int h
  obtain ⟨n12, _, rfl, q12, h⟩ := okl_int h
  obtain ⟨y13, l13, _, rfl, r13, q13, h⟩ := okl_slice h
  obtain ⟨n14, _, rfl, q14, h⟩ := okl_int h
  obtain ⟨n15, _, rfl, q15, h⟩ := okl_int h
  obtain ⟨n16, _, rfl, q16, h⟩ := okl_int h
  obtain ⟨n17, _, rfl, q17, h⟩ := okl_int h
  obtain ⟨n18, _, rfl, q18, h⟩ := okl_int h
  obtain ⟨n19, _, rfl, q19, h⟩ := okl_int h
  obtain rfl := okl_nil h
  exact ⟨⟨n0, n1, n2, n3, n4, n5, n6, n7, n8, n9, n10, n11, n12, y13, n14, n15, n16, n17, n18, n19⟩, rfl⟩
set_option maxRecDepth 100000 in
theorem open_event {r : Reach} {b0 : Nat} {v : Value} {d : DataW H} {p : List MemPlace} (hv : Value.okWide Try.prog W r b0 99 v) (h : DataW.Trod enc Try.prog W 0 (fun _ => true) true 99 v d p) : ∃ e : Ev, v = .agg (ec e) ∧ True := by
  obtain ⟨cs, rfl, _⟩ := okWide_struct Try.underlying99 hv
  obtain ⟨fuel, hf⟩ := h
  obtain ⟨s, e⟩ := okl_event (open_shapes 6 _ _ event_shapes fuel _ _ hf (by kernel_rfl))
  obtain ⟨l⟩ := cs
  simp only [Value.cells] at e
  exact ⟨s, by rw [e], trivial⟩
theorem works_shapes : shapes Try.prog 7 59 = some [.slice workSh] := by kernel_rfl
set_option maxRecDepth 100000 in
theorem open_works {r : Reach} {b0 : Nat} {v : Value} {d : DataW H} {p : List MemPlace} (hv : Value.okWide Try.prog W r b0 59 v) (h : DataW.Trod enc Try.prog W 0 (fun _ => true) true 59 v d p) : ∃ (x : Sl), v = x.v ∧ ∃ xs, WReads W x.v xs := by
  obtain ⟨a, len, cap, rfl⟩ := okWide_slice Try.underlying59 hv
  obtain ⟨fuel, hf⟩ := h
  have hk := open_shapes 7 _ _ works_shapes fuel _ _ hf (by kernel_rfl)
  simp only [Value.cells] at hk
  obtain ⟨w, ws, e1, hok, hnil⟩ := okl_cons hk
  obtain rfl := okl_nil hnil
  simp only [List.cons.injEq, and_true] at e1
  subst e1
  obtain ⟨x, xs, e, hr⟩ := readsW_of_ok hok
  exact ⟨x, e, xs, hr⟩
end
end Go.Proofs.Ytgpdkagmacpghaa.Shp

/- A slice of events, opened with what each of them read; layer 16's limits; the law OrderKeeps. -/
import Derived.Test.YtgpdkagmacpghaaOrdAwake
import Derived.Test.YtgpdkagmacpghaaOpenEvents
namespace Go.Proofs.Ytgpdkagmacpghaa.Shp
open Go Go.RowKit Go.ChangeShapes Go.WideShapes Go.Proofs.Ytgpdkagmacpghaa.Pl Go.Proofs.Ytgpdkagmacpghaa.Wd Go.Proofs.Ytgpdkagmacpghaa.Ap Go.Proofs.Ytgpdkagmacpghaa.Wo Go.Proofs.Ytgpdkagmacpghaa.Od
set_option linter.unusedVariables false
set_option maxRecDepth 100000 in
theorem okl_eventR {W : World} {cs : List Value} (h : Shape.okl W eventSh cs) : ∃ (e : Shp.Ev) (l : List Int), cs = (ec e).toList ∧ Reads W .u64 e.rd.v l := by
  unfold eventSh at h
  obtain ⟨n0, _, rfl, q0, h⟩ := okl_int h
  obtain ⟨n1, _, rfl, q1, h⟩ := okl_int h
  obtain ⟨n2, _, rfl, q2, h⟩ := okl_int h
  obtain ⟨n3, _, rfl, q3, h⟩ := okl_int h
  obtain ⟨n4, _, rfl, q4, h⟩ := okl_int h
  obtain ⟨n5, _, rfl, q5, h⟩ := okl_int h
  obtain ⟨n6, _, rfl, q6, h⟩ := okl_int h
  obtain ⟨n7, _, rfl, q7, h⟩ := okl_int h
  obtain ⟨n8, _, e8, h1⟩ := okl_bool h
  subst e8
  have h := h1
  clear h1
  obtain ⟨n9, _, rfl, q9, h⟩ := okl_int h
  obtain ⟨n10, _, rfl, q10, h⟩ := okl_int h
  obtain ⟨n11, _, rfl, q11, h⟩ := okl_int h
  obtain ⟨n12, _, rfl, q12, h⟩ := okl_int h
  obtain ⟨y13, l13, _, rfl, r13, q13, h⟩ := okl_slice h
  obtain ⟨n14, _, rfl, q14, h⟩ := okl_int h
  obtain ⟨n15, _, rfl, q15, h⟩ := okl_int h
  obtain ⟨n16, _, rfl, q16, h⟩ := okl_int h
  obtain ⟨n17, _, rfl, q17, h⟩ := okl_int h
  obtain ⟨n18, _, rfl, q18, h⟩ := okl_int h
  obtain ⟨n19, _, rfl, q19, h⟩ := okl_int h
  obtain rfl := okl_nil h
  exact ⟨⟨n0, n1, n2, n3, n4, n5, n6, n7, n8, n9, n10, n11, n12, y13, n14, n15, n16, n17, n18, n19⟩, l13, rfl, r13⟩
theorem evsList {W : World} {b off : Nat} : ∀ n, (∀ i, i < n → Shape.oks W eventSh b (off + i * 20)) → ∃ (es : List Shp.Ev) (xs : List (List Int)), es.length = n ∧ xs.length = n ∧ (∀ i (h : i < es.length), W.rangeAt b (off + i * 20) (ec es[i]).toList) ∧ ∀ i (h : i < es.length) (h' : i < xs.length), Reads W .u64 es[i].rd.v xs[i]
  | 0, _ => ⟨[], [], rfl, rfl, fun i h => by simp at h, fun i h => by simp at h⟩
  | n + 1, h => by
    obtain ⟨es, xs, h1, h1', h2, h2'⟩ := evsList n (fun i hi => h i (by omega))
    obtain ⟨cs, h3, h4⟩ := okl_of_oks (h n (by omega))
    obtain ⟨s, l, rfl, hl⟩ := okl_eventR h4
    refine ⟨es ++ [s], xs ++ [l], by simp [h1], by simp [h1'], fun i hi => ?_, fun i hi hi' => ?_⟩
    · by_cases hlt : i < es.length
      · rw [List.getElem_append_left hlt]
        exact h2 i hlt
      · obtain rfl : i = n := by simp at hi; omega
        rw [List.getElem_append_right (by omega)]
        simp only [h1, Nat.sub_self, List.getElem_cons_zero]
        exact h3
    · by_cases hlt : i < es.length
      · rw [List.getElem_append_left hlt, List.getElem_append_left (by omega)]
        exact h2' i hlt (by omega)
      · obtain rfl : i = n := by simp at hi; omega
        rw [List.getElem_append_right (by omega), List.getElem_append_right (by omega)]
        simp only [h1, h1', Nat.sub_self, List.getElem_cons_zero]
        exact hl
theorem readsX_of_ok {W : World} {v : Value} (h : Shape.ok W (.slice eventSh) v) : ∃ (x : Sl), v = x.v ∧ ∃ es xs, EX W x.v es xs := by
  rw [Shape.ok] at h
  obtain ⟨ad, n, cap, rfl, h1, h2, h3⟩ := h
  rcases h3 with rfl | ⟨b, off, rfl, hb, hc⟩
  · exact ⟨⟨ad, 0, cap⟩, rfl, [], [], ⟨ad, cap, rfl, h1, h2, .inl rfl⟩, rfl, fun i h => by simp at h⟩
  · obtain ⟨es, xs, e, e', hr, hw⟩ := evsList n hc
    subst e
    exact ⟨⟨_, _, cap⟩, rfl, es, xs, ⟨_, cap, rfl, h1, h2, .inr ⟨b, off, rfl, hb (by simp), hr⟩⟩, e', hw⟩
section
variable {H : Type} {enc : TypeId × Value → H} {W : World}
set_option maxRecDepth 100000 in
theorem open_evs {r : Reach} {b0 : Nat} {v : Value} {d : DataW H} {p : List MemPlace} (hv : Value.okWide Try.prog W r b0 52 v) (h : DataW.Trod enc Try.prog W 0 (fun _ => true) true 52 v d p) : ∃ (x : Sl), v = x.v ∧ ∃ es xs, EX W x.v es xs := by
  obtain ⟨a, len, cap, rfl⟩ := okWide_slice Try.underlying52 hv
  obtain ⟨fuel, hf⟩ := h
  have hk := open_shapes 7 _ _ events_shapes fuel _ _ hf (by kernel_rfl)
  simp only [Value.cells] at hk
  obtain ⟨w, ws, e1, hok, hnil⟩ := okl_cons hk
  obtain rfl := okl_nil hnil
  simp only [List.cons.injEq, and_true] at e1
  subst e1
  exact readsX_of_ok hok
end
end Go.Proofs.Ytgpdkagmacpghaa.Shp
namespace Go.Proofs.Ytgpdkagmacpghaa.Od
open Go Go.RowKit Go.Proofs.Ytgpdkagmacpghaa.Gro Go.Proofs.Ytgpdkagmacpghaa.Own Go.Proofs.Ytgpdkagmacpghaa.Wd Go.Proofs.Ytgpdkagmacpghaa.Ap Go.Proofs.Ytgpdkagmacpghaa.Pl Go.Proofs.Ytgpdkagmacpghaa.Wo Go.Proofs.Ytgpdkagmacpghaa.Shp Go.Proofs.Ytgpdkagmacpghaa.Mr Go.ChangeMaps Go.Proofs.Ytgpdkagmacpghaa.Idl
set_option linter.unusedVariables false
set_option linter.unusedSimpArgs false
def GrPost (es : List Shp.Ev) (w : World) (e : Ending) (w' : World) : Prop := ∃ g, e = .returned (.bool g) ∧ (g = false → es.length ≤ 60 ∧ ∀ s ∈ es, s.rd.len ≤ 10) ∧ Below w.heap.size w w'
theorem great_nil (ad : Option Addr) (cap : Nat) (w : World) : Calls Try.prog 17 #[.slice ad 0 cap] w (GrPost [] w) := by
  go_enter Try.func17, Try.ntmps17
  go_wp2
  refine wp_loop_rounds 1 ?_
  rw [rounds_succ]
  go_wp2
  go_ret
  exact ⟨_, rfl, fun _ => ⟨by simp, fun s h => by cases h⟩, Below.refl _ _⟩
set_option maxRecDepth 10000 in
theorem great_pos (b off cap : Nat) (es : List Shp.Ev) (w : World) (hm : es.length ≤ maxLen) (hb : b < w.heap.size) (hr : ∀ i (h : i < es.length), w.rangeAt b (off + i * 20) (ec es[i]).toList) :
    Calls Try.prog 17 #[.slice (some ⟨b, off, none⟩) es.length cap] w (GrPost es w) := by
  unfold maxLen at hm
  have HR := Lib.hid hr
  have HBL := Lib.hid hb
  clear hr hb
  go_enter Try.func17, Try.ntmps17
  go_wp2
  go_loopw [3] (fun i wr => ∃ k : Nat, k ≤ es.length ∧ i = .int .i64 k ∧ (∀ j (h : j < es.length), j < k → es[j].rd.len ≤ 10) ∧ Below w.heap.size w wr) (fun i _ => es.length - (intOf i).toNat)
  case atStart => exact ⟨0, Nat.zero_le _, rfl, fun j h h' => by omega, Below.refl _ _⟩
  case round =>
    obtain ⟨k, hk, rfl, hall, hbw⟩ := hrel
    have HALL := Lib.hid hall
    clear hall
    by_cases hlt : k < es.length
    · have hsum : IntKind.i64.wrap ((k : Int) + 1) = (k : Int) + 1 := IntWalk.i64_in _ (by omega)
      have hr' : wr.rangeAt b (off + k * 20) (ec es[k]).toList := fun j v hv => (hbw.cell (p := ⟨b, _, none⟩) HBL.out).trans (HR.out k hlt j v hv)
      obtain ⟨s, hs⟩ : ∃ s, s = es[k] := ⟨_, rfl⟩
      rw [← hs] at hr'
      have HS := Lib.hid hs
      have hc : wr.cell? ⟨b, off + k * 20 + 4 + 9, none⟩ = some (.slice s.rd.ad s.rd.len s.rd.cap) := hr' 13 _ rfl
      clear hs hr'
      by_cases h61 : k < 61
      · by_cases h10 : 10 < s.rd.len
        · have t10 : decide ((10 : Int) < (s.rd.len : Int)) = true := by simp; omega
          go_wp2
          go_ret
          exact ⟨true, rfl, (fun h => by cases h), hbw⟩
        · have t10 : decide ((10 : Int) < (s.rd.len : Int)) = false := by simp; omega
          have h10' : s.rd.len ≤ 10 := by omega
          have H10 := Lib.hid h10'
          clear h10 h10'
          go_wp2
          go_roundw
          case rel =>
            refine ⟨k + 1, by omega, by go_num, fun j h h' => ?_, hbw⟩
            by_cases hj : j < k
            · exact HALL.out j h hj
            · obtain rfl : j = k := by omega
              rw [← HS.out]
              exact H10.out
          case measure => simp [intOf]; omega
      · have h60 : 60 < es.length := by omega
        have t60 : decide ((60 : Int) < (es.length : Int)) = true := by simp; omega
        go_wp2
        go_ret
        exact ⟨true, rfl, (fun h => by cases h), hbw⟩
    · obtain rfl : k = es.length := by omega
      by_cases h60 : 60 < es.length
      · have t60 : decide ((60 : Int) < (es.length : Int)) = true := by simp; omega
        go_wp2
        go_ret
        exact ⟨true, rfl, (fun h => by cases h), hbw⟩
      · have t60 : decide ((60 : Int) < (es.length : Int)) = false := by simp; omega
        go_wp2
        go_ret
        refine ⟨false, rfl, fun _ => ⟨by omega, fun s hs => ?_⟩, hbw⟩
        obtain ⟨i, hi, rfl⟩ := List.getElem_of_mem hs
        exact HALL.out i hi hi
theorem great {es : List Shp.Ev} {v : Value} {w : World} (h : EReads w v es) : Calls Try.prog 17 #[v] w (GrPost es w) := by
  obtain ⟨ad, cap, rfl, h1, h2, h3⟩ := h
  rcases h3 with rfl | ⟨b, off, rfl, hb, hc⟩
  · exact great_nil ad cap w
  · exact great_pos b off cap es w (by omega) hb hc
theorem few_words {w : World} {v : Value} {es : List Shp.Ev} {xs : List (List Int)} (h : EX w v es xs) (hf : ∀ s ∈ es, s.rd.len ≤ 10) : ∀ l ∈ xs, l.length ≤ 10 := fun l hl => by
  obtain ⟨i, hi, rfl⟩ := List.getElem_of_mem hl
  have hi' : i < es.length := by have := h.len; omega
  have h1 := reads_len (h.words i hi' hi)
  have h2 := hf _ (List.getElem_mem hi')
  omega
set_option maxRecDepth 10000 in
theorem orderKeeps {es : List Shp.Ev} {xs : List (List Int)} (x : Sl) (W : World) (h : EX W x.v es xs) : Calls Try.prog 4 #[x.v] W fun e w' => e = .returned (.bool true) ∧ Below W.heap.size W w' := by
  have HA := Lib.hid (awake16 W)
  have HX := Lib.hid h
  clear h
  go_enter Try.func4, Try.ntmps4
  go_wp2_with fail
  refine HA.out.mono ?_
  rintro e w1 ⟨rfl, hb1⟩
  have hx1 := HX.out.keep hb1
  have HG := Lib.hid (great hx1.rd)
  have HX1 := Lib.hid hx1
  clear hx1
  go_wp2_with fail
  refine HG.out.mono ?_
  rintro e w2 ⟨g, rfl, hg, hb2⟩
  have hb12 := hb1.trans (hb2.mono hb1.size)
  cases g with
  | true =>
    go_wp2
    go_ret
    exact ⟨rfl, hb12⟩
  | false =>
    obtain ⟨h60, _⟩ := hg rfl
    have hx2 := HX1.out.keep hb2
    have HW := Lib.hid (whole hx2.rd)
    have HK := Lib.hid (fun (w3 : World) (h : Below w2.heap.size w2 w3) => keeps (hx2.keep h).rd (by omega))
    clear hx2 hg h60
    go_wp2_with fail
    refine HW.out.mono ?_
    rintro e w3 ⟨rfl, hb3⟩
    have hb13 := hb12.trans (hb3.mono hb12.size)
    cases hw : wholeF (es.map evo) (fun _ => 0) with
    | false =>
      go_wp2
      go_ret
      exact ⟨rfl, hb13⟩
    | true =>
      have hk := whole_keeps _ hw
      have HKK := Lib.hid hk
      clear hw hk
      go_wp2_with fail
      refine (HK.out _ hb3).mono ?_
      rintro e w4 ⟨rfl, hb4⟩
      rw [show keepsF (ptF (es.map evo)) (es.map evo) (fun _ => false) 0 = true from HKK.out]
      go_wp2
      go_ret
      exact ⟨rfl, hb13.trans (hb4.mono hb13.size)⟩
end Go.Proofs.Ytgpdkagmacpghaa.Od

/- The law OrderApart: the answers share no memory with the events. -/
import Derived.Test.YtgpdkagmacpghaaOrdRefOf
import Derived.Test.YtgpdkagmacpghaaOrdLaws
namespace Go.Proofs.Ytgpdkagmacpghaa.Od
open Go Go.RowKit Go.Proofs.Ytgpdkagmacpghaa.Gro Go.Proofs.Ytgpdkagmacpghaa.Own Go.Proofs.Ytgpdkagmacpghaa.Wd Go.Proofs.Ytgpdkagmacpghaa.Ap Go.Proofs.Ytgpdkagmacpghaa.Pl Go.Proofs.Ytgpdkagmacpghaa.Wo Go.Proofs.Ytgpdkagmacpghaa.Shp Go.Proofs.Ytgpdkagmacpghaa.Mr Go.ChangeMaps Go.Proofs.Ytgpdkagmacpghaa.Idl
set_option linter.unusedVariables false
set_option linter.unusedSimpArgs false
def opA (e : Shp.Ev) : Array Value := #[.int .i64 e.o0, .int .u64 e.o1, .int .u64 e.o2, .int .i64 e.o3, .bool e.o4, .int .i64 e.o5, .int .i64 e.o6]
theorem neq_op (e : Shp.Ev) (w : World) : (binOp .neq 37 (.agg (opA e)) (.agg (opA e))).run Try.prog w = .ok (.bool false) w := by
  unfold opA
  rw [run_neq_struct]
  go_simp
theorem guard_op (e : Shp.Ev) (x y : Operand) (w : World) : (eqGuard .neq 37 x y (.agg (opA e)) (.agg (opA e))).run Try.prog w = .ok () w := run_eqGuard_agg w .neq _ x y _ _ (by kernel_rfl)
theorem op_range {w : World} {g : Nat} {e : Shp.Ev} {y : Sl} {t : TypeId} (h : Bk w g (ac e y) t) : w.rangeAt g 0 (opA e).toList := fun j v hv => by
  rw [h.cells]
  have hj : j < 7 := (List.getElem?_eq_some_iff.1 hv).1
  rw [← hv]
  match j, hj with
  | 0, _ | 1, _ | 2, _ | 3, _ | 4, _ | 5, _ | 6, _ => rfl
set_option maxRecDepth 10000 in
set_option maxHeartbeats 4000000 in
theorem refSameA (e : Shp.Ev) (y z : Sl) (l : List Int) (w : World) (hm : l.length ≤ 1000) (hy : Reads w .u64 y.v l) (hz : Reads w .u64 z.v l) : Calls Try.prog 22 #[.agg (ac e y), .agg (ac e z)] w fun en w' => en = .returned (.bool true) ∧ Below w.heap.size w w' := by
  have X0 := (Bk.new w (ac e y) 57).alloc (.cells (ac e z) 57)
  have Y0 := Bk.new (w.alloc (.cells (ac e y) 57)) (ac e z) 57
  rw [World.size_alloc] at Y0
  have hw0 : Below w.heap.size w ((w.alloc (.cells (ac e y) 57)).alloc (.cells (ac e z) 57)) := ((Below.refl _ _).alloc (Nat.le_refl _) _).alloc (by simp) _
  have hy0 := hy.keep hw0
  have hz0 := hz.keep hw0
  obtain ⟨w0, hw0'⟩ : ∃ u, u = (w.alloc (.cells (ac e y) 57)).alloc (.cells (ac e z) 57) := ⟨_, rfl⟩
  rw [← hw0'] at X0 Y0 hw0 hy0 hz0
  have x0 := X0.cells
  have y0 := Y0.cells
  have lx := X0.lt
  have ly := Y0.lt
  have rx := op_range X0
  have ry := op_range Y0
  have f7 : ∀ s x, (ac s x)[7]? = some (.int .u64 s.t) := fun _ _ => rfl
  have f8 : ∀ s x, (ac s x)[8]? = some (.int .i64 s.rt) := fun _ _ => rfl
  have f9 : ∀ s x, (ac s x)[9]? = some (.slice x.ad x.len x.cap) := fun _ _ => rfl
  have hyl := reads_len hy
  have hzl := reads_len hz
  obtain ⟨n, hn⟩ : ∃ n, n = l.length := ⟨_, rfl⟩
  rw [← hn] at hyl hzl hm
  have tn : ((y.len : Int) != (z.len : Int)) = false := by rw [hyl, hzl]; simp
  have t7 : (e.t != e.t) = false := by simp
  have t8 : (e.rt != e.rt) = false := by simp
  have HY := Lib.hid hy0
  have HZ := Lib.hid hz0
  have HYL := Lib.hid hyl
  have HZL := Lib.hid hzl
  have HNL := Lib.hid hn
  have hne := neq_op e
  have hgu := guard_op e
  clear hy hz hy0 hz0 hyl hzl hn X0 Y0
  go_enter Try.func22, Try.ntmps22
  go_wp2_with (first | (rw [← hw0']; clear hw0'; refine wpList_load_mid_w rfl 37 _ rfl w.heap.size 0 rfl (opA e).toList _ (by exact rx) Try.underlying37 rfl (by kernel_rfl) ?_) | (refine wpList_load_mid_w rfl 37 _ rfl w.heap.size 0 rfl (opA e).toList _ (by exact rx) Try.underlying37 rfl (by kernel_rfl) ?_) | (refine wpList_load_mid_w rfl 37 _ rfl (w.heap.size + 1) 0 rfl (opA e).toList _ (by exact ry) Try.underlying37 rfl (by kernel_rfl) ?_))
  go_loopw [5] (fun i wr => ∃ k : Nat, k ≤ n ∧ i = .int .i64 k ∧ ∃ m, wr = w0.drewN m) (fun i _ => n - (intOf i).toNat)
  case atStart => exact ⟨0, Nat.zero_le _, rfl, 0, rfl⟩
  case round =>
    obtain ⟨k, hk, rfl, m, rfl⟩ := hrel
    have hsum : IntKind.i64.wrap ((k : Int) + 1) = (k : Int) + 1 := IntWalk.i64_in _ (by omega)
    by_cases hlt : k < n
    · have hkl : k < l.length := by have := HNL.out; omega
      obtain ⟨b1, o1, hya, q1⟩ := reads_at HY.out hkl
      obtain ⟨b2, o2, hza, q2⟩ := reads_at HZ.out hkl
      have hky : k < y.len := by have := HYL.out; omega
      have hkz : k < z.len := by have := HZL.out; omega
      obtain ⟨v, hv⟩ : ∃ v, v = l[k] := ⟨_, rfl⟩
      rw [← hv] at q1 q2
      have x9 := x0 9
      rw [show (ac e y)[9]? = some (.slice y.ad y.len y.cap) from rfl, hya] at x9
      have y9 := y0 9
      rw [show (ac e z)[9]? = some (.slice z.ad z.len z.cap) from rfl, hza] at y9
      have tv : (v != v) = false := by simp
      clear hv hkl
      go_wp2
      go_quiet (fail)
      go_wp2
      go_roundw
      case rel => exact ⟨k + 1, by omega, by go_num, _, rfl⟩
      case measure => simp [intOf]; omega
    · obtain rfl : k = n := by omega
      have hle : y.len ≤ k := by rw [HYL.out]; exact Nat.le_refl _
      go_wp2
      go_ret
      exact ⟨rfl, gro_drewN hw0⟩
theorem row_at {B : Nat} {w : World} {y : Sl} {O : List Ao} (h : w.ownsRow B 57 10 y.v O.length (acs O)) {i : Nat} (hi : i < O.length) : ∃ g, y.ad = some ⟨g, 0, none⟩ ∧ y.len = O.length ∧ B ≤ g ∧ g < w.heap.size ∧ w.rangeAt g (i * 10) (ac O[i].1 O[i].2.1).toList := by
  obtain ⟨g, cap, hv, hB, hg, _, _, hc⟩ := owns_cells h (by omega)
  simp only [Sl.v, Value.slice.injEq] at hv
  refine ⟨g, hv.1, hv.2.1, hB, hg, fun j v hj => ?_⟩
  have hj10 : j < 10 := (List.getElem?_eq_some_iff.1 hj).1
  rw [hc _ (by rw [acs_len]; omega), acs_get O i hi j hj10, hj]
theorem row_len {B : Nat} {w : World} {y : Sl} {O : List Ao} (h : w.ownsRow B 57 10 y.v O.length (acs O)) : y.len = O.length := by
  rcases h.2 with ⟨hv, h0⟩ | ⟨g, cap, cur, hv, _⟩
  · simp only [Sl.v, Value.slice.injEq] at hv
    omega
  · simp only [Sl.v, Value.slice.injEq] at hv
    exact hv.2.1
/-- Answers of the call's own, whatever their words and tickets have become. -/
structure WkA (B : Nat) (w : World) (g n : Nat) (ys : Nat → Sl) : Prop where
  row : B ≤ g ∧ ∃ cur, Bk w g cur 57 ∧ ∀ i, i < n → cur[i * 10 + 9]? = some (ys i).v ∧ ∃ t, cur[i * 10 + 7]? = some (.int .u64 t)
  words : ∀ i, i < n → (ys i).len = 0 ∨ ∃ b cur, (ys i).ad = some ⟨b, 0, none⟩ ∧ B ≤ b ∧ Bk w b cur 22 ∧ ∀ k, k < (ys i).len → ∃ x, cur[k]? = some (.int .u64 x)
  lens : ∀ i, i < n → (ys i).len ≤ maxLen
theorem bk_ty {w : World} {g : Nat} {c1 c2 : Array Value} {t1 t2 : TypeId} (h1 : Bk w g c1 t1) (h2 : Bk w g c2 t2) : c1 = c2 ∧ t1 = t2 := by
  have := h1.symm.trans h2
  simp only [Option.some.injEq, Obj.cells.injEq, and_true] at this
  exact this
theorem WkA.setW {B : Nat} {w : World} {g n : Nat} {ys : Nat → Sl} (h : WkA B w g n ys) {b : Nat} {cur : Array Value} (hb : Bk w b cur 22) (k : Nat) (x : Int) : WkA B (w.setCell ⟨b, k, none⟩ (.int .u64 x)) g n ys := by
  obtain ⟨⟨hB, c, hc, hr⟩, hw, hm⟩ := h
  have hne : g ≠ b := fun e => by
    subst e
    exact absurd (bk_ty hc hb).2 (by decide)
  refine ⟨⟨hB, c, hc.setCell_far (a := ⟨b, k, none⟩) hne _, hr⟩, fun i hi => ?_, hm⟩
  rcases hw i hi with h0 | ⟨b', c', ha, hB', hb', hx⟩
  · exact .inl h0
  · by_cases hbb : b' = b
    · subst hbb
      refine .inr ⟨b', _, ha, hB', hb'.setCell k _, fun j hj => ?_⟩
      rw [Array.getElem?_setIfInBounds]
      split
      · obtain ⟨x0, hx0⟩ := hx j hj
        have := (Array.getElem?_eq_some_iff.1 hx0).1
        subst_vars
        rw [if_pos this]
        exact ⟨x, rfl⟩
      · exact hx j hj
    · exact .inr ⟨b', c', ha, hB', hb'.setCell_far (a := ⟨b, k, none⟩) hbb _, hx⟩
theorem WkA.setT {B : Nat} {w : World} {g n : Nat} {ys : Nat → Sl} (h : WkA B w g n ys) (i : Nat) (x : Int) : WkA B (w.setCell ⟨g, i * 10 + 7, none⟩ (.int .u64 x)) g n ys := by
  obtain ⟨⟨hB, c, hc, hr⟩, hw, hm⟩ := h
  refine ⟨⟨hB, _, hc.setCell (i * 10 + 7) _, fun j hj => ?_⟩, fun j hj => ?_, hm⟩
  · obtain ⟨h9, t, h7⟩ := hr j hj
    rw [Array.getElem?_setIfInBounds, if_neg (by omega), Array.getElem?_setIfInBounds]
    refine ⟨h9, ?_⟩
    split
    · have := (Array.getElem?_eq_some_iff.1 h7).1
      rename_i e
      rw [e, if_pos this]
      exact ⟨x, rfl⟩
    · exact ⟨t, h7⟩
  · rcases hw j hj with h0 | ⟨b', c', ha, hB', hb', hx⟩
    · exact .inl h0
    · have hne : b' ≠ g := fun e => by
        subst e
        exact absurd (bk_ty hc hb').2 (by decide)
      exact .inr ⟨b', c', ha, hB', hb'.setCell_far (a := ⟨g, _, none⟩) hne _, hx⟩
theorem WkA.of {B : Nat} {w : World} {y : Sl} {O : List Ao} (h : AsAt B w y.v O) (h0 : 0 < O.length) : ∃ g ys, y.ad = some ⟨g, 0, none⟩ ∧ WkA B w g O.length ys := by
  rcases h.row.2 with ⟨hv, hz⟩ | ⟨g, cap, cur, hv, hB, hh, hc1, hc2, hc3, hc4⟩
  · omega
  · simp only [Sl.v, Value.slice.injEq] at hv
    refine ⟨g, fun i => (O.getD i (ez, nilS, [])).2.1, hv.1, ⟨hB, cur, hh, fun i hi => ?_⟩, fun i hi => ?_, fun i hi => ?_⟩
    · have hgd : O.getD i (ez, nilS, []) = O[i] := by rw [List.getD_eq_getElem?_getD, List.getElem?_eq_getElem hi]; rfl
      have hall : ∀ j, j < 10 → cur[i * 10 + j]? = (ac O[i].1 O[i].2.1).toList[j]? := fun j hj => by
        rw [← acs_get O i hi j hj, ← hc4, List.getElem?_take, if_pos (by omega)]
        simp
      rw [hgd]
      exact ⟨hall 9 (by omega), _, hall 7 (by omega)⟩
    · have hgd : O.getD i (ez, nilS, []) = O[i] := by rw [List.getD_eq_getElem?_getD, List.getElem?_eq_getElem hi]; rfl
      rw [hgd]
      rcases (h.own O[i] (List.getElem_mem hi)).2 with ⟨hv, hz⟩ | ⟨b, cap', c', hv, hB', hh', d1, d2, d3, d4⟩
      · simp only [Sl.v, Value.slice.injEq] at hv
        exact .inl hv.2.1
      · simp only [Sl.v, Value.slice.injEq] at hv
        refine .inr ⟨b, c', hv.1, hB', hh', fun k hk => ?_⟩
        rw [hv.2.1] at hk
        have : c'.toList[k]? = (O[i].2.2.map (Value.int .u64))[k]? := by
          rw [← d4, List.getElem?_take, if_pos (by omega)]
        refine ⟨O[i].2.2[k], ?_⟩
        rw [← Array.getElem?_toList, this]
        simp [hk]
    · have hgd : O.getD i (ez, nilS, []) = O[i] := by rw [List.getD_eq_getElem?_getD, List.getElem?_eq_getElem hi]; rfl
      rw [hgd]
      have h1 := (h.own O[i] (List.getElem_mem hi)).reads
      have h2 := reads_le h1
      omega
theorem setCell_below {B : Nat} {w w' : World} (h : Below B w w') {a : Addr} (ha : B ≤ a.block) (v : Value) : Below B w (w'.setCell a v) := h.setCell ha v
end Go.Proofs.Ytgpdkagmacpghaa.Od

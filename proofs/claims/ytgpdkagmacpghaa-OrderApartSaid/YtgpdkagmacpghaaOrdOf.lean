/- order.Of for every input: the answers of the operations in the order of their points (made by genord5.py). -/
import Derived.Test.YtgpdkagmacpghaaOrdKeepsW
import Derived.Test.YtgpdkagmacpghaaOrdCopy
import Derived.WalkMore
namespace Go.Proofs.Ytgpdkagmacpghaa.Od
open Go Go.RowKit Go.Proofs.Ytgpdkagmacpghaa.Gro Go.Proofs.Ytgpdkagmacpghaa.Own Go.Proofs.Ytgpdkagmacpghaa.Wd Go.Proofs.Ytgpdkagmacpghaa.Ap Go.Proofs.Ytgpdkagmacpghaa.Pl Go.Proofs.Ytgpdkagmacpghaa.Wo Go.Proofs.Ytgpdkagmacpghaa.Shp Go.Proofs.Ytgpdkagmacpghaa.Mr Go.ChangeMaps
set_option linter.unusedVariables false
set_option linter.unusedSimpArgs false
abbrev Ao := Shp.Ev × Sl × List Int
def acs (O : List Ao) : List Value := O.flatMap fun o => (ac o.1 o.2.1).toList
theorem acs_len : ∀ O : List Ao, (acs O).length = O.length * 10
  | [] => rfl
  | o :: r => by
    have ih := acs_len r
    unfold acs at ih ⊢
    rw [List.flatMap_cons, List.length_append, ih, List.length_cons, Nat.add_mul, Nat.one_mul, Nat.add_comm]
    rfl
theorem acs_push (O : List Ao) (o : Ao) : acs (O ++ [o]) = acs O ++ (ac o.1 o.2.1).toList := by
  unfold acs
  rw [List.flatMap_append]
  simp
/-- Answers in memory of the call's own. -/
structure AsAt (B : Nat) (w : World) (v : Value) (O : List Ao) : Prop where
  row : w.ownsRow B 57 10 v O.length (acs O)
  own : ∀ o, o ∈ O → Owned B w .u64 22 o.2.1 o.2.2
theorem AsAt.nil (B : Nat) (w : World) : AsAt B w (.slice none 0 0) [] := ⟨World.ownsRow_nil _ _ _ _, fun o h => by cases h⟩
theorem AsAt.keep {B : Nat} {w w' : World} {v : Value} {O : List Ao} (h : AsAt B w v O) (hb : Below w.heap.size w w') : AsAt B w' v O :=
  ⟨owns_below h.row hb (fun g hg => (World.ownsRow.lt h.row g hg).2), fun o ho => (h.own o ho).keep hb⟩
theorem AsAt.base {B B' : Nat} {w : World} {v : Value} {O : List Ao} (h : AsAt B w v O) (hb : B' ≤ B) : AsAt B' w v O := by
  refine ⟨⟨h.row.1, ?_⟩, fun o ho => (h.own o ho).base hb⟩
  rcases h.row.2 with h0 | ⟨g, cap, cur, he, hge, rest⟩
  · exact .inl h0
  · exact .inr ⟨g, cap, cur, he, Nat.le_trans hb hge, rest⟩
theorem AsAt.push {B : Nat} {w w' : World} {v v' : Value} {O : List Ao} (h : AsAt B w v O) (o : Ao) (ho : Owned B w .u64 22 o.2.1 o.2.2) (hr : w'.ownsRow B 57 10 v' (O.length + 1) (acs O ++ (ac o.1 o.2.1).toList))
    (hk : ∀ g cs t', t' ≠ 57 → Bk w g cs t' → Bk w' g cs t') : AsAt B w' v' (O ++ [o]) := by
  refine ⟨by rw [acs_push, List.length_append]; exact hr, fun p hp => ?_⟩
  rcases List.mem_append.1 hp with hp | hp
  · exact Owned.other (h.own p hp) (by decide) hk
  · simp only [List.mem_singleton] at hp
    subst hp
    exact Owned.other ho (by decide) hk
theorem ac_one (e : Shp.Ev) (y : Sl) : ∀ u ∈ (ac e y).toList, u.oneCell' = true := by
  intro u hu
  simp only [ac, List.mem_cons, List.not_mem_nil, or_false] at hu
  rcases hu with rfl | rfl | rfl | rfl | rfl | rfl | rfl | rfl | rfl | rfl <;> rfl
def rdF (es : List Shp.Ev) (i : Nat) : Bool := isRd (es.getD i ez)
abbrev fA (o : Ao) : Shp.Ev × List Int := (o.1, o.2.2)
def ofP (es : List Shp.Ev) (xs : List (List Int)) (n : Nat) : List (Shp.Ev × List Int) := (ofF (es.map evo) (rdF es) n).map fun i => (es.getD i ez, xs.getD i [])
theorem ofP_succ (es : List Shp.Ev) (xs : List (List Int)) (n : Nat) : ofP es xs (n + 1) = ofP es xs n ++ ((pick (es.map evo) (rdF es) n).toList.map fun i => (es.getD i ez, xs.getD i [])) := by
  unfold ofP
  rw [ofF_succ, List.map_append]
section
variable {es : List Shp.Ev} {k : Nat} (h : k < es.length)
theorem map_at : (es.map evo)[k]? = some (evo es[k]) := by simp [h]
theorem pick_kind (h1 : es[k].kd ≠ 3) : pick (es.map evo) (rdF es) k = none := by
  unfold pick
  rw [map_at h]
  simp only
  rw [if_neg]
  exact fun q => h1 q.1
theorem pick_first (p : Nat) (hp : (pl (es.map evo) 3 (es[k].wo, es[k].n) 0).head? = some p) (h1 : p ≠ k) : pick (es.map evo) (rdF es) k = none := by
  unfold pick
  rw [map_at h]
  simp only
  rw [if_neg]
  intro q
  have := q.2
  rw [fst_zero] at this
  have e := hp.symm.trans this
  simp only [Option.some.injEq] at e
  exact h1 e
theorem pick_ret (r : Nat) (h1 : es[k].kd = 3) (hp : (pl (es.map evo) 3 (es[k].wo, es[k].n) 0).head? = some k) (hr : (pl (es.map evo) 4 (es[k].wo, es[k].n) 0).find? (fun x => decide (k + 1 ≤ x)) = some r) : pick (es.map evo) (rdF es) k = some r := by
  unfold pick
  rw [map_at h]
  simp only
  rw [if_pos ⟨h1, by rw [fst_zero]; exact hp⟩]
  show (match fst (es.map evo) 4 (es[k].wo, es[k].n) (k + 1) with | some r => some r | none => if rdF es k = true then none else some k) = some r
  unfold fst
  rw [hr]
theorem pick_own (h1 : es[k].kd = 3) (hp : (pl (es.map evo) 3 (es[k].wo, es[k].n) 0).head? = some k) (hr : (pl (es.map evo) 4 (es[k].wo, es[k].n) 0).find? (fun x => decide (k + 1 ≤ x)) = none) : pick (es.map evo) (rdF es) k = if isRd es[k] = true then none else some k := by
  unfold pick
  rw [map_at h]
  simp only
  rw [if_pos ⟨h1, by rw [fst_zero]; exact hp⟩]
  show (match fst (es.map evo) 4 (es[k].wo, es[k].n) (k + 1) with | some r => some r | none => if rdF es k = true then none else some k) = _
  unfold fst
  rw [hr]
  have e : rdF es k = isRd es[k] := by
    unfold rdF
    rw [List.getD_eq_getElem?_getD, List.getElem?_eq_getElem h]
    rfl
  simp only [e]
end
theorem find_upto : ∀ (rr : List Nat) (m j : Nat), j ≤ rr.length → (∀ i (h : i < rr.length), i < j → rr[i] ≤ m) → (∀ (h : j < rr.length), m < rr[j] → rr.find? (fun x => decide (m + 1 ≤ x)) = some rr[j]) ∧ (j = rr.length → rr.find? (fun x => decide (m + 1 ≤ x)) = none)
  | [], m, j, hj, _ => ⟨fun h => by simp at h, fun _ => rfl⟩
  | a :: r, m, 0, hj, _ => by
    refine ⟨fun h hm => ?_, fun h => by simp at h⟩
    simp only [List.getElem_cons_zero] at hm ⊢
    have hp : decide (m + 1 ≤ a) = true := by simp; omega
    simp only [List.find?_cons, hp]
  | a :: r, m, j + 1, hj, hall => by
    have h0 := hall 0 (by simp) (by omega)
    simp only [List.getElem_cons_zero] at h0
    obtain ⟨i1, i2⟩ := find_upto r m j (by simpa using hj) (fun i h hi => by have := hall (i + 1) (by simpa using h) (by omega); simpa using this)
    have hn : decide (m + 1 ≤ a) = false := by simp; omega
    refine ⟨fun h hm => ?_, fun h => ?_⟩
    · simp only [List.find?_cons, hn]
      simpa using i1 (by simpa using h) (by simpa using hm)
    · simp only [List.find?_cons, hn]
      exact i2 (by simpa using h)
def OfPost (es : List Shp.Ev) (xs : List (List Int)) (w : World) (e : Ending) (w' : World) : Prop := ∃ (y : Sl) (O : List Ao), e = .returned y.v ∧ AsAt w.heap.size w' y.v O ∧ O.map fA = ofP es xs es.length ∧ Below w.heap.size w w'
theorem of_nil (ad : Option Addr) (cap : Nat) (w : World) : Calls Try.prog 20 #[.slice ad 0 cap] w (OfPost [] [] w) := by
  have HP := Lib.hid (fun kd w => places_nil ad cap kd w)
  go_enter Try.func20, Try.ntmps20
  go_wp2_with fail
  refine wp_scope_straight ?_
  go_wp2_with fail
  refine (HP.out 3 w).mono ?_
  rintro e w9 ⟨rfl, hp, hb9, hl9⟩
  go_wp2_with fail
  refine (HP.out 4 w9).mono ?_
  rintro e w0 ⟨rfl, hp1, hb8, hl8⟩
  go_wp2
  refine wp_label ?_
  go_wp2
  refine wp_loop_rounds 1 ?_
  rw [rounds_succ]
  go_wp2
  go_ret
  exact ⟨nilS, [], rfl, AsAt.nil _ _, rfl, hb9.trans (hb8.mono hb9.size)⟩
set_option maxRecDepth 10000 in
set_option maxHeartbeats 16000000 in
theorem of_pos (b off cap : Nat) (es : List Shp.Ev) (xs : List (List Int)) (w : World) (hm : es.length ≤ 100000) (hxl : xs.length = es.length) (hb : b < w.heap.size) (hr : ∀ i (h : i < es.length), w.rangeAt b (off + i * 20) (ec es[i]).toList)
    (hx : ∀ i (h : i < es.length) (h' : i < xs.length), Reads w .u64 es[i].rd.v xs[i]) (hxm : ∀ l ∈ xs, l.length ≤ 1000) :
    Calls Try.prog 20 #[.slice (some ⟨b, off, none⟩) es.length cap] w (OfPost es xs w) := by
  have HP := Lib.hid (fun (kd : Int) (w0 : World) (h : Below w.heap.size w w0) => places_pos b off cap es kd w0 (by omega) (Nat.lt_of_lt_of_le hb h.size) (fun i hi j v hv => (h.cell (p := ⟨b, _, none⟩) hb).trans (hr i hi j v hv)))
  have HR := Lib.hid hr
  have HBL := Lib.hid hb
  have HX := Lib.hid hx
  have HXM := Lib.hid hxm
  have HXL := Lib.hid hxl
  have HOP := Lib.hid (fun e w => operationOf e w)
  have HIS := Lib.hid (fun e x w => isRead e x w)
  have HCP := Lib.hid copyOf
  clear hr hb hx hxm hxl
  have f3 : ∀ s : Shp.Ev, (ec s)[3]? = some (.int .i64 s.kd) := fun _ => rfl
  go_enter Try.func20, Try.ntmps20
  go_wp2_with fail
  refine wp_scope_straight ?_
  go_wp2_with fail
  refine (HP.out 3 w (Below.refl _ _)).mono ?_
  rintro e w9 ⟨rfl, ⟨LP, hP1, hP2⟩, hb9, hl9⟩
  go_wp2_with fail
  refine (HP.out 4 w9 hb9).mono ?_
  rintro e w0 ⟨rfl, ⟨LR, hR1, hR2⟩, hb8, hl8⟩
  have HP1 := Lib.hid (mapAt_keep hP1 hb8 hl9)
  have HP2 := Lib.hid (fun o => (hP2 o).keep hb8)
  have HR1 := Lib.hid hR1
  have HR2 := Lib.hid hR2
  have hb0 := hb9.trans (hb8.mono hb9.size)
  obtain ⟨gp, hgp⟩ : ∃ g, g = w.heap.size := ⟨_, rfl⟩
  obtain ⟨gr, hgr⟩ : ∃ g, g = w9.heap.size := ⟨_, rfl⟩
  rw [← hgp] at HP1 hl9
  rw [← hgr] at HR1
  simp only [← hgp, ← hgr]
  have lgp : gp < w0.heap.size := by have := hb8.size; omega
  have lgr : gr < w0.heap.size := by omega
  have HB0 := Lib.hid hb0
  clear hP1 hP2 hR1 hR2 hb8 hb9 hl8 hl9 hgp hgr hb0
  go_wp2
  refine wp_label ?_
  go_wp2
  go_loopw [5, 17] (fun l i wr => ∃ (k : Nat) (y : Sl) (O : List Ao), k ≤ es.length ∧ l = .slice y.ad y.len y.cap ∧ i = .int .i64 k ∧ AsAt w0.heap.size wr y.v O ∧ O.map fA = ofP es xs k ∧ Below w0.heap.size w0 wr) (fun _ i _ => es.length - (intOf i).toNat)
  case atStart => exact ⟨0, nilS, [], Nat.zero_le _, rfl, rfl, AsAt.nil _ _, rfl, Below.refl _ _⟩
  case round =>
    obtain ⟨k, y, O, hk, rfl, rfl, hA, hO, hbw⟩ := hrel
    by_cases hlt : k < es.length
    · have hb0 := HB0.out
      have hbr := hb0.trans (hbw.mono hb0.size)
      have hr' : wr.rangeAt b (off + k * 20) (ec es[k]).toList := fun j v hv => (hbr.cell (p := ⟨b, _, none⟩) HBL.out).trans (HR.out k hlt j v hv)
      have hnx := ofP_succ es xs k
      rw [← hO] at hnx
      have HNX := Lib.hid hnx
      have HPK := Lib.hid (pick_kind hlt)
      have HPF := Lib.hid (pick_first hlt)
      have HPR := Lib.hid (pick_ret hlt)
      have HPO := Lib.hid (pick_own hlt)
      have hmp : es[k].kd = 3 → k ∈ pl (es.map evo) 3 (es[k].wo, es[k].n) 0 := fun h3 => mem_pl0.2 ⟨by simpa using hlt, by simpa [evo] using h3, by simp [evo]⟩
      have hsg : es.getD k ez = es[k] := by rw [List.getD_eq_getElem?_getD, List.getElem?_eq_getElem hlt]; rfl
      obtain ⟨s, hs⟩ : ∃ s, s = es[k] := ⟨_, rfl⟩
      rw [← hs] at hr' HPK HPF HPR HPO hmp hsg
      have HSG := Lib.hid hsg
      have hOl : O.length ≤ es.length := by
        have h1 := congrArg List.length hO
        have h2 := ofF_len (es.map evo) (rdF es) k
        unfold ofP at h1
        rw [List.length_map, List.length_map] at h1
        omega
      clear hs hbr hnx hO hsg hb0
      have Z := Bk.new wr (ec ez) 99
      have X := boxedE wr s
      have hb1 := boxedE_below wr s
      have sz := hbw.size
      have A1 := hA.keep hb1
      have hbw1 := hbw.trans (hb1.mono sz)
      obtain ⟨w1, hw1⟩ : ∃ u, u = (wr.alloc (.cells (ec ez) 99)).setRow wr.heap.size (ec s) := ⟨_, rfl⟩
      have sz1 := hb1.size
      rw [← hw1] at X A1 hbw1 sz1
      have lx := X.lt
      have hsum : IntKind.i64.wrap ((k : Int) + 1) = (k : Int) + 1 := IntWalk.i64_in _ (by omega)
      clear hb1 hbw hA
      obtain ⟨q, hq⟩ : ∃ q, q = (s.wo, s.n) := ⟨_, rfl⟩
      have ho := HOP.out s w1
      rw [← hq] at ho HPF HPR HPO hmp
      have HO := Lib.hid ho
      clear hq ho
      go_wp2_with (first | (refine wpList_load_mid rfl 99 _ rfl b (off + k * 20) rfl (ec s).toList _ (by exact hr') Try.underlying99 rfl (by kernel_rfl) ?_) | (refine wpList_alloc_ez rfl rfl ?_) | (refine wpList_store_row rfl 99 _ _ rfl (wr.heap.size) (ec s) rfl rfl _ _ (by exact Z) (by kernel_rfl) (by kernel_rfl) (by kernel_rfl) ?_; rw [← hw1]; clear hw1 Z) | (refine wpList_load_row rfl 99 _ rfl (wr.heap.size) rfl _ (ec s) (0, 0) _ (by exact X) Try.underlying99 rfl (by kernel_rfl) ?_))
      refine HO.out.mono ?_
      rintro e w2 ⟨rfl, hb2⟩
      have A2 := A1.keep hb2
      have hbw2 := hbw1.trans (hb2.mono hbw1.size)
      have Y2 := X.keep hb2
      have sz2 := hb2.size
      have Z2 := Bk.new w2 (oc (0, 0)) 104
      have X2 := boxedO w2 q
      have hb3 := boxedO_below w2 q
      have A3 := A2.keep hb3
      have Y3 := Y2.keep hb3
      have hbw3 := hbw2.trans (hb3.mono hbw2.size)
      have sz3 := hb3.size
      obtain ⟨w3, hw3⟩ : ∃ u, u = (w2.alloc (.cells (oc (0, 0)) 104)).setRow w2.heap.size (oc q) := ⟨_, rfl⟩
      rw [← hw3] at X2 A3 hbw3 sz3 Y3
      have y3 := Y3.cells
      have ly := Y3.lt
      clear hb2 hb3 A1 A2 hbw1 hbw2 Y2
      have sz03 := hbw3.size
      by_cases hkd : s.kd = 3
      · have tk : (s.kd != 3) = false := by simp [hkd]
        have P3 := mapAt_keep HP1.out hbw3 lgp
        have R3 := (HP2.out q).keep hbw3
        have Q3 := mapAt_keep HR1.out hbw3 lgr
        have S3 := (HR2.out q).keep hbw3
        have hmem := hmp hkd
        have HKD := Lib.hid hkd
        obtain ⟨pp, hpp⟩ : ∃ pp, pp = pl (es.map evo) 3 q 0 := ⟨_, rfl⟩
        obtain ⟨rr, hrr⟩ : ∃ rr, rr = pl (es.map evo) 4 q 0 := ⟨_, rfl⟩
        rw [← hpp] at R3 hmem HPF HPR HPO
        rw [← hrr] at S3 HPR HPO
        have hpl : ∀ p ∈ pp, p < es.length := fun p hp => by
          rw [hpp] at hp
          obtain ⟨h, _⟩ := mem_pl0.1 hp
          simpa using h
        have hrl : ∀ p ∈ rr, p < es.length := fun p hp => by
          rw [hrr] at hp
          obtain ⟨h, _⟩ := mem_pl0.1 hp
          simpa using h
        have hrn := pl_le (es.map evo) 4 q 0
        rw [← hrr, List.length_map] at hrn
        have HRL := Lib.hid hrl
        clear hpp hrr hmp hrl
        have hsr : ∃ u : Sl, vl LP q = u.v := by
          obtain ⟨ad, cap', e1, _⟩ := R3
          exact ⟨⟨ad, _, cap'⟩, e1⟩
        obtain ⟨u, hvl⟩ := hsr
        rw [hvl] at R3
        have hyl := reads_len R3
        have hsz : ∃ u : Sl, vl LR q = u.v := by
          obtain ⟨ad, cap', e1, _⟩ := S3
          exact ⟨⟨ad, _, cap'⟩, e1⟩
        obtain ⟨z, hzl⟩ := hsz
        rw [hzl] at S3
        have hzn := reads_len S3
        rw [List.length_map] at hzn
        have HS3 := Lib.hid S3
        clear S3
        cases pp with
        | nil => simp at hmem
        | cons p ps =>
          obtain ⟨yb, yo, hya, hyc⟩ := reads_at R3 (i := 0) (by simp)
          have hyp : w3.cell? ⟨yb, yo, none⟩ = some (.int .i64 (p : Int)) := by simpa using hyc
          have hpv : p < es.length := hpl p List.mem_cons_self
          have hy0 : 0 < u.len := by
            rw [hyl]
            simp
          obtain ⟨yad, yln, ycp⟩ := u
          simp only at hya
          subst hya
          simp only at hyl hy0
          clear R3 hyl hyc hpl hmem
          have hyv : vl LP q = .slice (some ⟨yb, yo, none⟩) yln ycp := hvl
          clear hvl
          by_cases hpk : p = k
          · have tp : ((p : Int) != (k : Int)) = false := by simp [hpk]
            subst hpk
            go_wp2_with (first | (refine wpList_alloc_oz rfl rfl ?_) | (refine wpList_store_row rfl 104 _ _ rfl (w2.heap.size) (oc q) rfl rfl _ _ (by exact Z2) (by kernel_rfl) (by kernel_rfl) (by kernel_rfl) ?_; rw [← hw3]; clear hw3 Z2) | (refine wpList_load_row_w rfl 104 _ rfl (w2.heap.size) rfl _ (oc q) (0, 0) _ (by exact X2) Try.underlying104 rfl (by kernel_rfl) ?_) | (refine wpList_look rfl _ _ rfl opKeys Try.underlying106 zero_ints gp LP rfl q rfl (by exact P3) ?_; rw [show (Mr.look q LP).getD (.slice none 0 0) = .slice (some ⟨yb, yo, none⟩) yln ycp from hyv]) | (refine wpList_look rfl _ _ rfl opKeys Try.underlying106 zero_ints gr LR rfl q rfl (by exact Q3) ?_; rw [show (Mr.look q LR).getD (.slice none 0 0) = .slice z.ad z.len z.cap from hzl]))
            go_loopw [5, 40] (fun l j wr2 => ∃ j' : Nat, j' ≤ rr.length ∧ l = .slice y.ad y.len y.cap ∧ j = .int .i64 j' ∧ (∀ i (h : i < rr.length), i < j' → rr[i] ≤ p) ∧ w3 = wr2) (fun _ j _ => rr.length - (intOf j).toNat)
            case atStart => exact ⟨0, Nat.zero_le _, rfl, rfl, fun i h h' => by omega, rfl⟩
            case round =>
              obtain ⟨j, hj, rfl, rfl, hall, rfl⟩ := hrel
              have hjsum : IntKind.i64.wrap ((j : Int) + 1) = (j : Int) + 1 := IntWalk.i64_in _ (by omega)
              by_cases hjl : j < rr.length
              · obtain ⟨zb, zo, hza, hzc⟩ := reads_at HS3.out (i := j) (by simpa using hjl)
                have hzp : w3.cell? ⟨zb, zo + j, none⟩ = some (.int .i64 (rr[j] : Int)) := by simpa using hzc
                have hrj := HRL.out _ (List.getElem_mem hjl)
                have hfu := (find_upto rr p j hj hall).1 hjl
                obtain ⟨r, hrv⟩ : ∃ r, r = rr[j] := ⟨_, rfl⟩
                rw [← hrv] at hzp hrj hfu
                have HRV := Lib.hid hrv
                have HALL := Lib.hid hall
                obtain ⟨zad, zln, zcp⟩ := z
                simp only at hza
                subst hza
                simp only at hzn
                have hjz : j < zln := by omega
                clear hzc hrv hall
                by_cases hgt : p < r
                · have tg : decide ((p : Int) < (r : Int)) = true := by simp [hgt]
                  have hnx := HNX.out
                  rw [HPR.out r HKD.out rfl (hfu hgt)] at hnx
                  have hb0 := HB0.out
                  have hbr := hb0.trans (hbw3.mono hb0.size)
                  have hr2 : w3.rangeAt b (off + r * 20) (ec es[r]).toList := fun j v hv => (hbr.cell (p := ⟨b, _, none⟩) HBL.out).trans (HR.out r hrj j v hv)
                  have hxr : r < xs.length := by have := HXL.out; omega
                  have hx2 := (HX.out r hrj hxr).keep hbr
                  have hx3 := HXM.out _ (List.getElem_mem hxr)
                  have e1 : es.getD r ez = es[r] := by rw [List.getD_eq_getElem?_getD, List.getElem?_eq_getElem hrj]; rfl
                  have e2 : xs.getD r [] = xs[r] := by rw [List.getD_eq_getElem?_getD, List.getElem?_eq_getElem hxr]; rfl
                  simp only [Option.toList_some, List.map_cons, List.map_nil, e1, e2] at hnx
                  obtain ⟨sr, hsr⟩ : ∃ s, s = es[r] := ⟨_, rfl⟩
                  obtain ⟨xr, hxv⟩ : ∃ x, x = xs[r] := ⟨_, rfl⟩
                  rw [← hsr, ← hxv] at hnx
                  rw [← hsr] at hr2 hx2
                  rw [← hxv] at hx2 hx3
                  have HN := Lib.hid hnx
                  have hrm := ac_mid hr2
                  clear hfu hnx e1 e2 hsr hxv HPR HPO HPF HPK HNX hbr hb0
                  go_wp2_with (refine wpList_load_mid rfl 57 _ rfl b (off + r * 20 + 4) rfl (ac sr sr.rd).toList _ (by exact hrm) Try.underlying57 rfl (by kernel_rfl) ?_)
                  refine (HCP.out sr sr.rd xr hx3 _ hx2).mono ?_
                  rintro e w4 ⟨yy, rfl, OY, hb4⟩
                  have A4 := A3.keep hb4
                  have hbw4 := hbw3.trans (hb4.mono hbw3.size)
                  have OY4 : Owned w0.heap.size w4 .u64 22 yy xr := Owned.base OY sz03
                  have sz4 := hb4.size
                  go_wp2_with (first | (refine wpList_one rfl _ rfl sr yy rfl ?_) | (at_builtin; refine append_rowT elemA rfl _ _ rfl w0.heap.size y.v O.length (acs O) rfl (A4.keep ((Below.refl _ _).alloc (Nat.le_refl _) _)).row w4.heap.size 1 _ (ac sr yy).toList rfl rfl (new_cells _ _ _) (ac_one _ _) (by decide) (by omega) (by simp; omega) ?_; intro y5 w5 R5 hb5 hk5))
                  have A6 := AsAt.push (A4.keep ((Below.refl _ _).alloc (Nat.le_refl _) (.cells (ac sr yy) 57))) (sr, yy, xr) (OY4.keep ((Below.refl _ _).alloc (Nat.le_refl _) _)) R5 hk5
                  have hbw6 := (hbw4.trans (((Below.refl _ _).alloc (Nat.le_refl _) (.cells (ac sr yy) 57) : Below w4.heap.size w4 _).mono hbw4.size)).trans hb5
                  go_roundw
                  case rel => exact ⟨p + 1, y5, O ++ [(sr, yy, xr)], by omega, rfl, by go_num, A6, by rw [List.map_append]; exact HN.out.symm, hbw6⟩
                  case measure => simp [intOf]; omega
                · have tg : decide ((p : Int) < (r : Int)) = false := by simp; omega
                  clear hfu
                  go_wp2
                  go_roundw
                  case rel =>
                    refine ⟨j + 1, by omega, rfl, by go_num, fun i h h' => ?_, by first | rfl | trivial⟩
                    by_cases hij : i < j
                    · exact HALL.out i h hij
                    · obtain rfl : i = j := by omega
                      rw [← HRV.out]
                      omega
                  case measure => simp [intOf]; omega
              · obtain rfl : j = rr.length := by omega
                have hnone := (find_upto rr p rr.length hj hall).2 rfl
                have hpk := HPO.out HKD.out rfl hnone
                have hnx := HNX.out
                rw [hpk] at hnx
                have hmid := ac_mid (bk_range Y3)
                have tj : decide ((rr.length : Int) < (z.len : Int)) = false := by rw [hzn]; simp
                clear hall hnone hpk HPR HPF HPO HPK HNX
                cases hrd : isRd s with
                | true =>
                  rw [hrd] at hnx
                  simp only [if_true, Option.toList_none, List.map_nil, List.append_nil] at hnx
                  have HN := Lib.hid hnx
                  have hi := HIS.out s s.rd w3
                  rw [hrd] at hi
                  have HI := Lib.hid hi
                  clear hnx hi hrd
                  go_wp2_with (refine wpList_load_mid rfl 57 _ rfl wr.heap.size (0 + 4) rfl (ac s s.rd).toList _ (by exact hmid) Try.underlying57 rfl (by kernel_rfl) ?_)
                  refine HI.out.mono ?_
                  rintro e w4 ⟨rfl, hb4⟩
                  have A4 := A3.keep hb4
                  have hbw4 := hbw3.trans (hb4.mono hbw3.size)
                  go_wp2
                  go_roundw
                  case rel => exact ⟨p + 1, y, O, by omega, rfl, by go_num, A4, HN.out.symm, hbw4⟩
                  case measure => simp [intOf]; omega
                | false =>
                  rw [hrd] at hnx
                  have hb0 := HB0.out
                  have hbr := hb0.trans (hbw3.mono hb0.size)
                  have hxr : p < xs.length := by have := HXL.out; omega
                  have hx2 := (HX.out p hlt hxr).keep hbr
                  have hx3 := HXM.out _ (List.getElem_mem hxr)
                  have e1 := HSG.out
                  have e0 : es.getD p ez = es[p] := by rw [List.getD_eq_getElem?_getD, List.getElem?_eq_getElem hlt]; rfl
                  rw [← e0, e1] at hx2
                  have e2 : xs.getD p [] = xs[p] := by rw [List.getD_eq_getElem?_getD, List.getElem?_eq_getElem hxr]; rfl
                  simp only [Bool.false_eq_true, if_false, Option.toList_some, List.map_cons, List.map_nil, e1, e2] at hnx
                  obtain ⟨xr, hxv⟩ : ∃ x, x = xs[p] := ⟨_, rfl⟩
                  rw [← hxv] at hnx hx2 hx3
                  have HN := Lib.hid hnx
                  have hi := HIS.out s s.rd w3
                  rw [hrd] at hi
                  have HI := Lib.hid hi
                  clear hnx hi hrd e0 e1 e2 hxv hbr hb0
                  go_wp2_with (refine wpList_load_mid rfl 57 _ rfl wr.heap.size (0 + 4) rfl (ac s s.rd).toList _ (by exact hmid) Try.underlying57 rfl (by kernel_rfl) ?_)
                  refine HI.out.mono ?_
                  rintro e w9 ⟨rfl, hb9⟩
                  have A9 := A3.keep hb9
                  have hbw9 := hbw3.trans (hb9.mono hbw3.size)
                  have hmid9 := ac_mid (bk_range (Y3.keep hb9))
                  have hx9 := hx2.keep hb9
                  have lx9 := (Y3.keep hb9).lt
                  have sz9 := hbw9.size
                  clear A3 hbw3 hb9 hx2 Y3 y3 sz03
                  go_wp2_with (refine wpList_load_mid rfl 57 _ rfl wr.heap.size (0 + 4) rfl (ac s s.rd).toList _ (by exact hmid9) Try.underlying57 rfl (by kernel_rfl) ?_)
                  refine (HCP.out s s.rd xr hx3 _ hx9).mono ?_
                  rintro e w4 ⟨yy, rfl, OY, hb4⟩
                  have A4 := A9.keep hb4
                  have hbw4 := hbw9.trans (hb4.mono hbw9.size)
                  have OY4 : Owned w0.heap.size w4 .u64 22 yy xr := Owned.base OY sz9
                  have sz4 := hb4.size
                  go_wp2_with (first | (refine wpList_one rfl _ rfl s yy rfl ?_) | (at_builtin; refine append_rowT elemA rfl _ _ rfl w0.heap.size y.v O.length (acs O) rfl (A4.keep ((Below.refl _ _).alloc (Nat.le_refl _) _)).row w4.heap.size 1 _ (ac s yy).toList rfl rfl (new_cells _ _ _) (ac_one _ _) (by decide) (by omega) (by simp; omega) ?_; intro y5 w5 R5 hb5 hk5))
                  have A6 := AsAt.push (A4.keep ((Below.refl _ _).alloc (Nat.le_refl _) (.cells (ac s yy) 57))) (s, yy, xr) (OY4.keep ((Below.refl _ _).alloc (Nat.le_refl _) _)) R5 hk5
                  have hbw6 := (hbw4.trans (((Below.refl _ _).alloc (Nat.le_refl _) (.cells (ac s yy) 57) : Below w4.heap.size w4 _).mono hbw4.size)).trans hb5
                  go_roundw
                  case rel => exact ⟨p + 1, y5, O ++ [(s, yy, xr)], by omega, rfl, by go_num, A6, by rw [List.map_append]; exact HN.out.symm, hbw6⟩
                  case measure => simp [intOf]; omega
          · have tp : ((p : Int) != (k : Int)) = true := by
              simp only [bne_iff_ne, ne_eq]
              omega
            have hnx := HNX.out
            rw [HPF.out _ rfl hpk] at hnx
            simp only [Option.toList_none, List.map_nil, List.append_nil] at hnx
            have HN := Lib.hid hnx
            clear hnx hpk HPR HPO HPF HPK HNX
            go_wp2_with (first | (refine wpList_alloc_oz rfl rfl ?_) | (refine wpList_store_row rfl 104 _ _ rfl (w2.heap.size) (oc q) rfl rfl _ _ (by exact Z2) (by kernel_rfl) (by kernel_rfl) (by kernel_rfl) ?_; rw [← hw3]; clear hw3 Z2) | (refine wpList_load_row_w rfl 104 _ rfl (w2.heap.size) rfl _ (oc q) (0, 0) _ (by exact X2) Try.underlying104 rfl (by kernel_rfl) ?_) | (refine wpList_look rfl _ _ rfl opKeys Try.underlying106 zero_ints gp LP rfl q rfl (by exact P3) ?_; rw [show (Mr.look q LP).getD (.slice none 0 0) = .slice (some ⟨yb, yo, none⟩) yln ycp from hyv]) | (refine wpList_look rfl _ _ rfl opKeys Try.underlying106 zero_ints gr LR rfl q rfl (by exact Q3) ?_; rw [show (Mr.look q LR).getD (.slice none 0 0) = .slice z.ad z.len z.cap from hzl]))
            go_roundw
            case rel => exact ⟨_ + 1, y, O, by omega, rfl, by go_num, A3, HN.out.symm, hbw3⟩
            case measure => simp [intOf]; omega
      · have tk : (s.kd != 3) = true := by simp [hkd]
        have hnx := HNX.out
        rw [HPK.out hkd] at hnx
        simp only [Option.toList_none, List.map_nil, List.append_nil] at hnx
        have HN := Lib.hid hnx
        clear hnx hkd HPR HPO HPF HPK HNX hmp
        go_wp2_with (first | (refine wpList_alloc_oz rfl rfl ?_) | (refine wpList_store_row rfl 104 _ _ rfl (w2.heap.size) (oc q) rfl rfl _ _ (by exact Z2) (by kernel_rfl) (by kernel_rfl) (by kernel_rfl) ?_; rw [← hw3]; clear hw3 Z2) | (refine wpList_load_row_w rfl 104 _ rfl (w2.heap.size) rfl _ (oc q) (0, 0) _ (by exact X2) Try.underlying104 rfl (by kernel_rfl) ?_))
        go_roundw
        case rel => exact ⟨k + 1, y, O, by omega, rfl, by go_num, A3, HN.out.symm, hbw3⟩
        case measure => simp [intOf]; omega
    · obtain rfl : k = es.length := by omega
      have hb0 := HB0.out
      go_wp2
      go_ret
      exact ⟨y, O, rfl, hA.base hb0.size, hO, hb0.trans (hbw.mono hb0.size)⟩
end Go.Proofs.Ytgpdkagmacpghaa.Od

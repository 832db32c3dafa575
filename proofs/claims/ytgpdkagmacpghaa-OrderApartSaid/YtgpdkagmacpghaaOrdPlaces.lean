/- order.placesOf for every input: where each operation has its events of a kind. -/
import Derived.Test.YtgpdkagmacpghaaOrdWhole
import Derived.Maps.AppendAt
namespace Go.Proofs.Ytgpdkagmacpghaa.Od
open Go Go.RowKit Go.Proofs.Ytgpdkagmacpghaa.Gro Go.Proofs.Ytgpdkagmacpghaa.Own Go.Proofs.Ytgpdkagmacpghaa.Wd Go.Proofs.Ytgpdkagmacpghaa.Ap Go.Proofs.Ytgpdkagmacpghaa.Pl Go.Proofs.Ytgpdkagmacpghaa.Wo Go.Proofs.Ytgpdkagmacpghaa.Shp Go.Proofs.Ytgpdkagmacpghaa.Mr Go.ChangeMaps
set_option linter.unusedVariables false
set_option linter.unusedSimpArgs false
section
variable {P : Program} {ops : Array Oper} {rest : List Oper} {o : Oper} {a : Act} {w : World} {Q : Exit → Act → World → Prop}
/-- append(v, b), v a row of the call's own: where the new row lies. -/
theorem append_at {t e : TypeId} {bytes : Nat} {k : IntKind} (E : Elem P t e 1 bytes) (hgd : o.guard = none) (s x : Operand) (ho : o.op = .call { callee := .builtin .append, args := #[s, x], argTypes := #[t, t] })
    (base : Nat) (v : Value) (n : Nat) (L : List Int) (hs : a.eval s = v) (hown : w.ownsRow base e 1 v n (L.map (.int k))) (g0 cpx : Nat) (b : Int) (hx : a.eval x = .slice (some ⟨g0, 0, none⟩) 1 cpx) (hc : w.cell? ⟨g0, 0, none⟩ = some (.int k b))
    (hn : n + 1 ≤ maxLen) (hby2 : (n + 1) * bytes ≤ 140737488355328) (hbase : base ≤ w.heap.size)
    (h : ∀ v' w', w'.ownsRow base e 1 v' (n + 1) ((L ++ [b]).map (.int k)) → w.grownBy w' v.ownBlock → (v'.ownBlock = v.ownBlock ∨ v'.ownBlock = some w.heap.size) → wpList P ops Q rest (a.put o.dst v') w') : wpList P ops Q (o :: rest) a w := by
  obtain ⟨i, z, hi, hz, hsz, hby, hzs⟩ := E.info
  refine wpList_append_own_at w hgd s x t ho base e i z 1 bytes E.under hi hz hsz hby hzs (by decide) v n _ hs hown ⟨g0, 0, none⟩ 1 cpx [.int k b] hx (by simp) (fun j u hu => ?_) (fun u hu => ?_) hn hby2 hbase (fun v' w' h2 h3 _ h4 => ?_)
  · have hj : j < 1 := by have := (List.getElem?_eq_some_iff.1 hu).1; simpa using this
    obtain rfl : j = 0 := by omega
    simp only [List.getElem?_cons_zero, Option.some.injEq] at hu
    subst hu
    exact hc
  · simp only [List.mem_singleton] at hu
    subst hu
    rfl
  · exact h v' w' (by simpa using h2) h3 h4
end
/-- What a map of rows says of an operation. -/
def vl (L : List ((Int × Int) × Value)) (o : Int × Int) : Value := (Mr.look o L).getD (.slice none 0 0)
theorem vl_upd (L : List ((Int × Int) × Value)) (o x : Int × Int) (v : Value) : vl (Mr.upd o v L) x = if x = o then v else vl L x := by
  unfold vl
  rw [look_upd]
  split <;> rfl
abbrev ni (l : List Nat) : List Int := l.map fun n : Nat => (n : Int)
/-- Rows of the call's own, all apart. -/
structure Pls (w : World) (b : Nat) (L : List ((Int × Int) × Value)) (s : List Ev) (kd : Int) (B : Nat) : Prop where
  map : MapB w b pairV L
  row : ∀ o, w.ownsRow B 3 1 (vl L o) (pl s kd o 0).length ((ni (pl s kd o 0)).map (.int .i64))
  apart : ∀ o o', o ≠ o' → ∀ g, (vl L o).ownBlock = some g → (vl L o').ownBlock ≠ some g
theorem own_block {w : World} {B : Nat} {e : TypeId} {sz : Nat} {v : Value} {n : Nat} {xs : List Value} (h : w.ownsRow B e sz v n xs) : ∀ g, v.ownBlock = some g → ∃ cur, w.heap[g]? = some (.cells cur e (0, 0)) := by
  intro g hg
  rcases h.2 with ⟨rfl, _⟩ | ⟨g', cap, cur, rfl, _, hh, _⟩
  · cases hg
  · simp only [Value.ownBlock, Option.some.injEq] at hg
    subst hg
    exact ⟨cur, hh⟩
theorem own_same {w w' : World} {B : Nat} {e : TypeId} {sz : Nat} {v : Value} {n : Nat} {xs : List Value} (h : w.ownsRow B e sz v n xs) (hs : ∀ g, v.ownBlock = some g → w'.heap[g]? = w.heap[g]?) : w'.ownsRow B e sz v n xs := by
  refine ⟨h.1, ?_⟩
  rcases h.2 with h0 | ⟨g, cap, cur, rfl, hge, hh, rest⟩
  · exact .inl h0
  · exact .inr ⟨g, cap, cur, rfl, hge, (hs g rfl).trans hh, rest⟩
theorem Pls.ne {w : World} {b : Nat} {L : List ((Int × Int) × Value)} {s : List Ev} {kd : Int} {B : Nat} (h : Pls w b L s kd B) (o : Int × Int) : ∀ g, (vl L o).ownBlock = some g → g ≠ b ∧ g < w.heap.size := by
  intro g hg
  obtain ⟨cur, hc⟩ := own_block (h.row o) g hg
  obtain ⟨es, c, hm, _⟩ := h.map
  refine ⟨fun e => ?_, (Array.getElem?_eq_some_iff.1 hc).1⟩
  subst e
  rw [hc] at hm
  cases hm
theorem Pls.keep {w w' : World} {b : Nat} {L : List ((Int × Int) × Value)} {s : List Ev} {kd : Int} {B : Nat} (h : Pls w b L s kd B) (hb : Below w.heap.size w w') : Pls w' b L s kd B :=
  ⟨h.map.of (hb.block b h.map.lt), fun o => own_same (h.row o) (fun g hg => hb.block g (h.ne o g hg).2), h.apart⟩
theorem Pls.new (w : World) (kd : Int) (B : Nat) : Pls (w.alloc (.map #[] 0)) w.heap.size [] [] kd B :=
  ⟨MapB.new w, fun o => World.ownsRow_nil _ _ _ _, fun o o' _ g hg => by cases hg⟩
theorem Pls.skip {w : World} {b : Nat} {L : List ((Int × Int) × Value)} {s : List Ev} {kd : Int} {B : Nat} (h : Pls w b L s kd B) (e : Ev) (he : e.k ≠ kd) : Pls w b L (s ++ [e]) kd B := by
  have hp : ∀ o, pl (s ++ [e]) kd o 0 = pl s kd o 0 := fun o => by rw [pl_append, if_neg (fun q => he q.1), List.append_nil]
  exact ⟨h.map, fun o => by rw [hp]; exact h.row o, h.apart⟩
theorem Pls.step {w w3 w4 : World} {b : Nat} {L : List ((Int × Int) × Value)} {s : List Ev} {kd : Int} {B : Nat} (h : Pls w b L s kd B) (e : Ev) (he : e.k = kd) (hO : Only b w w3) {v' : Value}
    (hr : w4.ownsRow B 3 1 v' ((pl s kd e.o 0).length + 1) ((ni (pl s kd e.o 0) ++ [(s.length : Int)]).map (.int .i64))) (hg : w3.grownBy w4 (vl L e.o).ownBlock) (hat : v'.ownBlock = (vl L e.o).ownBlock ∨ v'.ownBlock = some w3.heap.size)
    {es2 : Array MapEntry} {c2 : Nat} {o4 : Obj} (h4 : ∃ es c, w4.heap[b]? = some (.map es c)) (hL : es2.toList.map kv = (Mr.upd e.o v' L).map (pr pairV)) (hB : Born es2 c2) : Pls (setBlock w4 b (.map es2 c2)) b (Mr.upd e.o v' L) (s ++ [e]) kd B := by
  obtain ⟨es4, c4, h4⟩ := h4
  have hnb : ∀ g, v'.ownBlock = some g → g ≠ b := fun g hq e => by
    subst e
    obtain ⟨cur, hc⟩ := own_block hr g hq
    rw [h4] at hc
    cases hc
  refine ⟨⟨es2, c2, heap_setBlock_same h4 _, hL, hB⟩, fun o => ?_, fun o o' hoo g hq => ?_⟩
  · rw [vl_upd, pl_append]
    by_cases ho : o = e.o
    · subst ho
      rw [if_pos rfl, if_pos ⟨he, rfl⟩]
      have := own_same (w' := setBlock w4 b (.map es2 c2)) hr (fun g hq => heap_setBlock_other h4 _ (hnb g hq))
      simpa using this
    · rw [if_neg ho, if_neg (fun q => ho q.2.symm), List.append_nil]
      refine own_same (h.row o) (fun g hq => ?_)
      obtain ⟨h1, h2⟩ := h.ne o g hq
      rw [heap_setBlock_other h4 _ h1, hg.block g (by rw [hO.size]; exact h2) (fun q => h.apart o e.o ho g hq q.symm), hO.block g h1]
  · rw [vl_upd] at hq ⊢
    by_cases ho : o = e.o
    · rw [if_pos ho] at hq
      have ho' : ¬ o' = e.o := fun q => hoo (ho.trans q.symm)
      rw [if_neg ho']
      intro hq'
      rcases hat with q | q
      · rw [q] at hq
        exact h.apart o' e.o ho' g hq' hq
      · rw [q] at hq
        simp only [Option.some.injEq] at hq
        have := (h.ne o' g hq').2
        have h9 := hO.size
        omega
    · rw [if_neg ho] at hq
      by_cases ho' : o' = e.o
      · rw [if_pos ho']
        intro hq'
        rcases hat with q | q
        · rw [q] at hq'
          exact h.apart o e.o ho g hq hq'
        · rw [q] at hq'
          simp only [Option.some.injEq] at hq'
          have := (h.ne o g hq).2
          have h9 := hO.size
          omega
      · rw [if_neg ho']
        exact h.apart o o' hoo g hq
/-- A map from operations to their places. -/
def PlacesAt (w : World) (g : Nat) (s : List Ev) (kd : Int) : Prop := ∃ L, MapAt w g pairV L ∧ ∀ o, Reads w .i64 (vl L o) (ni (pl s kd o 0))
theorem PlacesAt.keep {w w' : World} {g : Nat} {s : List Ev} {kd : Int} (h : PlacesAt w g s kd) (hb : Below w.heap.size w w') : PlacesAt w' g s kd := by
  obtain ⟨L, h1, h2⟩ := h
  exact ⟨L, mapAt_keep h1 hb (mapAt_lt' h1), fun o => (h2 o).keep hb⟩
theorem Pls.at {w : World} {b : Nat} {L : List ((Int × Int) × Value)} {s : List Ev} {kd : Int} {B : Nat} (h : Pls w b L s kd B) : PlacesAt w b s kd :=
  ⟨L, h.map.at, fun o => Reads.of_own (h.row o) (by simp)⟩
theorem zero_ints (w : World) : (zeroValue 26).run Try.prog w = .ok (.slice none 0 0) w := by kernel_rfl
def PlPost (s : List Ev) (kd : Int) (w : World) (e : Ending) (w' : World) : Prop := e = .returned (.map (some w.heap.size)) ∧ PlacesAt w' w.heap.size s kd ∧ Below w.heap.size w w' ∧ w.heap.size < w'.heap.size
theorem places_nil (ad : Option Addr) (cap : Nat) (kd : Int) (w : World) : Calls Try.prog 53 #[.slice ad 0 cap, .int .i64 kd] w (PlPost [] kd w) := by
  have hmm := @run_makeMap Try.prog
  go_enter Try.func53, Try.ntmps53
  go_wp2
  refine wp_loop_rounds 1 ?_
  rw [rounds_succ]
  go_wp2
  go_ret
  exact ⟨rfl, (Pls.new w kd w.heap.size).at, (Below.refl _ _).alloc (Nat.le_refl _) _, by simp⟩
theorem take_evo (es : List Shp.Ev) (k : Nat) (h : k < es.length) : (es.take (k + 1)).map evo = (es.take k).map evo ++ [evo es[k]] := by
  rw [List.take_succ_eq_append_getElem h, List.map_append]
  rfl
theorem pl_le : ∀ (s : List Ev) (kd : Int) (o : Int × Int) (i : Nat), (pl s kd o i).length ≤ s.length
  | [], _, _, _ => Nat.le_refl _
  | e :: r, kd, o, i => by
    have := pl_le r kd o (i + 1)
    rw [pl]
    split <;> simp only [List.length_cons] <;> omega
set_option maxRecDepth 10000 in
set_option maxHeartbeats 4000000 in
theorem places_pos (b off cap : Nat) (es : List Shp.Ev) (kd : Int) (w : World) (hm : es.length ≤ 1000000) (hb : b < w.heap.size) (hr : ∀ i (h : i < es.length), w.rangeAt b (off + i * 20) (ec es[i]).toList) :
    Calls Try.prog 53 #[.slice (some ⟨b, off, none⟩) es.length cap, .int .i64 kd] w (PlPost (es.map evo) kd w) := by
  have HR := Lib.hid hr
  have HBL := Lib.hid hb
  have HOP := Lib.hid (fun e w => operationOf e w)
  clear hr hb
  have f3 : ∀ s : Shp.Ev, (ec s)[3]? = some (.int .i64 s.kd) := fun _ => rfl
  have hmm := @run_makeMap Try.prog
  go_enter Try.func53, Try.ntmps53
  go_wp2
  go_loopw [12] (fun i wr => ∃ (k : Nat) (L : List ((Int × Int) × Value)), k ≤ es.length ∧ i = .int .i64 k ∧ Pls wr w.heap.size L ((es.take k).map evo) kd w.heap.size ∧ Below w.heap.size w wr ∧ w.heap.size < wr.heap.size) (fun i _ => es.length - (intOf i).toNat)
  case atStart => exact ⟨0, [], Nat.zero_le _, rfl, Pls.new w kd w.heap.size, (Below.refl _ _).alloc (Nat.le_refl _) _, by simp⟩
  case round =>
    obtain ⟨k, L, hk, rfl, hM, hbw, hlw⟩ := hrel
    by_cases hlt : k < es.length
    · have hr' : wr.rangeAt b (off + k * 20) (ec es[k]).toList := fun j v hv => (hbw.cell (p := ⟨b, _, none⟩) HBL.out).trans (HR.out k hlt j v hv)
      have htk := take_evo es k hlt
      have hsl : ((es.take k).map evo).length = k := by rw [List.length_map, List.length_take]; omega
      obtain ⟨s, hs⟩ : ∃ s, s = es[k] := ⟨_, rfl⟩
      obtain ⟨T, hT⟩ : ∃ T, T = (es.take k).map evo := ⟨_, rfl⟩
      rw [← hs] at hr' htk
      rw [← hT] at htk hM hsl
      have HTK := Lib.hid htk
      clear hs hT htk
      have Z := Bk.new wr (ec ez) 99
      have X := boxedE wr s
      have hb1 := boxedE_below wr s
      have sz := hbw.size
      have M1 := hM.keep hb1
      have hbw1 := hbw.trans (hb1.mono sz)
      obtain ⟨w1, hw1⟩ : ∃ u, u = (wr.alloc (.cells (ec ez) 99)).setRow wr.heap.size (ec s) := ⟨_, rfl⟩
      have sz1 := hb1.size
      rw [← hw1] at X M1 hbw1 sz1
      have x1 := X.cells
      have lx := X.lt
      have hsum : IntKind.i64.wrap ((k : Int) + 1) = (k : Int) + 1 := IntWalk.i64_in _ (by omega)
      have HSL := Lib.hid hsl
      clear hb1 hbw hM hsl
      by_cases hkd : s.kd = kd
      · have tk : (s.kd == kd) = true := by simp [hkd]
        have HKD := Lib.hid hkd
        have ho := HOP.out s w1
        obtain ⟨q, hq⟩ : ∃ q, q = (s.wo, s.n) := ⟨_, rfl⟩
        rw [← hq] at ho
        have HO := Lib.hid ho
        have HQ := Lib.hid hq
        clear hkd ho hq
        go_wp2_with (first | (refine wpList_load_mid rfl 99 _ rfl b (off + k * 20) rfl (ec s).toList _ (by exact hr') Try.underlying99 rfl (by kernel_rfl) ?_) | (refine wpList_alloc_ez rfl rfl ?_) | (refine wpList_store_row rfl 99 _ _ rfl (wr.heap.size) (ec s) rfl rfl _ _ (by exact Z) (by kernel_rfl) (by kernel_rfl) (by kernel_rfl) ?_; rw [← hw1]; clear hw1 Z) | (refine wpList_load_row rfl 99 _ rfl (wr.heap.size) rfl _ (ec s) (0, 0) _ (by exact X) Try.underlying99 rfl (by kernel_rfl) ?_))
        refine HO.out.mono ?_
        rintro e w2 ⟨rfl, hb2⟩
        have M2 := M1.keep hb2
        have hbw2 := hbw1.trans (hb2.mono hbw1.size)
        have Z2 := Bk.new w2 (oc (0, 0)) 104
        have X2 := boxedO w2 q
        have hb3 := boxedO_below w2 q
        have M3 := M2.keep hb3
        have hbw3 := hbw2.trans (hb3.mono hbw2.size)
        have sz2 := hb2.size
        have sz3 := hb3.size
        obtain ⟨w3, hw3⟩ : ∃ u, u = (w2.alloc (.cells (oc (0, 0)) 104)).setRow w2.heap.size (oc q) := ⟨_, rfl⟩
        rw [← hw3] at X2 M3 hbw3 sz3
        clear hb2 hb3 M1 M2 hbw1 hbw2
        have M4 := M3.keep ((Below.refl _ _).alloc (Nat.le_refl _) (.cells #[.int .i64 (k : Int)] 3))
        have C4 : (w3.alloc (.cells #[.int .i64 (k : Int)] 3)).cell? ⟨w3.heap.size, 0, none⟩ = some (.int .i64 (k : Int)) := by
          rw [cell_of_row _ _ _ #[.int .i64 (k : Int)] 3 (0, 0) (heap_alloc_new w3 _)]
          rfl
        have hbw4 := hbw3.trans (((Below.refl _ _).alloc (Nat.le_refl _) (.cells #[.int .i64 (k : Int)] 3) : Below w3.heap.size w3 _).mono hbw3.size)
        have hlw3 : w.heap.size < w3.heap.size := (by omega)
        have hpl : (pl T kd q 0).length ≤ 1000000 := by
          have := pl_le T kd q 0
          have h9 := HSL.out
          omega
        have he3 : (w3.alloc (.cells #[.int .i64 (k : Int)] 3)).heap.size = w3.heap.size + 1 := by simp
        obtain ⟨w4, hw4⟩ : ∃ u, u = w3.alloc (.cells #[.int .i64 (k : Int)] 3) := ⟨_, rfl⟩
        rw [← hw4] at M4 C4 hbw4 he3
        clear M3 hbw3
        go_wp2_with (first | (refine wpList_alloc_oz rfl rfl ?_) | (refine wpList_store_row rfl 104 _ _ rfl (w2.heap.size) (oc q) rfl rfl _ _ (by exact Z2) (by kernel_rfl) (by kernel_rfl) (by kernel_rfl) ?_; rw [← hw3]; clear hw3 Z2) | (refine wpList_load_row rfl 104 _ rfl (w2.heap.size) rfl _ (oc q) (0, 0) _ (by exact X2) Try.underlying104 rfl (by kernel_rfl) ?_) | (rw [← hw4]; clear hw4; refine wpList_entry rfl _ _ rfl opKeys Try.underlying106 zero_ints w.heap.size L rfl q rfl M4.map ?_; intro st w5 es1 c1 O5 hst hb5; have R5 := own_same (M4.row q) (fun g hg => O5.block g (M4.ne q g hg).1); have C5 := (World.cell?_of_block (a := ⟨w3.heap.size, 0, none⟩) (O5.block w3.heap.size (by omega))).trans C4; have hbw5 := hbw4.trans (O5.below (B := w.heap.size) (Nat.le_refl _)); have s5 := O5.size) | (at_builtin; refine append_at elemI rfl _ _ rfl w.heap.size (vl L q) _ (ni (pl T kd q 0)) rfl R5 w3.heap.size _ (k : Int) rfl C5 (by unfold maxLen; omega) (by omega) (by omega) ?_; intro v6 w6 R6 G6 A6; have hb6 := (G6.block w.heap.size (by omega) (fun e => (M4.ne q _ e.symm).1 rfl)).trans hb5; have hbw6 := hbw5.trans (below_of_grown R5 (by omega) G6); have s6 := G6.size; obtain ⟨es2, c2, hr6, hL6, hB6⟩ := hst w6 v6 hb6) | (refine wpList_entryStore rfl _ _ _ rfl w.heap.size rfl st rfl v6 rfl es2 c2 hr6 ?_))
        go_roundw
        case rel =>
          have heq : evo s = ⟨q, s.kd⟩ := by rw [HQ.out]; rfl
          have hstep := Pls.step (e := ⟨q, s.kd⟩) M4 HKD.out O5 (by rw [HSL.out]; exact R6) G6 A6 ⟨_, _, hb6⟩ hL6 hB6 (o4 := .map es1 c1)
          refine ⟨k + 1, Mr.upd q v6 L, by omega, by go_num, ?_, hbw6.trans ((Only.of_set hb6 _).below (Nat.le_refl _)), ?_⟩
          · rw [HTK.out, heq]
            exact hstep
          · simp [setBlock]
            omega
        case measure => simp [intOf]; omega
      · have tk : (s.kd == kd) = false := by simp [hkd]
        have M2 := M1.skip (evo s) hkd
        rw [← HTK.out] at M2
        clear hkd M1
        go_wp2_with (first | (refine wpList_load_mid rfl 99 _ rfl b (off + k * 20) rfl (ec s).toList _ (by exact hr') Try.underlying99 rfl (by kernel_rfl) ?_) | (refine wpList_alloc_ez rfl rfl ?_) | (refine wpList_store_row rfl 99 _ _ rfl (wr.heap.size) (ec s) rfl rfl _ _ (by exact Z) (by kernel_rfl) (by kernel_rfl) (by kernel_rfl) ?_; rw [← hw1]; clear hw1 Z))
        go_roundw
        case rel => exact ⟨k + 1, L, by omega, by go_num, M2, hbw1, by omega⟩
        case measure => simp [intOf]; omega
    · obtain rfl : k = es.length := by omega
      rw [List.take_length] at hM
      go_wp2
      go_ret
      exact ⟨rfl, hM.at, hbw, hlw⟩
theorem placesOf {es : List Shp.Ev} {v : Value} {w : World} (h : EReads w v es) (hm : es.length ≤ 1000000) (kd : Int) : Calls Try.prog 53 #[v, .int .i64 kd] w (PlPost (es.map evo) kd w) := by
  obtain ⟨ad, cap, rfl, h1, h2, h3⟩ := h
  rcases h3 with rfl | ⟨b, off, rfl, hb, hc⟩
  · exact places_nil ad cap kd w
  · exact places_pos b off cap es kd w hm hb hc
end Go.Proofs.Ytgpdkagmacpghaa.Od

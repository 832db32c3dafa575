/- rack.Copy of lists of any size that can be read. -/
import Derived.Test.YtblkfbbdeodpjaaWorks
namespace Go.Proofs.Ytblkfbbdeodpjaa.Wo
open Go Go.RowKit Go.Proofs.Ytblkfbbdeodpjaa.Gro Go.Proofs.Ytblkfbbdeodpjaa.Own Go.Proofs.Ytblkfbbdeodpjaa.Wd Go.Proofs.Ytblkfbbdeodpjaa.Ap
set_option linter.unusedVariables false
set_option linter.unusedSimpArgs false
def bigN : Nat := 17592186043904
theorem make_rowB {P : Program} {ops : Array Oper} {rest : List Oper} {o : Oper} {a : Act} {w : World} {Q : Exit → Act → World → Prop} {t e : TypeId} {bytes : Nat} {k : IntKind}
    (E : P.underlying t = some (.slice e)) (hE : ∃ i, P.info? e = some i ∧ i.zero = some (.int k 0) ∧ i.size = 1 ∧ i.bytes = bytes) (hby : bytes = 8) (hg : o.guard = none) (l c : Operand) (ho : o.op = .makeSlice t l c)
    (n : Nat) (hl : a.eval l = .int .i64 (n : Int)) (hc : a.eval c = .int .i64 (n : Int)) (hn : n ≤ bigN)
    (h : wpList P ops Q rest (a.put o.dst (.slice (some ⟨w.heap.size, 0, none⟩) n n)) (w.alloc (.cells (iv k (List.replicate n 0)) e))) : wpList P ops Q (o :: rest) a w := by
  obtain ⟨i, hi, hz, hs, hb⟩ := hE
  have hr := run_make (P := P) w t e i (.int k 0) E hi hz .i64 .i64 (n : Int) (n : Int) (by omega) (Int.le_refl _) (by
    rw [hb, hby]
    unfold bigN at hn
    omega) (by unfold bigN at hn; omega)
  simp only [Int.toNat_natCast, hs, Nat.mul_one] at hr
  have hm : madeCells (Value.cells (.int k 0)) n = iv k (List.replicate n 0) := by
    rw [iv_replicate]
    apply Array.ext
    · simp [madeCells]
    · intro j h1 h2
      simp [madeCells, Value.cells, Nat.mod_one]
  rw [hm] at hr
  refine wpList_plain hg fun K hK' => ?_
  unfold Oper.wp
  simp [execOp, ho, hl, hc, hr, Result.andThen]
  exact hK' _ _ h
set_option maxRecDepth 10000 in
theorem fresh_int_posB (b off n c : Nat) (l : List Int) (hn : n = l.length) (h0 : 0 < n) (hm : n ≤ bigN) (w : World) (hb : b < w.heap.size) (hc : ∀ i (h : i < l.length), w.cell? ⟨b, off + i, none⟩ = some (.int .i64 l[i])) :
    Calls Try.prog 111 #[.slice (some ⟨b, off, none⟩) n c] w fun e w' => e = .returned (.slice (some ⟨w.heap.size, 0, none⟩) n n) ∧ Bk w' w.heap.size (iv .i64 l) 3 ∧ Below w.heap.size w w' := by
  have HN := Lib.hid hn
  have HBN := Lib.hid hm
  clear hm
  have HC := Lib.hid hc
  have hl : (l.map (Value.int .i64)).length = Nat.min n n := by simp [hn]
  have hf : 0 + (l.map (Value.int .i64)).length ≤ (iv .i64 (List.replicate n 0)).size := by simp [hn, iv]
  have HL := Lib.hid hl
  have HF := Lib.hid hf
  have hcp := copied .i64 l n hn
  have HCP := Lib.hid hcp
  have hsz : (Try.prog.info? 3).map (·.size) = some 1 := by kernel_rfl
  have HSZ := Lib.hid hsz
  clear hn hc hl hf hcp hsz
  go_enter Try.func111, Try.ntmps111
  go_wp2_with (first | (refine make_rowB Try.underlying28 infoI rfl rfl _ _ rfl n rfl rfl (by exact HBN.out) ?_) | (refine wpList_copy_own (o := ⟨some 12, _, _, _, _, _⟩) rfl (.tmp 10) (.tmp 11) 28 28 rfl 3 Try.underlying28 HSZ.out w.heap.size 0 n n ⟨b, off, none⟩ n c rfl rfl (iv .i64 (List.replicate n 0)) 3 (heap_alloc_new _ _) (l.map (Value.int .i64)) HL.out (srcs fun i h => (Below.cell (p := ⟨b, off + i, none⟩) (((Below.refl w.heap.size w).alloc (Nat.le_refl _) _)) hb).trans (HC.out i h)) HF.out ones1 ?_; rw [HCP.out]))
  go_ret
  exact ⟨rfl, (Bk.new w (iv .i64 (List.replicate n 0)) 3).setRow _, below_setRow ((Below.refl _ _).alloc (Nat.le_refl _) _) (Nat.le_refl _) _⟩
theorem fresh_intB {w : World} {x : Sl} {l : List Int} (h : Reads w .i64 x.v l) (hm : l.length ≤ bigN) : Calls Try.prog 111 #[x.v] w fun e w' => ∃ y : Sl, e = .returned y.v ∧ Fresh w.heap.size w' .i64 3 y l ∧ Below w.heap.size w w' := by
  obtain ⟨ad, cap, he, h1, h2, h3⟩ := h
  rw [he]
  rcases h3 with rfl | ⟨b, off, rfl, hb, hc⟩
  · exact (fresh_int_nil ad cap w).mono fun e w' ⟨h1, h2⟩ => ⟨nilS, h1, ⟨rfl, World.ownsRow_nil _ _ _ _⟩, h2⟩
  · by_cases h0 : l.length = 0
    · obtain rfl : l = [] := List.eq_nil_of_length_eq_zero h0
      exact (fresh_int_nil _ cap w).mono fun e w' ⟨h1, h2⟩ => ⟨nilS, h1, ⟨rfl, World.ownsRow_nil _ _ _ _⟩, h2⟩
    · refine (fresh_int_posB b off l.length cap l rfl (by omega) hm w hb hc).mono fun e w' ⟨h1, h2, h3⟩ => ⟨⟨some ⟨w.heap.size, 0, none⟩, l.length, l.length⟩, h1, ⟨rfl, ?_⟩, h3⟩
      refine ⟨by simp, .inr ⟨w.heap.size, l.length, iv .i64 l, rfl, Nat.le_refl _, h2, Nat.le_refl _, by unfold maxLen; unfold bigN at hm; omega, by simp [iv], by rw [iv_toList, Nat.mul_one]; exact List.take_of_length_le (by simp)⟩⟩
set_option maxRecDepth 10000 in
theorem fresh_word_posB (b off n c : Nat) (l : List Int) (hn : n = l.length) (h0 : 0 < n) (hm : n ≤ bigN) (w : World) (hb : b < w.heap.size) (hc : ∀ i (h : i < l.length), w.cell? ⟨b, off + i, none⟩ = some (.int .u64 l[i])) :
    Calls Try.prog 112 #[.slice (some ⟨b, off, none⟩) n c] w fun e w' => e = .returned (.slice (some ⟨w.heap.size, 0, none⟩) n n) ∧ Bk w' w.heap.size (iv .u64 l) 22 ∧ Below w.heap.size w w' := by
  have HN := Lib.hid hn
  have HBN := Lib.hid hm
  clear hm
  have HC := Lib.hid hc
  have hl : (l.map (Value.int .u64)).length = Nat.min n n := by simp [hn]
  have hf : 0 + (l.map (Value.int .u64)).length ≤ (iv .u64 (List.replicate n 0)).size := by simp [hn, iv]
  have HL := Lib.hid hl
  have HF := Lib.hid hf
  have hcp := copied .u64 l n hn
  have HCP := Lib.hid hcp
  have hsz : (Try.prog.info? 22).map (·.size) = some 1 := by kernel_rfl
  have HSZ := Lib.hid hsz
  clear hn hc hl hf hcp hsz
  go_enter Try.func112, Try.ntmps112
  go_wp2_with (first | (refine make_rowB Try.underlying25 infoU rfl rfl _ _ rfl n rfl rfl (by exact HBN.out) ?_) | (refine wpList_copy_own (o := ⟨some 12, _, _, _, _, _⟩) rfl (.tmp 10) (.tmp 11) 25 25 rfl 22 Try.underlying25 HSZ.out w.heap.size 0 n n ⟨b, off, none⟩ n c rfl rfl (iv .u64 (List.replicate n 0)) 22 (heap_alloc_new _ _) (l.map (Value.int .u64)) HL.out (srcs fun i h => (Below.cell (p := ⟨b, off + i, none⟩) (((Below.refl w.heap.size w).alloc (Nat.le_refl _) _)) hb).trans (HC.out i h)) HF.out ones1 ?_; rw [HCP.out]))
  go_ret
  exact ⟨rfl, (Bk.new w (iv .u64 (List.replicate n 0)) 22).setRow _, below_setRow ((Below.refl _ _).alloc (Nat.le_refl _) _) (Nat.le_refl _) _⟩
theorem fresh_wordB {w : World} {x : Sl} {l : List Int} (h : Reads w .u64 x.v l) (hm : l.length ≤ bigN) : Calls Try.prog 112 #[x.v] w fun e w' => ∃ y : Sl, e = .returned y.v ∧ Fresh w.heap.size w' .u64 22 y l ∧ Below w.heap.size w w' := by
  obtain ⟨ad, cap, he, h1, h2, h3⟩ := h
  rw [he]
  rcases h3 with rfl | ⟨b, off, rfl, hb, hc⟩
  · exact (fresh_word_nil ad cap w).mono fun e w' ⟨h1, h2⟩ => ⟨nilS, h1, ⟨rfl, World.ownsRow_nil _ _ _ _⟩, h2⟩
  · by_cases h0 : l.length = 0
    · obtain rfl : l = [] := List.eq_nil_of_length_eq_zero h0
      exact (fresh_word_nil _ cap w).mono fun e w' ⟨h1, h2⟩ => ⟨nilS, h1, ⟨rfl, World.ownsRow_nil _ _ _ _⟩, h2⟩
    · refine (fresh_word_posB b off l.length cap l rfl (by omega) hm w hb hc).mono fun e w' ⟨h1, h2, h3⟩ => ⟨⟨some ⟨w.heap.size, 0, none⟩, l.length, l.length⟩, h1, ⟨rfl, ?_⟩, h3⟩
      refine ⟨by simp, .inr ⟨w.heap.size, l.length, iv .u64 l, rfl, Nat.le_refl _, h2, Nat.le_refl _, by unfold maxLen; unfold bigN at hm; omega, by simp [iv], by rw [iv_toList, Nat.mul_one]; exact List.take_of_length_le (by simp)⟩⟩
set_option maxHeartbeats 1000000 in
theorem copyWorkB (s : Wk) (x : St) (hx : Few bigN x) (w : World) (h : Lies w s x) :
    Calls Try.prog 70 #[wv s] w fun e w' => ∃ s', e = .returned (wv s') ∧ Anew w.heap.size w' s' x ∧ Below w.heap.size w w' := by
  have e10 : ∀ s : Wk, (wc s)[10]? = some s.rk.v := fun _ => rfl
  have e12 : ∀ s : Wk, (wc s)[12]? = some s.l0.v := fun _ => rfl
  have e14 : ∀ s : Wk, (wc s)[14]? = some s.l1.v := fun _ => rfl
  have e16 : ∀ s : Wk, (wc s)[16]? = some s.l2.v := fun _ => rfl
  have e17 : ∀ s : Wk, (wc s)[17]? = some s.hl.v := fun _ => rfl
  have e29 : ∀ s : Wk, (wc s)[29]? = some s.rd.v := fun _ => rfl
  have T0 := Two.start w s
  go_enter Try.func70, Try.ntmps70
  go_wp2_with fail
  refine (fresh_intB (h.keep T0.below).rk hx.rk).mono ?_
  rintro e v1 ⟨y1, rfl, f1, hb1⟩
  have U1 := T0.keep hb1
  have b1 := T0.lt
  have F1 := (f1.base (B' := w.heap.size + 2) (by omega)).setCell (g := w.heap.size) (by omega) 10 y1.v
  have T1 := U1.setX 10 y1.v { s with rk := y1 } (set_rk _ _)
  have x1 := U1.X.cells
  have z1 := U1.X.frozen
  clear f1 hb1 T0
  go_wp2_with fail
  generalize v1.setCell ⟨w.heap.size, 10, none⟩ y1.v = w1 at *
  clear x1 z1 U1
  refine (fresh_intB (h.keep T1.below).hl hx.hl).mono ?_
  rintro e v2 ⟨y2, rfl, f2, hb2⟩
  have U2 := T1.keep hb2
  have b2 := T1.lt
  have F2 := (f2.base (B' := w.heap.size + 2) (by omega)).setCell (g := w.heap.size) (by omega) 17 y2.v
  have F1 := (F1.keep hb2).setCell (g := w.heap.size) (by omega) 17 y2.v
  have T2 := U2.setX 17 y2.v { s with rk := y1, hl := y2 } (set_hl _ _)
  have x2 := U2.X.cells
  have z2 := U2.X.frozen
  clear f2 hb2 T1
  go_wp2_with fail
  generalize v2.setCell ⟨w.heap.size, 17, none⟩ y2.v = w2 at *
  clear x2 z2 U2
  refine (fresh_wordB (h.keep T2.below).rd hx.rd).mono ?_
  rintro e v3 ⟨y3, rfl, f3, hb3⟩
  have U3 := T2.keep hb3
  have b3 := T2.lt
  have F3 := (f3.base (B' := w.heap.size + 2) (by omega)).setCell (g := w.heap.size) (by omega) 29 y3.v
  have F1 := (F1.keep hb3).setCell (g := w.heap.size) (by omega) 29 y3.v
  have F2 := (F2.keep hb3).setCell (g := w.heap.size) (by omega) 29 y3.v
  have T3 := U3.setX 29 y3.v { s with rk := y1, hl := y2, rd := y3 } (set_rd _ _)
  have x3 := U3.X.cells
  have z3 := U3.X.frozen
  clear f3 hb3 T2
  go_wp2_with fail
  refine wp_loop_rounds 4 ?_
  rw [rounds_succ]
  go_wp2_with fail
  generalize v3.setCell ⟨w.heap.size, 29, none⟩ y3.v = w3 at *
  clear x3 z3 U3
  refine (fresh_intB (h.keep T3.below).l0 hx.l0).mono ?_
  rintro e v4 ⟨y4, rfl, f4, hb4⟩
  have U4 := T3.keep hb4
  have b4 := T3.lt
  have F4 := (f4.base (B' := w.heap.size + 2) (by omega)).setCell (g := w.heap.size) (by omega) 12 y4.v
  have F1 := (F1.keep hb4).setCell (g := w.heap.size) (by omega) 12 y4.v
  have F2 := (F2.keep hb4).setCell (g := w.heap.size) (by omega) 12 y4.v
  have F3 := (F3.keep hb4).setCell (g := w.heap.size) (by omega) 12 y4.v
  have T4 := U4.setX 12 y4.v { s with rk := y1, hl := y2, rd := y3, l0 := y4 } (set_l0 _ _)
  have x4 := U4.X.cells
  have z4 := U4.X.frozen
  clear f4 hb4 T3
  go_wp2_with fail
  rw [rounds_succ]
  go_wp2_with fail
  generalize v4.setCell ⟨w.heap.size, 12, none⟩ y4.v = w4 at *
  clear x4 z4 U4
  refine (fresh_intB (h.keep T4.below).l1 hx.l1).mono ?_
  rintro e v5 ⟨y5, rfl, f5, hb5⟩
  have U5 := T4.keep hb5
  have b5 := T4.lt
  have F5 := (f5.base (B' := w.heap.size + 2) (by omega)).setCell (g := w.heap.size) (by omega) 14 y5.v
  have F1 := (F1.keep hb5).setCell (g := w.heap.size) (by omega) 14 y5.v
  have F2 := (F2.keep hb5).setCell (g := w.heap.size) (by omega) 14 y5.v
  have F3 := (F3.keep hb5).setCell (g := w.heap.size) (by omega) 14 y5.v
  have F4 := (F4.keep hb5).setCell (g := w.heap.size) (by omega) 14 y5.v
  have T5 := U5.setX 14 y5.v { s with rk := y1, hl := y2, rd := y3, l0 := y4, l1 := y5 } (set_l1 _ _)
  have x5 := U5.X.cells
  have z5 := U5.X.frozen
  clear f5 hb5 T4
  go_wp2_with fail
  rw [rounds_succ]
  go_wp2_with fail
  generalize v5.setCell ⟨w.heap.size, 14, none⟩ y5.v = w5 at *
  clear x5 z5 U5
  refine (fresh_intB (h.keep T5.below).l2 hx.l2).mono ?_
  rintro e v6 ⟨y6, rfl, f6, hb6⟩
  have U6 := T5.keep hb6
  have b6 := T5.lt
  have F6 := (f6.base (B' := w.heap.size + 2) (by omega)).setCell (g := w.heap.size) (by omega) 16 y6.v
  have F1 := (F1.keep hb6).setCell (g := w.heap.size) (by omega) 16 y6.v
  have F2 := (F2.keep hb6).setCell (g := w.heap.size) (by omega) 16 y6.v
  have F3 := (F3.keep hb6).setCell (g := w.heap.size) (by omega) 16 y6.v
  have F4 := (F4.keep hb6).setCell (g := w.heap.size) (by omega) 16 y6.v
  have F5 := (F5.keep hb6).setCell (g := w.heap.size) (by omega) 16 y6.v
  have T6 := U6.setX 16 y6.v { s with rk := y1, hl := y2, rd := y3, l0 := y4, l1 := y5, l2 := y6 } (set_l2 _ _)
  have x6 := U6.X.cells
  have z6 := U6.X.frozen
  clear f6 hb6 T5
  go_wp2_with fail
  rw [rounds_succ]
  go_wp2_with (first | (refine wpList_load_row rfl _ _ rfl w.heap.size rfl _ (wc { s with rk := y1, hl := y2, rd := y3, l0 := y4, l1 := y5, l2 := y6 }) (0, 0) _ T6.X Try.underlying46 rfl (by kernel_rfl) ?_) | (refine wpList_store_row rfl _ _ _ rfl (w.heap.size + 1) (wc { s with rk := y1, hl := y2, rd := y3, l0 := y4, l1 := y5, l2 := y6 }) rfl rfl _ _ T6.Z (by kernel_rfl) (by kernel_rfl) (by kernel_rfl) ?_))
  have T7 := T6.rowZ { s with rk := y1, hl := y2, rd := y3, l0 := y4, l1 := y5, l2 := y6 }
  refine bodyPost_ret (v := wv { s with rk := y1, hl := y2, rd := y3, l0 := y4, l1 := y5, l2 := y6 }) ?_ rfl ⟨_, rfl, ⟨h.p, ?_, ?_, ?_, ?_, ?_, ?_⟩, T7.below⟩
  · exact results_cell_row (p := 2) (ty := 46) Try.results70 _ _ (w.heap.size + 1) 46 _ (0, 0) _ rfl T7.Z Try.underlying46 rfl (by kernel_rfl)
  · exact (F1.setRow (by omega) _).base (by omega)
  · exact (F4.setRow (by omega) _).base (by omega)
  · exact (F5.setRow (by omega) _).base (by omega)
  · exact (F6.setRow (by omega) _).base (by omega)
  · exact (F2.setRow (by omega) _).base (by omega)
  · exact (F3.setRow (by omega) _).base (by omega)
end Go.Proofs.Ytblkfbbdeodpjaa.Wo

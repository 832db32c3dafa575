/- The reference of layer 4: Put, Take, Hold, Next (made by genref04b.py). -/
import Derived.Test.YteppofpmbmmcaaaRef04
namespace Go.Proofs.Yteppofpmbmmcaaa.Wo
open Go Go.RowKit Go.Proofs.Yteppofpmbmmcaaa.Gro Go.Proofs.Yteppofpmbmmcaaa.Own Go.Proofs.Yteppofpmbmmcaaa.Wd Go.Proofs.Yteppofpmbmmcaaa.Ap Go.Proofs.Yteppofpmbmmcaaa.Pl
set_option linter.unusedVariables false
set_option linter.unusedSimpArgs false

theorem reads_take {w : World} {k : IntKind} {b off n cap : Nat} {L : List Int} (h : Reads w k (.slice (some ⟨b, off, none⟩) (n + 1) cap) L) : Reads w k (.slice (some ⟨b, off, none⟩) n cap) (L.take n) := by
  obtain ⟨ad, cp, he, h1, h2, h3⟩ := h
  simp only [Value.slice.injEq] at he
  obtain ⟨rfl, hn, rfl⟩ := he
  rcases h3 with rfl | ⟨b', off', hb, hlt, h3⟩
  · simp at hn
  · simp only [Option.some.injEq, Addr.mk.injEq, and_true] at hb
    obtain ⟨rfl, rfl⟩ := hb
    exact ⟨_, cap, by simp; omega, by simp; omega, h2, .inr ⟨b, off, rfl, hlt, fun i hi => by rw [h3 i (by simp at hi; omega)]; simp⟩⟩
theorem reads_drop {w : World} {k : IntKind} {b off n cap : Nat} {L : List Int} (h : Reads w k (.slice (some ⟨b, off, none⟩) (n + 1) cap) L) : Reads w k (.slice (some ⟨b, off + 1, none⟩) n (cap - 1)) L.tail := by
  obtain ⟨ad, cp, he, h1, h2, h3⟩ := h
  simp only [Value.slice.injEq] at he
  obtain ⟨rfl, hn, rfl⟩ := he
  rcases h3 with rfl | ⟨b', off', hb, hlt, h3⟩
  · simp at hn
  · simp only [Option.some.injEq, Addr.mk.injEq, and_true] at hb
    obtain ⟨rfl, rfl⟩ := hb
    refine ⟨_, cap - 1, by simp; omega, by simp; omega, by omega, .inr ⟨b, off + 1, rfl, hlt, fun i hi => ?_⟩⟩
    have := h3 (i + 1) (by simp at hi; omega)
    rw [show off + 1 + i = off + (i + 1) by omega, this]; simp
theorem takeB_eq (x : St) (n : Nat) (hn : x.rk.length = n + 1) : takeB x = x.rk[n] := by
  have hb : n < x.rk.length := by omega
  unfold takeB
  rw [List.getLastD_eq_getLast?, List.getLast?_eq_getElem?]
  simp [hn, hb]
theorem nextB_eq (x : St) (hn : 0 < x.hl.length) : nextB x = x.hl[0] := by
  unfold nextB
  rw [List.headD_eq_head?_getD, List.head?_eq_getElem?]
  simp [hn]
theorem reads_one_cut {w : World} {k : IntKind} {b off : Nat} {L : List Int} (h : Reads w k (.slice (some ⟨b, off, none⟩) (0 + 1) 1) L) : Reads w k (.slice (some ⟨b, off, none⟩) 0 0) L.tail := by
  have hl := reads_len (x := ⟨some ⟨b, off, none⟩, 0 + 1, 1⟩) h
  simp only at hl
  have e : L.tail = [] := List.eq_nil_of_length_eq_zero (by simp; omega)
  rw [e]
  exact ⟨_, 0, rfl, Nat.le_refl _, Nat.zero_le _, .inl rfl⟩
theorem reads_lt {w : World} {k : IntKind} {b off n cap : Nat} {l : List Int} (h : Reads w k (.slice (some ⟨b, off, none⟩) n cap) l) (hl : 0 < l.length) : b < w.heap.size := by
  obtain ⟨ad', cap', he, _, _, h3⟩ := h
  simp only [Value.slice.injEq] at he
  rcases h3 with rfl | ⟨b', off', rfl, hb', _⟩
  · simp at hl
  · have e := he.1
    simp only [Option.some.injEq, Addr.mk.injEq] at e
    omega
theorem reads_empty {w : World} {k : IntKind} {ad : Option Addr} {cap : Nat} (h : cap ≤ maxLen) : Reads w k (.slice ad 0 cap) [] := ⟨ad, cap, rfl, Nat.zero_le _, h, .inl rfl⟩
set_option maxRecDepth 10000 in
set_option maxHeartbeats 1000000 in
theorem refPut_no (c : Cfg) (s : Wk) (x : St) (b : Int) (w : World) (h : Lies w s x) (hm : ¬ (x.rk.length : Int) < c.rk) :
    Calls Try.prog 48 #[cv c, wv s, .int .i64 b] w fun e w' => ∃ s', e = .returned (.tuple #[wv s', .bool false]) ∧ Lies w' s' x ∧ Below w.heap.size w w' := by
  have e10 : ∀ s : Wk, (wc s)[10]? = some (.slice s.rk.ad s.rk.len s.rk.cap) := fun _ => rfl
  have hw0 : Below w.heap.size w (w.alloc (.cells (ccW c) 24)) := (Below.refl _ _).alloc (Nat.le_refl _) _
  have T0 := Two.startAt hw0 s
  rw [show (w.alloc (.cells (ccW c) 24)).heap.size = w.heap.size + 1 by simp] at T0
  have hlen := reads_len h.rk
  have b0 := T0.lt
  have hlt : c.rk ≤ (s.rk.len : Int) := by omega
  clear hlen
  go_enter Try.func48, Try.ntmps48
  go_wp2_with (first | (refine wpList_load_row rfl 72 _ rfl (w.heap.size + 1) rfl _ (wc s) (0, 0) _ (by exact T0.X) Try.underlying72 rfl (by kernel_rfl) ?_) | (refine wpList_store_row rfl 72 _ _ rfl (w.heap.size + 1 + 1) (wc s) rfl rfl _ _ (by exact T0.Z) (by kernel_rfl) (by kernel_rfl) (by kernel_rfl) ?_))
  have T5 := T0.rowZ s
  refine bodyPost_ret (v := .tuple #[wv s, .bool false]) ?_ rfl ⟨s, rfl, h.keep T5.below, T5.below⟩
  exact Rw.results_cell_slot (p := 6) (q := 7) (ty := 72) Try.results48 _ _ (w.heap.size + 1 + 1) 72 _ (0, 0) _ rfl T5.Z Try.underlying72 rfl (by kernel_rfl)
set_option maxRecDepth 10000 in
set_option maxHeartbeats 1000000 in
theorem refPut_yes (c : Cfg) (s : Wk) (x : St) (hx : Few 900 x) (b : Int) (w : World) (h : Lies w s x) (hm : (x.rk.length : Int) < c.rk) :
    Calls Try.prog 48 #[cv c, wv s, .int .i64 b] w fun e w' => ∃ s', e = .returned (.tuple #[wv s', .bool true]) ∧ Lies w' s' { x with rk := x.rk ++ [b] } ∧ Below w.heap.size w w' := by
  have e10 : ∀ s : Wk, (wc s)[10]? = some (.slice s.rk.ad s.rk.len s.rk.cap) := fun _ => rfl
  have hw0 : Below w.heap.size w (w.alloc (.cells (ccW c) 24)) := (Below.refl _ _).alloc (Nat.le_refl _) _
  have T0 := Two.startAt hw0 s
  rw [show (w.alloc (.cells (ccW c) 24)).heap.size = w.heap.size + 1 by simp] at T0
  have hlen := reads_len h.rk
  have b0 := T0.lt
  have hlt : (s.rk.len : Int) < c.rk := by omega
  have hxr := hx.rk
  have hr0 := (h.keep T0.below).rk
  clear hlen
  go_enter Try.func48, Try.ntmps48
  go_wp2_with (first | (at_builtin; (refine append_any (k := .i64) elemI rfl (.tmp 15) (.tmp 17) rfl (w.heap.size + 3) _ (0) ([]) rfl ?p1a _ (x.rk) rfl ?p1b ?p1c ?p1d ?p1e; (case p1a => exact empty_row (by simp)); (case p1b => exact hr0.keep ((Below.refl _ _).alloc (Nat.le_refl _) _)); (case p1c => (first | omega | (simp; omega))); (case p1d => (first | (simp; done) | (simp; omega))); intro y1 v1 q1 hb1; have c1 := below_lit (by simp) hb1; have U1 := T0.keep c1; have l1 := U1.X.lt; have x1 := U1.X.cells; have z1 := U1.X.frozen; have s1 : w.heap.size + 3 ≤ v1.heap.size := (by have h9 := c1.size; simp at h9; omega))) | (at_builtin; (refine append_any (k := .i64) elemI rfl (.tmp 18) (.tmp 20) rfl (w.heap.size + 3) _ (0 + x.rk.length) (x.rk) rfl ?p2a _ ([b]) rfl ?p2b ?p2c ?p2d ?p2e; (case p2a => (rw [List.nil_append] at q1; exact World.ownsRow.alloc q1 _)); (case p2b => exact reads_one (by simp)); (case p2c => (first | omega | (simp; omega))); (case p2d => (first | (simp; done) | (simp; omega))); intro y2 v2 q2 hb2; have T1 : Two w (w.heap.size + 1) (w.heap.size + 1 + 1) s wz v2 := ⟨(U1.X.alloc _).keepB hb2 (by omega), (U1.Z.alloc _).keepB hb2 (by omega), ((U1.below.alloc U1.below.size _)).trans (hb2.mono (by omega)), U1.gx0, U1.gz0, U1.ne⟩; have l2 := T1.X.lt; have x2 := T1.X.cells; have z2 := T1.X.frozen; have T4 := T1.setX 10 y2.v { s with rk := y2 } (set_rk _ _))) | (refine wpList_load_row rfl 72 _ rfl (w.heap.size + 1) rfl _ (wc { s with rk := y2 }) (0, 0) _ (by exact T4.X) Try.underlying72 rfl (by kernel_rfl) ?_) | (refine wpList_store_row rfl 72 _ _ rfl (w.heap.size + 1 + 1) (wc { s with rk := y2 }) rfl rfl _ _ (by exact T4.Z) (by kernel_rfl) (by kernel_rfl) (by kernel_rfl) ?_))
  have T5 := T4.rowZ { s with rk := y2 }
  refine bodyPost_ret (v := .tuple #[wv { s with rk := y2 }, .bool true]) ?_ rfl ⟨_, rfl, ?_, T5.below⟩
  · exact Rw.results_cell_slot (p := 6) (q := 7) (ty := 72) Try.results48 _ _ (w.heap.size + 1 + 1) 72 _ (0, 0) _ rfl T5.Z Try.underlying72 rfl (by kernel_rfl)
  · have hk := h.keep T5.below
    have Y : Owned (w.heap.size + 3) _ .i64 3 y2 (x.rk ++ [b]) := Owned.setRow (g := w.heap.size + 1 + 1) (Owned.setCell (g := w.heap.size + 1) (owned_of (l := x.rk ++ [b]) q2 (by simp) (by simp)) (by omega) 10 y2.v) (by omega) (wc { s with rk := y2 })
    exact ⟨hk.p, Y.reads, hk.l0, hk.l1, hk.l2, hk.hl, hk.rd⟩
theorem refPut (c : Cfg) (s : Wk) (x : St) (hx : Few 900 x) (b : Int) (w : World) (h : Lies w s x) :
    Calls Try.prog 48 #[cv c, wv s, .int .i64 b] w fun e w' => ∃ s', e = .returned (.tuple #[wv s', .bool (decide ((x.rk.length : Int) < c.rk))]) ∧ Lies w' s' (putS c.rk x b) ∧ Below w.heap.size w w' := by
  by_cases hm : (x.rk.length : Int) < c.rk
  · rw [putS, if_pos hm, decide_eq_true hm]; exact refPut_yes c s x hx b w h hm
  · rw [putS, if_neg hm, decide_eq_false hm]; exact refPut_no c s x b w h hm
set_option maxRecDepth 10000 in
set_option maxHeartbeats 1000000 in
theorem refTake_no (s : Wk) (x : St) (w : World) (h : Lies w s x) (hm : x.rk = []) :
    Calls Try.prog 50 #[wv s] w fun e w' => ∃ s', e = .returned (.tuple #[wv s', .int .i64 (-1)]) ∧ Lies w' s' x ∧ Below w.heap.size w w' := by
  have e10 : ∀ s : Wk, (wc s)[10]? = some (.slice s.rk.ad s.rk.len s.rk.cap) := fun _ => rfl
  have hlen := reads_len h.rk
  rw [hm] at hlen
  obtain ⟨p', rk', l0', l1', l2', hl', rd'⟩ := s
  obtain ⟨ad, ln, cp⟩ := rk'
  simp only [List.length_nil] at hlen
  subst hlen
  have T0 := Two.start w ⟨p', ⟨ad, 0, cp⟩, l0', l1', l2', hl', rd'⟩
  go_enter Try.func50, Try.ntmps50
  go_wp2_with (first | (refine wpList_load_row rfl 72 _ rfl (w.heap.size) rfl _ (wc ⟨p', ⟨ad, 0, cp⟩, l0', l1', l2', hl', rd'⟩) (0, 0) _ (by exact T0.X) Try.underlying72 rfl (by kernel_rfl) ?_) | (refine wpList_store_row rfl 72 _ _ rfl (w.heap.size + 1) (wc ⟨p', ⟨ad, 0, cp⟩, l0', l1', l2', hl', rd'⟩) rfl rfl _ _ (by exact T0.Z) (by kernel_rfl) (by kernel_rfl) (by kernel_rfl) ?_))
  have T5 := T0.rowZ ⟨p', ⟨ad, 0, cp⟩, l0', l1', l2', hl', rd'⟩
  refine bodyPost_ret (v := .tuple #[wv ⟨p', ⟨ad, 0, cp⟩, l0', l1', l2', hl', rd'⟩, .int .i64 (-1)]) ?_ rfl ⟨_, rfl, h.keep T5.below, T5.below⟩
  exact Rw.results_cell_slot (p := 2) (q := 3) (ty := 72) Try.results50 _ _ (w.heap.size + 1) 72 _ (0, 0) _ rfl T5.Z Try.underlying72 rfl (by kernel_rfl)
set_option maxRecDepth 100000 in
set_option maxHeartbeats 1000000 in
theorem refTake_yes (s : Wk) (x : St) (hx : Few 900 x) (w : World) (h : Lies w s x) (n : Nat) (hn : x.rk.length = n + 1) :
    Calls Try.prog 50 #[wv s] w fun e w' => ∃ s', e = .returned (.tuple #[wv s', .int .i64 (takeB x)]) ∧ Lies w' s' (takeS x) ∧ Below w.heap.size w w' := by
  have e10 : ∀ s : Wk, (wc s)[10]? = some (.slice s.rk.ad s.rk.len s.rk.cap) := fun _ => rfl
  obtain ⟨bk, off, had, hc⟩ := reads_at h.rk (i := n) (by omega)
  have hlen := reads_len h.rk
  have hle := reads_le h.rk
  have hxr := hx.rk
  obtain ⟨p', rk', l0', l1', l2', hl', rd'⟩ := s
  obtain ⟨ad, ln, cp⟩ := rk'
  simp only at hlen hle had
  obtain rfl : ln = n + 1 := by omega
  subst had
  skip
  have hbk := reads_lt h.rk (by omega)
  unfold maxLen at hle
  have hle1 := hle.1
  have hle2 := hle.2
  clear hlen hle
  have HVAL : RowKit.Hid (takeB x = x.rk[n]) := Lib.hid (by exact takeB_eq x n hn)
  have T0 := Two.start w ⟨p', ⟨some ⟨bk, off, none⟩, n + 1, cp⟩, l0', l1', l2', hl', rd'⟩
  have hr0 := reads_take (h.keep T0.below).rk
  have hc0 := (Below.cell (p := ⟨bk, off + n, none⟩) T0.below hbk).trans hc
  have hgx : bk ≠ w.heap.size := by omega
  have HL : RowKit.Hid ([] ++ x.rk.take n = (takeS x).rk) := Lib.hid (by simp [takeS, List.dropLast_eq_take, hn])
  have HLL : RowKit.Hid ((x.rk.take n).length = n) := Lib.hid (by simp [hn])
  have HN := Lib.hid hn
  clear hc0
  go_enter Try.func50, Try.ntmps50
  go_wp2_with (first | (at_builtin; (refine append_any (k := .i64) elemI rfl (.tmp 18) (.tmp 25) rfl (w.heap.size + 2) _ (0) ([]) rfl ?p1a _ (x.rk.take n) rfl ?p1b ?p1c ?p1d ?p1e; (case p1a => exact empty_row (by simp)); (case p1b => exact hr0.keep ((Below.refl _ _).alloc (Nat.le_refl _) _)); (case p1c => (have h9 := HLL.out; omega)); (case p1d => (first | (simp; done) | (simp; omega))); intro y2 v2 q2 hb2; have c1 := below_lit (by simp) hb2; have T1 := T0.keep c1; have l2 := T1.X.lt; have x2 := T1.X.cells; have z2 := T1.X.frozen; have T4 := T1.setX 10 y2.v ⟨p', y2, l0', l1', l2', hl', rd'⟩ (set_rk _ _))) | (refine wpList_load_row rfl 72 _ rfl (w.heap.size) rfl _ (wc ⟨p', y2, l0', l1', l2', hl', rd'⟩) (0, 0) _ (by exact T4.X) Try.underlying72 rfl (by kernel_rfl) ?_) | (refine wpList_store_row rfl 72 _ _ rfl (w.heap.size + 1) (wc ⟨p', y2, l0', l1', l2', hl', rd'⟩) rfl rfl _ _ (by exact T4.Z) (by kernel_rfl) (by kernel_rfl) (by kernel_rfl) ?_))
  have T5 := T4.rowZ ⟨p', y2, l0', l1', l2', hl', rd'⟩
  refine bodyPost_ret (v := .tuple #[wv ⟨p', y2, l0', l1', l2', hl', rd'⟩, .int .i64 (x.rk[n]'(by have := HN.out; omega))]) ?_ rfl ⟨_, by rw [HVAL.out], ?_, T5.below⟩
  · exact Rw.results_cell_slot (p := 2) (q := 3) (ty := 72) Try.results50 _ _ (w.heap.size + 1) 72 _ (0, 0) _ rfl T5.Z Try.underlying72 rfl (by kernel_rfl)
  · have hk := h.keep T5.below
    have Y : Owned (w.heap.size + 2) _ .i64 3 y2 (takeS x).rk := Owned.setRow (g := w.heap.size + 1) (Owned.setCell (g := w.heap.size) (owned_of (l := (takeS x).rk) q2 HL.out (by rw [← HL.out]; simp)) (by omega) 10 y2.v) (by omega) (wc ⟨p', y2, l0', l1', l2', hl', rd'⟩)
    exact ⟨hk.p, Y.reads, hk.l0, hk.l1, hk.l2, hk.hl, hk.rd⟩
theorem refTake (s : Wk) (x : St) (hx : Few 900 x) (w : World) (h : Lies w s x) :
    Calls Try.prog 50 #[wv s] w fun e w' => ∃ s', e = .returned (.tuple #[wv s', .int .i64 (takeB x)]) ∧ Lies w' s' (takeS x) ∧ Below w.heap.size w w' := by
  by_cases hm : x.rk = []
  · have e1 : takeB x = -1 := by simp [takeB, hm]
    have e2 : takeS x = x := by obtain ⟨p, rk, l0, l1, l2, hl, rd⟩ := x; simp only at hm; subst hm; rfl
    rw [e1, e2]; exact refTake_no s x w h hm
  · obtain ⟨n, hn⟩ : ∃ n, x.rk.length = n + 1 := ⟨x.rk.length - 1, by have := List.length_pos_iff.2 hm; omega⟩
    exact refTake_yes s x hx w h n hn
set_option maxRecDepth 10000 in
set_option maxHeartbeats 1000000 in
theorem refNext_no (s : Wk) (x : St) (w : World) (h : Lies w s x) (hm : x.hl = []) :
    Calls Try.prog 54 #[wv s] w fun e w' => ∃ s', e = .returned (.tuple #[wv s', .int .i64 (-1)]) ∧ Lies w' s' x ∧ Below w.heap.size w w' := by
  have e10 : ∀ s : Wk, (wc s)[17]? = some (.slice s.hl.ad s.hl.len s.hl.cap) := fun _ => rfl
  have hlen := reads_len h.hl
  rw [hm] at hlen
  obtain ⟨p', rk', l0', l1', l2', hl', rd'⟩ := s
  obtain ⟨ad, ln, cp⟩ := hl'
  simp only [List.length_nil] at hlen
  subst hlen
  have T0 := Two.start w ⟨p', rk', l0', l1', l2', ⟨ad, 0, cp⟩, rd'⟩
  go_enter Try.func54, Try.ntmps54
  go_wp2_with (first | (refine wpList_load_row rfl 72 _ rfl (w.heap.size) rfl _ (wc ⟨p', rk', l0', l1', l2', ⟨ad, 0, cp⟩, rd'⟩) (0, 0) _ (by exact T0.X) Try.underlying72 rfl (by kernel_rfl) ?_) | (refine wpList_store_row rfl 72 _ _ rfl (w.heap.size + 1) (wc ⟨p', rk', l0', l1', l2', ⟨ad, 0, cp⟩, rd'⟩) rfl rfl _ _ (by exact T0.Z) (by kernel_rfl) (by kernel_rfl) (by kernel_rfl) ?_))
  have T5 := T0.rowZ ⟨p', rk', l0', l1', l2', ⟨ad, 0, cp⟩, rd'⟩
  refine bodyPost_ret (v := .tuple #[wv ⟨p', rk', l0', l1', l2', ⟨ad, 0, cp⟩, rd'⟩, .int .i64 (-1)]) ?_ rfl ⟨_, rfl, h.keep T5.below, T5.below⟩
  exact Rw.results_cell_slot (p := 2) (q := 3) (ty := 72) Try.results54 _ _ (w.heap.size + 1) 72 _ (0, 0) _ rfl T5.Z Try.underlying72 rfl (by kernel_rfl)
set_option maxRecDepth 100000 in
set_option maxHeartbeats 1000000 in
theorem refNext_yes (s : Wk) (x : St) (hx : Few 900 x) (w : World) (h : Lies w s x) (n : Nat) (hn : x.hl.length = n + 1) (hq : 1 < s.hl.cap) :
    Calls Try.prog 54 #[wv s] w fun e w' => ∃ s', e = .returned (.tuple #[wv s', .int .i64 (nextB x)]) ∧ Lies w' s' (nextS x) ∧ Below w.heap.size w w' := by
  have e10 : ∀ s : Wk, (wc s)[17]? = some (.slice s.hl.ad s.hl.len s.hl.cap) := fun _ => rfl
  obtain ⟨bk, off, had, hc⟩ := reads_at h.hl (i := 0) (by omega)
  have hlen := reads_len h.hl
  have hle := reads_le h.hl
  have hxr := hx.hl
  obtain ⟨p', rk', l0', l1', l2', hl', rd'⟩ := s
  obtain ⟨ad, ln, cp⟩ := hl'
  simp only at hlen hle had
  obtain rfl : ln = n + 1 := by omega
  subst had
  simp only at hq
  have hcz : w.cell? ⟨bk, off, none⟩ = some (.int .i64 (x.hl[0]'(by omega))) := hc
  have hbk := reads_lt h.hl (by omega)
  unfold maxLen at hle
  have hle1 := hle.1
  have hle2 := hle.2
  clear hlen hle
  have HVAL : RowKit.Hid (nextB x = x.hl[0]) := Lib.hid (by exact nextB_eq x (by omega))
  have T0 := Two.start w ⟨p', rk', l0', l1', l2', ⟨some ⟨bk, off, none⟩, n + 1, cp⟩, rd'⟩
  have hr0 := reads_drop (h.keep T0.below).hl
  have hc0 := (Below.cell (p := ⟨bk, off + 0, none⟩) T0.below hbk).trans hc
  have hgx : bk ≠ w.heap.size := by omega
  have HL : RowKit.Hid ([] ++ x.hl.tail = (nextS x).hl) := Lib.hid (by simp [nextS])
  have HLL : RowKit.Hid ((x.hl.tail).length = n) := Lib.hid (by simp [hn])
  have HN := Lib.hid hn
  clear hc0
  go_enter Try.func54, Try.ntmps54
  go_wp2_with (first | (at_builtin; (refine append_any (k := .i64) elemI rfl (.tmp 14) (.tmp 17) rfl (w.heap.size + 2) _ (0) ([]) rfl ?p1a _ (x.hl.tail) rfl ?p1b ?p1c ?p1d ?p1e; (case p1a => exact empty_row (by simp)); (case p1b => exact hr0.keep ((Below.refl _ _).alloc (Nat.le_refl _) _)); (case p1c => (have h9 := HLL.out; omega)); (case p1d => (first | (simp; done) | (simp; omega))); intro y2 v2 q2 hb2; have c1 := below_lit (by simp) hb2; have T1 := T0.keep c1; have l2 := T1.X.lt; have x2 := T1.X.cells; have z2 := T1.X.frozen; have T4 := T1.setX 17 y2.v ⟨p', rk', l0', l1', l2', y2, rd'⟩ (set_hl _ _))) | (refine wpList_load_row rfl 72 _ rfl (w.heap.size) rfl _ (wc ⟨p', rk', l0', l1', l2', y2, rd'⟩) (0, 0) _ (by exact T4.X) Try.underlying72 rfl (by kernel_rfl) ?_) | (refine wpList_store_row rfl 72 _ _ rfl (w.heap.size + 1) (wc ⟨p', rk', l0', l1', l2', y2, rd'⟩) rfl rfl _ _ (by exact T4.Z) (by kernel_rfl) (by kernel_rfl) (by kernel_rfl) ?_))
  have T5 := T4.rowZ ⟨p', rk', l0', l1', l2', y2, rd'⟩
  refine bodyPost_ret (v := .tuple #[wv ⟨p', rk', l0', l1', l2', y2, rd'⟩, .int .i64 (x.hl[0]'(by have := HN.out; omega))]) ?_ rfl ⟨_, by rw [HVAL.out], ?_, T5.below⟩
  · exact Rw.results_cell_slot (p := 2) (q := 3) (ty := 72) Try.results54 _ _ (w.heap.size + 1) 72 _ (0, 0) _ rfl T5.Z Try.underlying72 rfl (by kernel_rfl)
  · have hk := h.keep T5.below
    have Y : Owned (w.heap.size + 2) _ .i64 3 y2 (nextS x).hl := Owned.setRow (g := w.heap.size + 1) (Owned.setCell (g := w.heap.size) (owned_of (l := (nextS x).hl) q2 HL.out (by rw [← HL.out]; simp)) (by omega) 17 y2.v) (by omega) (wc ⟨p', rk', l0', l1', l2', y2, rd'⟩)
    exact ⟨hk.p, hk.rk, hk.l0, hk.l1, hk.l2, Y.reads, hk.rd⟩
set_option maxRecDepth 100000 in
set_option maxHeartbeats 1000000 in
theorem refNext_one (s : Wk) (x : St) (hx : Few 900 x) (w : World) (h : Lies w s x) (n : Nat) (hn : x.hl.length = n + 1) (hq : s.hl.cap = 1) :
    Calls Try.prog 54 #[wv s] w fun e w' => ∃ s', e = .returned (.tuple #[wv s', .int .i64 (nextB x)]) ∧ Lies w' s' (nextS x) ∧ Below w.heap.size w w' := by
  have e10 : ∀ s : Wk, (wc s)[17]? = some (.slice s.hl.ad s.hl.len s.hl.cap) := fun _ => rfl
  obtain ⟨bk, off, had, hc⟩ := reads_at h.hl (i := 0) (by omega)
  have hlen := reads_len h.hl
  have hle := reads_le h.hl
  have hxr := hx.hl
  obtain ⟨p', rk', l0', l1', l2', hl', rd'⟩ := s
  obtain ⟨ad, ln, cp⟩ := hl'
  simp only at hlen hle had
  obtain rfl : ln = n + 1 := by omega
  subst had
  (simp only at hq); subst hq; obtain rfl : n = 0 := by omega
  have hcz : w.cell? ⟨bk, off, none⟩ = some (.int .i64 (x.hl[0]'(by omega))) := hc
  have hbk := reads_lt h.hl (by omega)
  unfold maxLen at hle
  have hle1 := hle.1
  have hle2 := hle.2
  clear hlen hle
  have HVAL : RowKit.Hid (nextB x = x.hl[0]) := Lib.hid (by exact nextB_eq x (by omega))
  have T0 := Two.start w ⟨p', rk', l0', l1', l2', ⟨some ⟨bk, off, none⟩, 0 + 1, 1⟩, rd'⟩
  have hr0 := reads_one_cut (h.keep T0.below).hl
  have hc0 := (Below.cell (p := ⟨bk, off + 0, none⟩) T0.below hbk).trans hc
  have hgx : bk ≠ w.heap.size := by omega
  have HL : RowKit.Hid ([] ++ x.hl.tail = (nextS x).hl) := Lib.hid (by simp [nextS])
  have HLL : RowKit.Hid ((x.hl.tail).length = 0) := Lib.hid (by simp [hn])
  have HN := Lib.hid hn
  clear hc0
  go_enter Try.func54, Try.ntmps54
  go_wp2_with (first | (at_builtin; (refine append_any (k := .i64) elemI rfl (.tmp 14) (.tmp 17) rfl (w.heap.size + 2) _ (0) ([]) rfl ?p1a _ (x.hl.tail) rfl ?p1b ?p1c ?p1d ?p1e; (case p1a => exact empty_row (by simp)); (case p1b => exact hr0.keep ((Below.refl _ _).alloc (Nat.le_refl _) _)); (case p1c => (have h9 := HLL.out; omega)); (case p1d => (first | (simp; done) | (simp; omega))); intro y2 v2 q2 hb2; have c1 := below_lit (by simp) hb2; have T1 := T0.keep c1; have l2 := T1.X.lt; have x2 := T1.X.cells; have z2 := T1.X.frozen; have T4 := T1.setX 17 y2.v ⟨p', rk', l0', l1', l2', y2, rd'⟩ (set_hl _ _))) | (refine wpList_load_row rfl 72 _ rfl (w.heap.size) rfl _ (wc ⟨p', rk', l0', l1', l2', y2, rd'⟩) (0, 0) _ (by exact T4.X) Try.underlying72 rfl (by kernel_rfl) ?_) | (refine wpList_store_row rfl 72 _ _ rfl (w.heap.size + 1) (wc ⟨p', rk', l0', l1', l2', y2, rd'⟩) rfl rfl _ _ (by exact T4.Z) (by kernel_rfl) (by kernel_rfl) (by kernel_rfl) ?_))
  have T5 := T4.rowZ ⟨p', rk', l0', l1', l2', y2, rd'⟩
  refine bodyPost_ret (v := .tuple #[wv ⟨p', rk', l0', l1', l2', y2, rd'⟩, .int .i64 (x.hl[0]'(by have := HN.out; omega))]) ?_ rfl ⟨_, by rw [HVAL.out], ?_, T5.below⟩
  · exact Rw.results_cell_slot (p := 2) (q := 3) (ty := 72) Try.results54 _ _ (w.heap.size + 1) 72 _ (0, 0) _ rfl T5.Z Try.underlying72 rfl (by kernel_rfl)
  · have hk := h.keep T5.below
    have Y : Owned (w.heap.size + 2) _ .i64 3 y2 (nextS x).hl := Owned.setRow (g := w.heap.size + 1) (Owned.setCell (g := w.heap.size) (owned_of (l := (nextS x).hl) q2 HL.out (by rw [← HL.out]; simp)) (by omega) 17 y2.v) (by omega) (wc ⟨p', rk', l0', l1', l2', y2, rd'⟩)
    exact ⟨hk.p, hk.rk, hk.l0, hk.l1, hk.l2, Y.reads, hk.rd⟩
theorem refNext (s : Wk) (x : St) (hx : Few 900 x) (w : World) (h : Lies w s x) :
    Calls Try.prog 54 #[wv s] w fun e w' => ∃ s', e = .returned (.tuple #[wv s', .int .i64 (nextB x)]) ∧ Lies w' s' (nextS x) ∧ Below w.heap.size w w' := by
  by_cases hm : x.hl = []
  · have e1 : nextB x = -1 := by simp [nextB, hm]
    have e2 : nextS x = x := by obtain ⟨p, rk, l0, l1, l2, hl, rd⟩ := x; simp only at hm; subst hm; rfl
    rw [e1, e2]; exact refNext_no s x w h hm
  · obtain ⟨n, hn⟩ : ∃ n, x.hl.length = n + 1 := ⟨x.hl.length - 1, by have := List.length_pos_iff.2 hm; omega⟩
    have hle := reads_le h.hl
    have hlen := reads_len h.hl
    by_cases hq : 1 < s.hl.cap
    · exact refNext_yes s x hx w h n hn hq
    · exact refNext_one s x hx w h n hn (by omega)
set_option maxRecDepth 10000 in
set_option maxHeartbeats 1000000 in
theorem refHold (s : Wk) (x : St) (hx : Few 900 x) (v : Sl) (M : List Int) (hM : M.length ≤ 900) (w : World) (h : Lies w s x) (hv : Reads w .i64 v.v M) :
    Calls Try.prog 52 #[wv s, v.v] w fun e w' => ∃ s', e = .returned (wv s') ∧ Lies w' s' (holdS x M) ∧ RdF w.heap.size w' .i64 s'.hl (x.hl ++ M) ∧ s' = { s with hl := s'.hl } ∧ Below w.heap.size w w' := by
  have e17 : ∀ s : Wk, (wc s)[17]? = some (.slice s.hl.ad s.hl.len s.hl.cap) := fun _ => rfl
  have T0 := Two.start w s
  have hxr := hx.hl
  have hr0 := (h.keep T0.below).hl
  have hv0 := hv.keep T0.below
  go_enter Try.func52, Try.ntmps52
  go_wp2_with (first | (at_builtin; (refine append_any (k := .i64) elemI rfl (.tmp 5) (.tmp 7) rfl (w.heap.size + 2) _ (0) ([]) rfl ?p1a _ (x.hl) rfl ?p1b ?p1c ?p1d ?p1e; (case p1a => exact empty_row (by simp)); (case p1b => exact hr0.keep ((Below.refl _ _).alloc (Nat.le_refl _) _)); (case p1c => (first | omega | (simp; omega))); (case p1d => (first | (simp; done) | (simp; omega))); intro y1 v1 q1 hb1; have c1 := below_lit (by simp) hb1; have U1 := T0.keep c1; have hv1 := hv0.keep c1; have l1 := U1.X.lt; have x1 := U1.X.cells; have z1 := U1.X.frozen; have s1 : w.heap.size + 2 ≤ v1.heap.size := (by have h9 := c1.size; simp at h9; omega))) | (at_builtin; (refine append_any (k := .i64) elemI rfl (.tmp 8) (.tmp 9) rfl (w.heap.size + 2) _ (0 + x.hl.length) (x.hl) rfl ?p2a _ (M) rfl ?p2b ?p2c ?p2d ?p2e; (case p2a => (rw [List.nil_append] at q1; exact q1)); (case p2b => exact hv1); (case p2c => (first | omega | (simp; omega))); (case p2d => omega); intro y2 v2 q2 hb2; have T1 : Two w (w.heap.size) (w.heap.size + 1) s wz v2 := ⟨U1.X.keepB hb2 (by omega), U1.Z.keepB hb2 (by omega), U1.below.trans (hb2.mono (by omega)), U1.gx0, U1.gz0, U1.ne⟩; have l2 := T1.X.lt; have x2 := T1.X.cells; have z2 := T1.X.frozen; have T4 := T1.setX 17 y2.v { s with hl := y2 } (set_hl _ _))) | (refine wpList_load_row rfl 72 _ rfl (w.heap.size) rfl _ (wc { s with hl := y2 }) (0, 0) _ (by exact T4.X) Try.underlying72 rfl (by kernel_rfl) ?_) | (refine wpList_store_row rfl 72 _ _ rfl (w.heap.size + 1) (wc { s with hl := y2 }) rfl rfl _ _ (by exact T4.Z) (by kernel_rfl) (by kernel_rfl) (by kernel_rfl) ?_))
  have T5 := T4.rowZ { s with hl := y2 }
  refine bodyPost_ret (v := wv { s with hl := y2 }) ?_ rfl ⟨_, rfl, ?_, ?_, rfl, T5.below⟩
  · exact results_cell_row (p := 4) (ty := 72) Try.results52 _ _ (w.heap.size + 1) 72 _ (0, 0) _ rfl T5.Z Try.underlying72 rfl (by kernel_rfl)
  · have hk := h.keep T5.below
    have Y : Owned (w.heap.size + 2) _ .i64 3 y2 (x.hl ++ M) := Owned.setRow (g := w.heap.size + 1) (Owned.setCell (g := w.heap.size) (owned_of (l := x.hl ++ M) q2 (by simp) (by simp)) (by omega) 17 y2.v) (by omega) (wc { s with hl := y2 })
    exact ⟨hk.p, hk.rk, hk.l0, hk.l1, hk.l2, Y.reads, hk.rd⟩
  · have Y : Owned (w.heap.size + 2) _ .i64 3 y2 (x.hl ++ M) := Owned.setRow (g := w.heap.size + 1) (Owned.setCell (g := w.heap.size) (owned_of (l := x.hl ++ M) q2 (by simp) (by simp)) (by omega) 17 y2.v) (by omega) (wc { s with hl := y2 })
    exact Y.rdF.base (by omega)
end Go.Proofs.Yteppofpmbmmcaaa.Wo

/- The reference of layer 4: Put, Take, Hold, Next (made by genref04b.py). -/
import Derived.Test.YtgpdkagmacpghaaGreatRef04
namespace Go.Proofs.YtgpdkagmacpghaaGreat.Wo
open Go Go.RowKit Go.Proofs.YtgpdkagmacpghaaGreat.Gro Go.Proofs.YtgpdkagmacpghaaGreat.Own Go.Proofs.YtgpdkagmacpghaaGreat.Wd Go.Proofs.YtgpdkagmacpghaaGreat.Ap Go.Proofs.YtgpdkagmacpghaaGreat.Pl
set_option linter.unusedVariables false
set_option linter.unusedSimpArgs false

theorem reads_take {w : World} {k : IntKind} {b off n cap : Nat} {L : List Int} (h : Reads w k (.slice (some ⟨b, off, none⟩) (n + 1) cap) L) : Reads w k (.slice (some ⟨b, off, none⟩) n cap) (L.take n) := by
  obtain ⟨ad, cp, he, h1, h2, h3⟩ := h
  simp only [Value.slice.injEq] at he
  obtain ⟨rfl, hn, rfl⟩ := he
  rcases h3 with rfl | ⟨b', off', hb, hlt, h3⟩
  · simp at hn
  · simp only [Option.some.injEq, Addr.mk.injEq, and_true] at hb
    obtain ⟨rfl, rfl⟩ := hb
    exact ⟨_, cap, by simp; omega, by simp; omega, h2, .inr ⟨b, off, rfl, hlt, fun i hi => by rw [h3 i (by simp at hi; omega)]; simp⟩⟩
theorem reads_drop {w : World} {k : IntKind} {b off n cap : Nat} {L : List Int} (h : Reads w k (.slice (some ⟨b, off, none⟩) (n + 1) cap) L) : Reads w k (.slice (some ⟨b, off + 1, none⟩) n (cap - 1)) L.tail := by
  obtain ⟨ad, cp, he, h1, h2, h3⟩ := h
  simp only [Value.slice.injEq] at he
  obtain ⟨rfl, hn, rfl⟩ := he
  rcases h3 with rfl | ⟨b', off', hb, hlt, h3⟩
  · simp at hn
  · simp only [Option.some.injEq, Addr.mk.injEq, and_true] at hb
    obtain ⟨rfl, rfl⟩ := hb
    refine ⟨_, cap - 1, by simp; omega, by simp; omega, by omega, .inr ⟨b, off + 1, rfl, hlt, fun i hi => ?_⟩⟩
    have := h3 (i + 1) (by simp at hi; omega)
    rw [show off + 1 + i = off + (i + 1) by omega, this]; simp
theorem takeB_eq (x : St) (n : Nat) (hn : x.rk.length = n + 1) : takeB x = x.rk[n] := by
  have hb : n < x.rk.length := by omega
  unfold takeB
  rw [List.getLastD_eq_getLast?, List.getLast?_eq_getElem?]
  simp [hn, hb]
theorem nextB_eq (x : St) (hn : 0 < x.hl.length) : nextB x = x.hl[0] := by
  unfold nextB
  rw [List.headD_eq_head?_getD, List.head?_eq_getElem?]
  simp [hn]
theorem reads_one_cut {w : World} {k : IntKind} {b off : Nat} {L : List Int} (h : Reads w k (.slice (some ⟨b, off, none⟩) (0 + 1) 1) L) : Reads w k (.slice (some ⟨b, off, none⟩) 0 0) L.tail := by
  have hl := reads_len (x := ⟨some ⟨b, off, none⟩, 0 + 1, 1⟩) h
  simp only at hl
  have e : L.tail = [] := List.eq_nil_of_length_eq_zero (by simp; omega)
  rw [e]
  exact ⟨_, 0, rfl, Nat.le_refl _, Nat.zero_le _, .inl rfl⟩
theorem reads_lt {w : World} {k : IntKind} {b off n cap : Nat} {l : List Int} (h : Reads w k (.slice (some ⟨b, off, none⟩) n cap) l) (hl : 0 < l.length) : b < w.heap.size := by
  obtain ⟨ad', cap', he, _, _, h3⟩ := h
  simp only [Value.slice.injEq] at he
  rcases h3 with rfl | ⟨b', off', rfl, hb', _⟩
  · simp at hl
  · have e := he.1
    simp only [Option.some.injEq, Addr.mk.injEq] at e
    omega
theorem reads_empty {w : World} {k : IntKind} {ad : Option Addr} {cap : Nat} (h : cap ≤ maxLen) : Reads w k (.slice ad 0 cap) [] := ⟨ad, cap, rfl, Nat.zero_le _, h, .inl rfl⟩
set_option maxRecDepth 10000 in
set_option maxHeartbeats 1000000 in
theorem refTake_no (s : Wk) (x : St) (w : World) (h : Lies w s x) (hm : x.rk = []) :
    Calls Tryz.prog 111 #[wv s] w fun e w' => ∃ s', e = .returned (.tuple #[wv s', .int .i64 (-1)]) ∧ Lies w' s' x ∧ Below w.heap.size w w' := by
  have e10 : ∀ s : Wk, (wc s)[10]? = some (.slice s.rk.ad s.rk.len s.rk.cap) := fun _ => rfl
  have hlen := reads_len h.rk
  rw [hm] at hlen
  obtain ⟨p', rk', l0', l1', l2', hl', rd'⟩ := s
  obtain ⟨ad, ln, cp⟩ := rk'
  simp only [List.length_nil] at hlen
  subst hlen
  have T0 := Two.start w ⟨p', ⟨ad, 0, cp⟩, l0', l1', l2', hl', rd'⟩
  go_enter Tryz.func111, Tryz.ntmps111
  go_wp2_with (first | (refine wpList_load_row rfl 34 _ rfl (w.heap.size) rfl _ (wc ⟨p', ⟨ad, 0, cp⟩, l0', l1', l2', hl', rd'⟩) (0, 0) _ (by exact T0.X) Tryz.underlying34 rfl (by kernel_rfl) ?_) | (refine wpList_store_row rfl 34 _ _ rfl (w.heap.size + 1) (wc ⟨p', ⟨ad, 0, cp⟩, l0', l1', l2', hl', rd'⟩) rfl rfl _ _ (by exact T0.Z) (by kernel_rfl) (by kernel_rfl) (by kernel_rfl) ?_))
  have T5 := T0.rowZ ⟨p', ⟨ad, 0, cp⟩, l0', l1', l2', hl', rd'⟩
  refine bodyPost_ret (v := .tuple #[wv ⟨p', ⟨ad, 0, cp⟩, l0', l1', l2', hl', rd'⟩, .int .i64 (-1)]) ?_ rfl ⟨_, rfl, h.keep T5.below, T5.below⟩
  exact Rw.results_cell_slot (p := 2) (q := 3) (ty := 34) Tryz.results111 _ _ (w.heap.size + 1) 34 _ (0, 0) _ rfl T5.Z Tryz.underlying34 rfl (by kernel_rfl)
set_option maxRecDepth 100000 in
set_option maxHeartbeats 1000000 in
theorem refTake_yes (s : Wk) (x : St) (hx : Few 900 x) (w : World) (h : Lies w s x) (n : Nat) (hn : x.rk.length = n + 1) :
    Calls Tryz.prog 111 #[wv s] w fun e w' => ∃ s', e = .returned (.tuple #[wv s', .int .i64 (takeB x)]) ∧ Lies w' s' (takeS x) ∧ Below w.heap.size w w' := by
  have e10 : ∀ s : Wk, (wc s)[10]? = some (.slice s.rk.ad s.rk.len s.rk.cap) := fun _ => rfl
  obtain ⟨bk, off, had, hc⟩ := reads_at h.rk (i := n) (by omega)
  have hlen := reads_len h.rk
  have hle := reads_le h.rk
  have hxr := hx.rk
  obtain ⟨p', rk', l0', l1', l2', hl', rd'⟩ := s
  obtain ⟨ad, ln, cp⟩ := rk'
  simp only at hlen hle had
  obtain rfl : ln = n + 1 := by omega
  subst had
  skip
  have hbk := reads_lt h.rk (by omega)
  unfold maxLen at hle
  have hle1 := hle.1
  have hle2 := hle.2
  clear hlen hle
  have HVAL : RowKit.Hid (takeB x = x.rk[n]) := Lib.hid (by exact takeB_eq x n hn)
  have T0 := Two.start w ⟨p', ⟨some ⟨bk, off, none⟩, n + 1, cp⟩, l0', l1', l2', hl', rd'⟩
  have hr0 := reads_take (h.keep T0.below).rk
  have hc0 := (Below.cell (p := ⟨bk, off + n, none⟩) T0.below hbk).trans hc
  have hgx : bk ≠ w.heap.size := by omega
  have HL : RowKit.Hid ([] ++ x.rk.take n = (takeS x).rk) := Lib.hid (by simp [takeS, List.dropLast_eq_take, hn])
  have HLL : RowKit.Hid ((x.rk.take n).length = n) := Lib.hid (by simp [hn])
  have HN := Lib.hid hn
  clear hc0
  go_enter Tryz.func111, Tryz.ntmps111
  go_wp2_with (first | (at_builtin; (refine append_any (k := .i64) elemI rfl (.tmp 18) (.tmp 25) rfl (w.heap.size + 2) _ (0) ([]) rfl ?p1a _ (x.rk.take n) rfl ?p1b ?p1c ?p1d ?p1e; (case p1a => exact empty_row (by simp)); (case p1b => exact hr0.keep ((Below.refl _ _).alloc (Nat.le_refl _) _)); (case p1c => (have h9 := HLL.out; omega)); (case p1d => (first | (simp; done) | (simp; omega))); intro y2 v2 q2 hb2; have c1 := below_lit (by simp) hb2; have T1 := T0.keep c1; have l2 := T1.X.lt; have x2 := T1.X.cells; have z2 := T1.X.frozen; have T4 := T1.setX 10 y2.v ⟨p', y2, l0', l1', l2', hl', rd'⟩ (set_rk _ _))) | (refine wpList_load_row rfl 34 _ rfl (w.heap.size) rfl _ (wc ⟨p', y2, l0', l1', l2', hl', rd'⟩) (0, 0) _ (by exact T4.X) Tryz.underlying34 rfl (by kernel_rfl) ?_) | (refine wpList_store_row rfl 34 _ _ rfl (w.heap.size + 1) (wc ⟨p', y2, l0', l1', l2', hl', rd'⟩) rfl rfl _ _ (by exact T4.Z) (by kernel_rfl) (by kernel_rfl) (by kernel_rfl) ?_))
  have T5 := T4.rowZ ⟨p', y2, l0', l1', l2', hl', rd'⟩
  refine bodyPost_ret (v := .tuple #[wv ⟨p', y2, l0', l1', l2', hl', rd'⟩, .int .i64 (x.rk[n]'(by have := HN.out; omega))]) ?_ rfl ⟨_, by rw [HVAL.out], ?_, T5.below⟩
  · exact Rw.results_cell_slot (p := 2) (q := 3) (ty := 34) Tryz.results111 _ _ (w.heap.size + 1) 34 _ (0, 0) _ rfl T5.Z Tryz.underlying34 rfl (by kernel_rfl)
  · have hk := h.keep T5.below
    have Y : Owned (w.heap.size + 2) _ .i64 3 y2 (takeS x).rk := Owned.setRow (g := w.heap.size + 1) (Owned.setCell (g := w.heap.size) (owned_of (l := (takeS x).rk) q2 HL.out (by rw [← HL.out]; simp)) (by omega) 10 y2.v) (by omega) (wc ⟨p', y2, l0', l1', l2', hl', rd'⟩)
    exact ⟨hk.p, Y.reads, hk.l0, hk.l1, hk.l2, hk.hl, hk.rd⟩
theorem refTake (s : Wk) (x : St) (hx : Few 900 x) (w : World) (h : Lies w s x) :
    Calls Tryz.prog 111 #[wv s] w fun e w' => ∃ s', e = .returned (.tuple #[wv s', .int .i64 (takeB x)]) ∧ Lies w' s' (takeS x) ∧ Below w.heap.size w w' := by
  by_cases hm : x.rk = []
  · have e1 : takeB x = -1 := by simp [takeB, hm]
    have e2 : takeS x = x := by obtain ⟨p, rk, l0, l1, l2, hl, rd⟩ := x; simp only at hm; subst hm; rfl
    rw [e1, e2]; exact refTake_no s x w h hm
  · obtain ⟨n, hn⟩ : ∃ n, x.rk.length = n + 1 := ⟨x.rk.length - 1, by have := List.length_pos_iff.2 hm; omega⟩
    exact refTake_yes s x hx w h n hn
end Go.Proofs.YtgpdkagmacpghaaGreat.Wo

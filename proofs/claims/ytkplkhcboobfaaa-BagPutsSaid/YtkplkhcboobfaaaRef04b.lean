/- The reference of layer 4: Put, Take, Hold, Next (made by genref04b.py). -/
import Derived.Test.YtkplkhcboobfaaaRef04
namespace Go.Proofs.Ytkplkhcboobfaaa.Wo
open Go Go.RowKit Go.Proofs.Ytkplkhcboobfaaa.Gro Go.Proofs.Ytkplkhcboobfaaa.Own Go.Proofs.Ytkplkhcboobfaaa.Wd Go.Proofs.Ytkplkhcboobfaaa.Ap Go.Proofs.Ytkplkhcboobfaaa.Pl
set_option linter.unusedVariables false
set_option linter.unusedSimpArgs false

theorem reads_take {w : World} {k : IntKind} {b off n cap : Nat} {L : List Int} (h : Reads w k (.slice (some ⟨b, off, none⟩) (n + 1) cap) L) : Reads w k (.slice (some ⟨b, off, none⟩) n cap) (L.take n) := by
  obtain ⟨ad, cp, he, h1, h2, h3⟩ := h
  simp only [Value.slice.injEq] at he
  obtain ⟨rfl, hn, rfl⟩ := he
  rcases h3 with rfl | ⟨b', off', hb, hlt, h3⟩
  · simp at hn
  · simp only [Option.some.injEq, Addr.mk.injEq, and_true] at hb
    obtain ⟨rfl, rfl⟩ := hb
    exact ⟨_, cap, by simp; omega, by simp; omega, h2, .inr ⟨b, off, rfl, hlt, fun i hi => by rw [h3 i (by simp at hi; omega)]; simp⟩⟩
theorem reads_drop {w : World} {k : IntKind} {b off n cap : Nat} {L : List Int} (h : Reads w k (.slice (some ⟨b, off, none⟩) (n + 1) cap) L) : Reads w k (.slice (some ⟨b, off + 1, none⟩) n (cap - 1)) L.tail := by
  obtain ⟨ad, cp, he, h1, h2, h3⟩ := h
  simp only [Value.slice.injEq] at he
  obtain ⟨rfl, hn, rfl⟩ := he
  rcases h3 with rfl | ⟨b', off', hb, hlt, h3⟩
  · simp at hn
  · simp only [Option.some.injEq, Addr.mk.injEq, and_true] at hb
    obtain ⟨rfl, rfl⟩ := hb
    refine ⟨_, cap - 1, by simp; omega, by simp; omega, by omega, .inr ⟨b, off + 1, rfl, hlt, fun i hi => ?_⟩⟩
    have := h3 (i + 1) (by simp at hi; omega)
    rw [show off + 1 + i = off + (i + 1) by omega, this]; simp
theorem takeB_eq (x : St) (n : Nat) (hn : x.rk.length = n + 1) : takeB x = x.rk[n] := by
  have hb : n < x.rk.length := by omega
  unfold takeB
  rw [List.getLastD_eq_getLast?, List.getLast?_eq_getElem?]
  simp [hn, hb]
theorem nextB_eq (x : St) (hn : 0 < x.hl.length) : nextB x = x.hl[0] := by
  unfold nextB
  rw [List.headD_eq_head?_getD, List.head?_eq_getElem?]
  simp [hn]
theorem reads_one_cut {w : World} {k : IntKind} {b off : Nat} {L : List Int} (h : Reads w k (.slice (some ⟨b, off, none⟩) (0 + 1) 1) L) : Reads w k (.slice (some ⟨b, off, none⟩) 0 0) L.tail := by
  have hl := reads_len (x := ⟨some ⟨b, off, none⟩, 0 + 1, 1⟩) h
  simp only at hl
  have e : L.tail = [] := List.eq_nil_of_length_eq_zero (by simp; omega)
  rw [e]
  exact ⟨_, 0, rfl, Nat.le_refl _, Nat.zero_le _, .inl rfl⟩
theorem reads_lt {w : World} {k : IntKind} {b off n cap : Nat} {l : List Int} (h : Reads w k (.slice (some ⟨b, off, none⟩) n cap) l) (hl : 0 < l.length) : b < w.heap.size := by
  obtain ⟨ad', cap', he, _, _, h3⟩ := h
  simp only [Value.slice.injEq] at he
  rcases h3 with rfl | ⟨b', off', rfl, hb', _⟩
  · simp at hl
  · have e := he.1
    simp only [Option.some.injEq, Addr.mk.injEq] at e
    omega
theorem reads_empty {w : World} {k : IntKind} {ad : Option Addr} {cap : Nat} (h : cap ≤ maxLen) : Reads w k (.slice ad 0 cap) [] := ⟨ad, cap, rfl, Nat.zero_le _, h, .inl rfl⟩
set_option maxRecDepth 10000 in
set_option maxHeartbeats 1000000 in
theorem refHold (s : Wk) (x : St) (hx : Few 900 x) (v : Sl) (M : List Int) (hM : M.length ≤ 900) (w : World) (h : Lies w s x) (hv : Reads w .i64 v.v M) :
    Calls Try.prog 67 #[wv s, v.v] w fun e w' => ∃ s', e = .returned (wv s') ∧ Lies w' s' (holdS x M) ∧ RdF w.heap.size w' .i64 s'.hl (x.hl ++ M) ∧ s' = { s with hl := s'.hl } ∧ Below w.heap.size w w' := by
  have e17 : ∀ s : Wk, (wc s)[17]? = some (.slice s.hl.ad s.hl.len s.hl.cap) := fun _ => rfl
  have T0 := Two.start w s
  have hxr := hx.hl
  have hr0 := (h.keep T0.below).hl
  have hv0 := hv.keep T0.below
  go_enter Try.func67, Try.ntmps67
  go_wp2_with (first | (at_builtin; (refine append_any (k := .i64) elemI rfl (.tmp 5) (.tmp 7) rfl (w.heap.size + 2) _ (0) ([]) rfl ?p1a _ (x.hl) rfl ?p1b ?p1c ?p1d ?p1e; (case p1a => exact empty_row (by simp)); (case p1b => exact hr0.keep ((Below.refl _ _).alloc (Nat.le_refl _) _)); (case p1c => (first | omega | (simp; omega))); (case p1d => (first | (simp; done) | (simp; omega))); intro y1 v1 q1 hb1; have c1 := below_lit (by simp) hb1; have U1 := T0.keep c1; have hv1 := hv0.keep c1; have l1 := U1.X.lt; have x1 := U1.X.cells; have z1 := U1.X.frozen; have s1 : w.heap.size + 2 ≤ v1.heap.size := (by have h9 := c1.size; simp at h9; omega))) | (at_builtin; (refine append_any (k := .i64) elemI rfl (.tmp 8) (.tmp 9) rfl (w.heap.size + 2) _ (0 + x.hl.length) (x.hl) rfl ?p2a _ (M) rfl ?p2b ?p2c ?p2d ?p2e; (case p2a => (rw [List.nil_append] at q1; exact q1)); (case p2b => exact hv1); (case p2c => (first | omega | (simp; omega))); (case p2d => omega); intro y2 v2 q2 hb2; have T1 : Two w (w.heap.size) (w.heap.size + 1) s wz v2 := ⟨U1.X.keepB hb2 (by omega), U1.Z.keepB hb2 (by omega), U1.below.trans (hb2.mono (by omega)), U1.gx0, U1.gz0, U1.ne⟩; have l2 := T1.X.lt; have x2 := T1.X.cells; have z2 := T1.X.frozen; have T4 := T1.setX 17 y2.v { s with hl := y2 } (set_hl _ _))) | (refine wpList_load_row rfl 63 _ rfl (w.heap.size) rfl _ (wc { s with hl := y2 }) (0, 0) _ (by exact T4.X) Try.underlying63 rfl (by kernel_rfl) ?_) | (refine wpList_store_row rfl 63 _ _ rfl (w.heap.size + 1) (wc { s with hl := y2 }) rfl rfl _ _ (by exact T4.Z) (by kernel_rfl) (by kernel_rfl) (by kernel_rfl) ?_))
  have T5 := T4.rowZ { s with hl := y2 }
  refine bodyPost_ret (v := wv { s with hl := y2 }) ?_ rfl ⟨_, rfl, ?_, ?_, rfl, T5.below⟩
  · exact results_cell_row (p := 4) (ty := 63) Try.results67 _ _ (w.heap.size + 1) 63 _ (0, 0) _ rfl T5.Z Try.underlying63 rfl (by kernel_rfl)
  · have hk := h.keep T5.below
    have Y : Owned (w.heap.size + 2) _ .i64 3 y2 (x.hl ++ M) := Owned.setRow (g := w.heap.size + 1) (Owned.setCell (g := w.heap.size) (owned_of (l := x.hl ++ M) q2 (by simp) (by simp)) (by omega) 17 y2.v) (by omega) (wc { s with hl := y2 })
    exact ⟨hk.p, hk.rk, hk.l0, hk.l1, hk.l2, Y.reads, hk.rd⟩
  · have Y : Owned (w.heap.size + 2) _ .i64 3 y2 (x.hl ++ M) := Owned.setRow (g := w.heap.size + 1) (Owned.setCell (g := w.heap.size) (owned_of (l := x.hl ++ M) q2 (by simp) (by simp)) (by omega) 17 y2.v) (by omega) (wc { s with hl := y2 })
    exact Y.rdF.base (by omega)
end Go.Proofs.Ytkplkhcboobfaaa.Wo

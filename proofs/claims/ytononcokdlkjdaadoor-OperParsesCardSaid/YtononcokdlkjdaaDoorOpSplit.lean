/- Layer 12: oper.split (made by genoper7.py). -/
import Derived.Test.YtononcokdlkjdaaDoorOpTicket
import Derived.WalkMore
import Derived.LoopN
import Derived.Scope
namespace Go.Proofs.YtononcokdlkjdaaDoor.Opw
open Go Go.RowKit Go.ChangeMaps Go.Proofs.YtononcokdlkjdaaDoor.Gro Go.Proofs.YtononcokdlkjdaaDoor.Own Go.Proofs.YtononcokdlkjdaaDoor.Mr Go.Proofs.YtononcokdlkjdaaDoor.Opn
set_option linter.unusedVariables false
set_option linter.unusedSimpArgs false
theorem split_stop {n : Nat} {r c r' : List UInt8} (h : Lib.cut r [32] = (c, r', false)) : splitL (n + 1) r = [c] := by
  unfold splitL
  rw [h]
  simp
theorem split_last {r c r' : List UInt8} {m : Bool} (h : Lib.cut r [32] = (c, r', m)) : splitL 1 r = [c] := by
  unfold splitL
  rw [h]
  simp
theorem split_more {n : Nat} {r c r' : List UInt8} (h : Lib.cut r [32] = (c, r', true)) : splitL (n + 2) r = c :: splitL (n + 1) r' := by
  conv => lhs; unfold splitL
  rw [h]
  simp
set_option maxRecDepth 100000 in
set_option maxHeartbeats 8000000 in
theorem fSplit (l : List UInt8) (hl : l.length ≤ 1000000) (w : World) (L : Lb w) : Calls Tryd.prog 25 #[strV l] w fun e w' => ∃ v, e = .returned v ∧ OwnS w.heap.size w' v (splitL 4 l) ∧ Below w.heap.size w w' := by
  obtain ⟨m, hm⟩ := L.mx
  have hg := Lib.lt_of_cell hm
  have BZ0 : Below w.heap.size w w := Below.refl _ _
  have O0 : OwnS w.heap.size w (.slice none 0 0) [] := OwnS.nil
  have hcut : ∀ (r : List UInt8) (u : World), r.length ≤ 1000000 → Below w.heap.size w u → Calls Tryd.prog 38 #[.string ⟨r.toArray⟩, .string ⟨#[32]⟩] u fun e w' => e = .returned (.tuple #[.string ⟨(Lib.cut r [32]).1.toArray⟩, .string ⟨(Lib.cut r [32]).2.1.toArray⟩, .bool (Lib.cut r [32]).2.2]) ∧ Below u.heap.size u w' := fun r u hr hu =>
    (Tryd.strings_Cut ⟨r.toArray⟩ ⟨#[32]⟩ m u (by show r.length < _; omega) ((hu.cell hg).trans hm)).mono fun e w' ⟨h1, n, h2⟩ => ⟨h1, by rw [h2]; exact below_drewN (Below.refl _ _) n⟩
  have HCUT := Lib.hid hcut
  obtain ⟨R, hR⟩ : ∃ R, R = splitL 4 l := ⟨_, rfl⟩
  rw [← hR]
  have HR0 := Lib.hid hR
  clear hcut hm hR L
  go_enter Tryd.func25, Tryd.ntmps25
  go_wp2_with fail
  refine wp_scope_straight ?_
  go_wp2_with fail
  refine wp_label ?_
  go_wp2_with fail
  refine wp_loop_rounds 4 ?_
  rw [rounds_succ]
  have HC := Lib.hid (HCUT.out l w hl BZ0)
  obtain ⟨q, hq⟩ : ∃ q, q = Lib.cut l [32] := ⟨_, rfl⟩
  have hz := cut_sizes l [32]
  rw [← hq] at HC hz
  obtain ⟨c0, r1, m0⟩ := q
  simp only at HC hz
  have hl1 : r1.length ≤ 1000000 := Nat.le_trans hz.2 (by omega)
  have HQ0 := Lib.hid hq
  clear hq hz
  go_wp2_with fail
  refine HC.out.mono ?_
  rintro e z1 ⟨rfl, hbz⟩
  have BY := BZ0.trans (hbz.mono BZ0.size)
  have BA : Below w.heap.size w (z1.alloc (.cells #[strV c0] 9)) := BY.alloc BY.size _
  have OA := (O0.keep hbz).keep ((Below.refl z1.heap.size z1).alloc (Nat.le_refl _) (.cells #[strV c0] 9))
  have bsz := BY.size
  clear hbz HC
  cases m0
  · go_wp2_with (at_builtin; refine append_row elemS rfl _ _ rfl w.heap.size (.slice none 0 0) 0 [] rfl OA z1.heap.size 1 1 [strV c0] rfl rfl (new_cells _ _ _) (fun u hu => by obtain rfl := List.mem_singleton.1 hu; rfl) (by decide) (by decide) (by simp; omega) ?_; intro vv w1 ON hbn; have BZ1 := BA.trans hbn; obtain ⟨g1, p1, rfl, _, _, _, _, _⟩ := owns_cells ON (by decide); clear OA BA hbn BY bsz)
    have O1 : OwnS w.heap.size w1 (.slice (some ⟨g1, 0, none⟩) 1 p1) [c0] := ON
    clear ON
    simp only [Exit.noGoto]
    go_ret
    exact ⟨_, rfl, by rw [HR0.out, split_stop HQ0.out.symm]; exact O1, BZ1⟩
  · go_wp2_with (at_builtin; refine append_row elemS rfl _ _ rfl w.heap.size (.slice none 0 0) 0 [] rfl OA z1.heap.size 1 1 [strV c0] rfl rfl (new_cells _ _ _) (fun u hu => by obtain rfl := List.mem_singleton.1 hu; rfl) (by decide) (by decide) (by simp; omega) ?_; intro vv w1 ON hbn; have BZ1 := BA.trans hbn; obtain ⟨g1, p1, rfl, _, _, _, _, _⟩ := owns_cells ON (by decide); clear OA BA hbn BY bsz)
    have O1 : OwnS w.heap.size w1 (.slice (some ⟨g1, 0, none⟩) 1 p1) [c0] := ON
    clear ON
    rw [rounds_succ]
    have HC := Lib.hid (HCUT.out r1 w1 hl1 BZ1)
    obtain ⟨q, hq⟩ : ∃ q, q = Lib.cut r1 [32] := ⟨_, rfl⟩
    have hz := cut_sizes r1 [32]
    rw [← hq] at HC hz
    obtain ⟨c1, r2, m1⟩ := q
    simp only at HC hz
    have hl2 : r2.length ≤ 1000000 := Nat.le_trans hz.2 (by omega)
    have HQ1 := Lib.hid hq
    clear hq hz
    go_wp2_with fail
    refine HC.out.mono ?_
    rintro e z2 ⟨rfl, hbz⟩
    have BY := BZ1.trans (hbz.mono BZ1.size)
    have BA : Below w.heap.size w (z2.alloc (.cells #[strV c1] 9)) := BY.alloc BY.size _
    have OA := (O1.keep hbz).keep ((Below.refl z2.heap.size z2).alloc (Nat.le_refl _) (.cells #[strV c1] 9))
    have bsz := BY.size
    clear hbz HC
    cases m1
    · go_wp2_with (at_builtin; refine append_row elemS rfl _ _ rfl w.heap.size (.slice (some ⟨g1, 0, none⟩) 1 p1) 1 [strV c0] rfl OA z2.heap.size 1 1 [strV c1] rfl rfl (new_cells _ _ _) (fun u hu => by obtain rfl := List.mem_singleton.1 hu; rfl) (by decide) (by decide) (by simp; omega) ?_; intro vv w2 ON hbn; have BZ2 := BA.trans hbn; obtain ⟨g2, p2, rfl, _, _, _, _, _⟩ := owns_cells ON (by decide); clear OA BA hbn BY bsz)
      have O2 : OwnS w.heap.size w2 (.slice (some ⟨g2, 0, none⟩) 2 p2) [c0, c1] := ON
      clear ON
      simp only [Exit.noGoto]
      go_ret
      exact ⟨_, rfl, by rw [HR0.out, split_more HQ0.out.symm, split_stop HQ1.out.symm]; exact O2, BZ2⟩
    · go_wp2_with (at_builtin; refine append_row elemS rfl _ _ rfl w.heap.size (.slice (some ⟨g1, 0, none⟩) 1 p1) 1 [strV c0] rfl OA z2.heap.size 1 1 [strV c1] rfl rfl (new_cells _ _ _) (fun u hu => by obtain rfl := List.mem_singleton.1 hu; rfl) (by decide) (by decide) (by simp; omega) ?_; intro vv w2 ON hbn; have BZ2 := BA.trans hbn; obtain ⟨g2, p2, rfl, _, _, _, _, _⟩ := owns_cells ON (by decide); clear OA BA hbn BY bsz)
      have O2 : OwnS w.heap.size w2 (.slice (some ⟨g2, 0, none⟩) 2 p2) [c0, c1] := ON
      clear ON
      rw [rounds_succ]
      have HC := Lib.hid (HCUT.out r2 w2 hl2 BZ2)
      obtain ⟨q, hq⟩ : ∃ q, q = Lib.cut r2 [32] := ⟨_, rfl⟩
      have hz := cut_sizes r2 [32]
      rw [← hq] at HC hz
      obtain ⟨c2, r3, m2⟩ := q
      simp only at HC hz
      have hl3 : r3.length ≤ 1000000 := Nat.le_trans hz.2 (by omega)
      have HQ2 := Lib.hid hq
      clear hq hz
      go_wp2_with fail
      refine HC.out.mono ?_
      rintro e z3 ⟨rfl, hbz⟩
      have BY := BZ2.trans (hbz.mono BZ2.size)
      have BA : Below w.heap.size w (z3.alloc (.cells #[strV c2] 9)) := BY.alloc BY.size _
      have OA := (O2.keep hbz).keep ((Below.refl z3.heap.size z3).alloc (Nat.le_refl _) (.cells #[strV c2] 9))
      have bsz := BY.size
      clear hbz HC
      cases m2
      · go_wp2_with (at_builtin; refine append_row elemS rfl _ _ rfl w.heap.size (.slice (some ⟨g2, 0, none⟩) 2 p2) 2 [strV c0, strV c1] rfl OA z3.heap.size 1 1 [strV c2] rfl rfl (new_cells _ _ _) (fun u hu => by obtain rfl := List.mem_singleton.1 hu; rfl) (by decide) (by decide) (by simp; omega) ?_; intro vv w3 ON hbn; have BZ3 := BA.trans hbn; obtain ⟨g3, p3, rfl, _, _, _, _, _⟩ := owns_cells ON (by decide); clear OA BA hbn BY bsz)
        have O3 : OwnS w.heap.size w3 (.slice (some ⟨g3, 0, none⟩) 3 p3) [c0, c1, c2] := ON
        clear ON
        simp only [Exit.noGoto]
        go_ret
        exact ⟨_, rfl, by rw [HR0.out, split_more HQ0.out.symm, split_more HQ1.out.symm, split_stop HQ2.out.symm]; exact O3, BZ3⟩
      · go_wp2_with (at_builtin; refine append_row elemS rfl _ _ rfl w.heap.size (.slice (some ⟨g2, 0, none⟩) 2 p2) 2 [strV c0, strV c1] rfl OA z3.heap.size 1 1 [strV c2] rfl rfl (new_cells _ _ _) (fun u hu => by obtain rfl := List.mem_singleton.1 hu; rfl) (by decide) (by decide) (by simp; omega) ?_; intro vv w3 ON hbn; have BZ3 := BA.trans hbn; obtain ⟨g3, p3, rfl, _, _, _, _, _⟩ := owns_cells ON (by decide); clear OA BA hbn BY bsz)
        have O3 : OwnS w.heap.size w3 (.slice (some ⟨g3, 0, none⟩) 3 p3) [c0, c1, c2] := ON
        clear ON
        rw [rounds_succ]
        have HC := Lib.hid (HCUT.out r3 w3 hl3 BZ3)
        obtain ⟨q, hq⟩ : ∃ q, q = Lib.cut r3 [32] := ⟨_, rfl⟩
        have hz := cut_sizes r3 [32]
        rw [← hq] at HC hz
        obtain ⟨c3, r4, m3⟩ := q
        simp only at HC hz
        have hl4 : r4.length ≤ 1000000 := Nat.le_trans hz.2 (by omega)
        have HQ3 := Lib.hid hq
        clear hq hz
        go_wp2_with fail
        refine HC.out.mono ?_
        rintro e z4 ⟨rfl, hbz⟩
        have BY := BZ3.trans (hbz.mono BZ3.size)
        have BA : Below w.heap.size w (z4.alloc (.cells #[strV c3] 9)) := BY.alloc BY.size _
        have OA := (O3.keep hbz).keep ((Below.refl z4.heap.size z4).alloc (Nat.le_refl _) (.cells #[strV c3] 9))
        have bsz := BY.size
        clear hbz HC
        cases m3
        · go_wp2_with (at_builtin; refine append_row elemS rfl _ _ rfl w.heap.size (.slice (some ⟨g3, 0, none⟩) 3 p3) 3 [strV c0, strV c1, strV c2] rfl OA z4.heap.size 1 1 [strV c3] rfl rfl (new_cells _ _ _) (fun u hu => by obtain rfl := List.mem_singleton.1 hu; rfl) (by decide) (by decide) (by simp; omega) ?_; intro vv w4 ON hbn; have BZ4 := BA.trans hbn; obtain ⟨g4, p4, rfl, _, _, _, _, _⟩ := owns_cells ON (by decide); clear OA BA hbn BY bsz)
          have O4 : OwnS w.heap.size w4 (.slice (some ⟨g4, 0, none⟩) 4 p4) [c0, c1, c2, c3] := ON
          clear ON
          simp only [Exit.noGoto]
          go_ret
          exact ⟨_, rfl, by rw [HR0.out, split_more HQ0.out.symm, split_more HQ1.out.symm, split_more HQ2.out.symm, split_last HQ3.out.symm]; exact O4, BZ4⟩
        · go_wp2_with (at_builtin; refine append_row elemS rfl _ _ rfl w.heap.size (.slice (some ⟨g3, 0, none⟩) 3 p3) 3 [strV c0, strV c1, strV c2] rfl OA z4.heap.size 1 1 [strV c3] rfl rfl (new_cells _ _ _) (fun u hu => by obtain rfl := List.mem_singleton.1 hu; rfl) (by decide) (by decide) (by simp; omega) ?_; intro vv w4 ON hbn; have BZ4 := BA.trans hbn; obtain ⟨g4, p4, rfl, _, _, _, _, _⟩ := owns_cells ON (by decide); clear OA BA hbn BY bsz)
          have O4 : OwnS w.heap.size w4 (.slice (some ⟨g4, 0, none⟩) 4 p4) [c0, c1, c2, c3] := ON
          clear ON
          simp only [Exit.noGoto]
          go_ret
          exact ⟨_, rfl, by rw [HR0.out, split_more HQ0.out.symm, split_more HQ1.out.symm, split_more HQ2.out.symm, split_last HQ3.out.symm]; exact O4, BZ4⟩
end Go.Proofs.YtononcokdlkjdaaDoor.Opw

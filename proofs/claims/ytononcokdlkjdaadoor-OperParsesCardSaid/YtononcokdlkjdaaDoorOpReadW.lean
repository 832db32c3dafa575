/- Layer 12: oper.read (made by genoper9.py). -/
import Derived.Test.YtononcokdlkjdaaDoorOpFind
namespace Go.Proofs.YtononcokdlkjdaaDoor.Opw
open Go Go.RowKit Go.ChangeMaps Go.Proofs.YtononcokdlkjdaaDoor.Gro Go.Proofs.YtononcokdlkjdaaDoor.Own Go.Proofs.YtononcokdlkjdaaDoor.Mr Go.Proofs.YtononcokdlkjdaaDoor.Opn
set_option linter.unusedVariables false
set_option linter.unusedSimpArgs false
theorem elemF : Elem Tryd.prog 61 33 1 8 := ⟨Tryd.underlying61, by
  have h : (Tryd.prog.info? 33).map (fun i => (i.zero, i.size, i.bytes)) = some (some .nilFunc, 1, 8) := by kernel_rfl
  obtain ⟨i, h1, h2, h3, h4⟩ := Go.Proofs.YtononcokdlkjdaaDoor.Opw.parts_info h
  exact ⟨i, _, h1, h2, h3, h4, rfl⟩, by decide, by decide⟩
abbrev cloV (k a : Nat) : Value := .func (.func k) #[] #[.pointer (some ⟨a, 0, none⟩)]
theorem Oth.cellq {g : Nat} {w w' : World} (h : Oth g w w') {b j : Nat} {v : Value} (hc : w.cell? ⟨b, j, none⟩ = some v) (hb : b ≠ g) : w'.cell? ⟨b, j, none⟩ = some v :=
  (World.cell?_of_block (h.block b (Lib.lt_of_cell hc) hb)).trans hc
abbrev opK (k : Int) : OpD := ⟨k, 0, 0, 0, false, 0, 0⟩
theorem zero_op (u : World) : (zeroValue 24).run Tryd.prog u = .ok (.agg (opC OpD.zero)) u := by kernel_rfl
theorem build_op0 (u : World) : (Instr.build 24 #[]).run Tryd.prog u = .ok (.agg (opC OpD.zero)) u := run_build u _ _ _ (by kernel_rfl)
theorem build_opK (k : Int) (u : World) : (Instr.build 24 #[(0, .int .i64 k)]).run Tryd.prog u = .ok (.agg (opC (opK k))) u := run_build u _ _ _ (by kernel_rfl)
def ReadPost (L : List (List UInt8)) (w : World) (e : Ending) (w' : World) : Prop :=
  e = .returned (.tuple #[opV ((readL L).getD OpD.zero), .bool (readL L).isSome]) ∧ Below w.heap.size w w'
theorem read_none {h : List UInt8} {r : List (List UInt8)} (hf : find h = none) : readL (h :: r) = none := by
  simp only [readL, hf]
theorem read_count {h : List UInt8} {r : List (List UInt8)} {k : Int} (hf : find h = some k) (hn : ¬ r.length = (pts k).length) : readL (h :: r) = none := by
  simp only [readL, hf, if_neg hn]
theorem read_run {h : List UInt8} {r : List (List UInt8)} {k : Int} (hf : find h = some k) (hn : r.length = (pts k).length) : readL (h :: r) = runP (pts k) r (opK k) := by
  simp only [readL, hf, if_pos hn]
  rfl
set_option maxRecDepth 100000 in
set_option maxHeartbeats 16000000 in
theorem fRead (B : Nat) (L : List (List UInt8)) (hx : ∀ x ∈ L, x.length ≤ 1000) (h0 : 0 < L.length) (v : Value) (w : World) (hO : OwnS B w v L) (HLB : Lb w) : Calls Tryd.prog 24 #[v] w (ReadPost L w) := by
  obtain ⟨gw, cap, rfl, _, hwl, hcap, hmax, hcells⟩ := owns_cells hO h0
  cases L with
  | nil => exact absurd h0 (by decide)
  | cons h r =>
  obtain ⟨oo, hoo⟩ : ∃ q, q = (readL (h :: r)).getD OpD.zero := ⟨_, rfl⟩
  obtain ⟨bb, hbb⟩ : ∃ q, q = (readL (h :: r)).isSome := ⟨_, rfl⟩
  unfold ReadPost
  rw [← hoo, ← hbb]
  have HOO := Lib.hid hoo
  have HBB := Lib.hid hbb
  have HL := Lib.hid HLB
  have HX := Lib.hid hx
  clear hoo hbb h0 HLB hO hx
  have hcw : ∀ j (hj : j < (h :: r).length), w.cell? ⟨gw, j, none⟩ = some (strV (h :: r)[j]) := fun j hj => by
    rw [hcells j (by simpa using hj), List.getElem?_map, List.getElem?_eq_getElem hj]
    rfl
  have HCW := Lib.hid hcw
  have hc0 : w.cell? ⟨gw, 0, none⟩ = some (strV h) := hcw 0 (by simp)
  clear hcells hcw
  have hz0 := zero_op
  have hzs := zero_sh
  have hb0 := build_op0
  obtain ⟨w1, hw1⟩ : ∃ q, q = w.alloc (.cells (opC OpD.zero) 24) := ⟨_, rfl⟩
  have Z1 : Bk w1 w.heap.size (opC OpD.zero) 24 := by rw [hw1]; exact Bk.new w _ _
  have b1 : Below w.heap.size w w1 := by rw [hw1]; exact (Below.refl _ _).alloc (Nat.le_refl _) _
  have hHF := fFind h w1
  unfold FindPost at hHF
  obtain ⟨nL, hnL⟩ : ∃ q : Nat, q = (h :: r).length := ⟨_, rfl⟩
  rw [← hnL] at hcap ⊢
  have hn0 : 0 < nL := by rw [hnL]; simp
  have HNL := Lib.hid hnL
  have HW1 := Lib.hid hw1
  clear hnL
  cases hfd : find h with
  | none =>
    rw [hfd] at hHF
    simp only [Option.getD_none, Option.isSome_none] at hHF
    rw [hw1] at hHF
    have HF := Lib.hid hHF
    have hr := read_none (r := r) hfd
    have hoo := HOO.out
    have hbb := HBB.out
    rw [hr] at hoo hbb
    simp only [Option.getD_none, Option.isSome_none] at hoo hbb
    subst hoo; subst hbb
    clear hr hfd hw1 hHF
    go_enter Tryd.func24, Tryd.ntmps24
    go_wp2_with fail
    refine HF.out.mono ?_
    rintro e w2 ⟨rfl, hb2⟩
    rw [← HW1.out] at hb2
    have Z2 := Z1.keep hb2
    have b2 := b1.trans (hb2.mono b1.size)
    have sz2 := b2.size
    have l2 := Z2.lt
    have S3 := Bk.new w2 (cellsK 0) 36
    obtain ⟨w4, hw4⟩ : ∃ q, q = (w2.alloc (.cells (cellsK 0) 36)).setRow w2.heap.size (cellsK 0) := ⟨_, rfl⟩
    have b24 : Below w2.heap.size w2 w4 := by rw [hw4]; exact below_setRow ((Below.refl _ _).alloc (Nat.le_refl _) _) (Nat.le_refl _) _
    have Z4 := Z2.keep b24
    have b4 := b2.trans (b24.mono sz2)
    clear Z1 b1 hb2 Z2 b2 HF HW1
    go_wp2_with (first | ((refine wpList_store_row rfl 36 _ _ rfl w2.heap.size (cellsK 0) rfl rfl _ _ (by exact S3) (by kernel_rfl) (by kernel_rfl) (by kernel_rfl) ?_); rw [← hw4]; clear hw4 S3) | (refine wpList_store_row rfl 24 _ _ rfl w.heap.size (opC OpD.zero) rfl rfl _ _ (by exact Z4) (by kernel_rfl) (by kernel_rfl) (by kernel_rfl) ?_))
    have Z5 := Z4.setRow (opC OpD.zero)
    have b5 := below_setRow b4 (Nat.le_refl w.heap.size) (opC OpD.zero)
    refine bodyPost_ret (v := .tuple #[opV OpD.zero, .bool false]) ?_ rfl ⟨rfl, b5⟩
    exact Rw.results_cell_slot (p := 2) (q := 3) (ty := 24) Tryd.results24 _ _ w.heap.size 24 _ (0, 0) _ rfl Z5 Tryd.underlying24 rfl (by kernel_rfl)
  | some k =>
    have hk : isKind k = true := by
      have := List.find?_some hfd
      have hm := List.mem_of_find?_eq_some hfd
      simp only [kinds, List.mem_cons, List.not_mem_nil, or_false] at hm
      rcases hm with rfl | rfl | rfl | rfl | rfl | rfl | rfl | rfl | rfl <;> rfl
    have hfl := flags hk
    rw [hfd] at hHF
    simp only [Option.getD_some, Option.isSome_some] at hHF
    rw [hw1] at hHF
    have hbk := build_opK k
    obtain ⟨nb, hnb⟩ : ∃ q, q = nameB k := ⟨_, rfl⟩
    obtain ⟨bh, hbh⟩ : ∃ q, q = sharesB k := ⟨_, rfl⟩
    have HFD := Lib.hid hfd
    clear hfd hk hw1
    rcases hfl with ⟨f1, f2, f3⟩ | ⟨f1, f2, f3⟩ | ⟨f1, f2, f3⟩ | ⟨f1, f2, f3⟩ | ⟨f1, f2, f3⟩
    · have hcK : cellsK k = shC nb false false false bh := by unfold cellsK; rw [f1, f2, f3, hnb, hbh]
      have hpt : pts k = [] := by unfold pts; rw [f1, f2, f3]; rfl
      rw [hcK] at hHF
      have HF := Lib.hid hHF
      have HPT := Lib.hid hpt
      clear hcK hpt f1 f2 f3 hnb hbh hHF
      go_enter Tryd.func24, Tryd.ntmps24
      go_wp2_with fail
      refine HF.out.mono ?_
      rintro e w2 ⟨rfl, hb2⟩
      rw [← HW1.out] at hb2
      have Z2 := Z1.keep hb2
      have b2 := b1.trans (hb2.mono b1.size)
      have sz2 := b2.size
      have l2 := Z2.lt
      have S3 := Bk.new w2 (cellsK 0) 36
      obtain ⟨gs, hgs⟩ : ∃ q, q = w2.heap.size := ⟨_, rfl⟩
      obtain ⟨w4, hw4⟩ : ∃ q, q = (w2.alloc (.cells (cellsK 0) 36)).setRow w2.heap.size (shC nb false false false bh) := ⟨_, rfl⟩
      have S4 : Bk w4 w2.heap.size (shC nb false false false bh) 36 := by rw [hw4]; exact S3.setRow _
      have b24 : Below w2.heap.size w2 w4 := by rw [hw4]; exact below_setRow ((Below.refl _ _).alloc (Nat.le_refl _) _) (Nat.le_refl _) _
      have Z4 := Z2.keep b24
      have b4 := b2.trans (b24.mono sz2)
      have sz4 := b4.size
      have X5 := Bk.new w4 (opC OpD.zero) 24
      obtain ⟨w6, hw6⟩ : ∃ q, q = (w4.alloc (.cells (opC OpD.zero) 24)).setRow w4.heap.size (opC (opK k)) := ⟨_, rfl⟩
      have X6 : Bk w6 w4.heap.size (opC (opK k)) 24 := by rw [hw6]; exact X5.setRow _
      have b46 : Below w4.heap.size w4 w6 := by rw [hw6]; exact below_setRow ((Below.refl _ _).alloc (Nat.le_refl _) _) (Nat.le_refl _) _
      have Z6 := Z4.keep b46
      have S6 := S4.keep b46
      have b6 := b4.trans (b46.mono sz4)
      have l4 := Z4.lt
      have ls4 := S4.lt
      have lx6 := X6.lt
      have ls6 := S6.lt
      have sz6 := b6.size
      clear Z1 b1 hb2 Z2 b2 HF HW1 S4 b24 Z4 b4 b46
      have HS6 := Lib.hid S6
      have s6 := S6.cells
      clear S6
      have BZ0 : Below w6.heap.size w6 w6 := Below.refl _ _
      have OF0 : w6.ownsRow w6.heap.size 33 1 (.slice none 0 0) 0 [] := World.ownsRow_nil _ _ _ _
      by_cases hcnt : r.length = 0
      · have hne : nL = 1 := by rw [HNL.out]; simp only [List.length_cons]; omega
        subst hne
        have hrun := read_run HFD.out (by rw [HPT.out]; exact hcnt)
        rw [HPT.out] at hrun
        obtain rfl : r = [] := List.eq_nil_of_length_eq_zero hcnt
        have HRUN := Lib.hid hrun
        clear hrun hcnt
        clear HNL
        go_wp2_with (first | ((refine wpList_store_row rfl 36 _ _ rfl w2.heap.size (shC nb false false false bh) rfl rfl _ _ (by exact S3) (by kernel_rfl) (by kernel_rfl) (by kernel_rfl) ?_); rw [← hw4]; clear hw4 S3) | ((refine wpList_store_row rfl 24 _ _ rfl w4.heap.size (opC (opK k)) rfl rfl _ _ (by exact X5) (by kernel_rfl) (by kernel_rfl) (by kernel_rfl) ?_); rw [← hw6]; clear hw6 X5))
        have ZC := Z6.keep BZ0
        have bC := b6.trans (BZ0.mono sz6)
        have XC := X6.keep BZ0
        have sC := BZ0.size
        clear s6
        refine wp_loop_rounds 1 ?_
        rw [rounds_succ]
        have hr : readL (h :: []) = some (opK k) := by
          rw [HRUN.out]
          simp [Opn.runP, Opn.stepP, Opn.stepT, Opn.stepX, Opn.stepS, Option.bind_some]
        have hoo := HOO.out
        have hbb := HBB.out
        rw [hr] at hoo hbb
        simp only [Option.getD_none, Option.isSome_none, Option.getD_some, Option.isSome_some] at hoo hbb
        subst hoo; subst hbb
        clear hr
        go_wp2_with (first | (refine wpList_load_row rfl 24 _ rfl w4.heap.size rfl _ (opC (opK k)) (0, 0) _ (by exact XC) Tryd.underlying24 rfl (by kernel_rfl) ?_) | (refine wpList_store_row rfl 24 _ _ rfl w.heap.size (opC (opK k)) rfl rfl _ _ (by exact ZC) (by kernel_rfl) (by kernel_rfl) (by kernel_rfl) ?_))
        have Z9 := ZC.setRow (opC (opK k))
        have b9 := below_setRow bC (Nat.le_refl w.heap.size) (opC (opK k))
        refine bodyPost_ret (v := .tuple #[opV (opK k), .bool true]) ?_ rfl ⟨rfl, b9⟩
        exact Rw.results_cell_slot (p := 2) (q := 3) (ty := 24) Tryd.results24 _ _ w.heap.size 24 _ (0, 0) _ rfl Z9 Tryd.underlying24 rfl (by kernel_rfl)
      · have hne : ¬ (nL : Int) = 1 := by rw [HNL.out]; simp only [List.length_cons]; omega
        have hoo := HOO.out
        have hbb := HBB.out
        rw [read_count HFD.out (by rw [HPT.out]; exact hcnt)] at hoo hbb
        simp only [Option.getD_none, Option.isSome_none, Option.getD_some, Option.isSome_some] at hoo hbb
        subst hoo; subst hbb
        have HCN := Lib.hid hcnt
        clear hcnt
        have ZC := Z6.keep BZ0
        have bC := b6.trans (BZ0.mono sz6)
        go_wp2_with (first | (refine wpList_store_row rfl 24 _ _ rfl w.heap.size (opC OpD.zero) rfl rfl _ _ (by exact ZC) (by kernel_rfl) (by kernel_rfl) (by kernel_rfl) ?_) | ((refine wpList_store_row rfl 36 _ _ rfl w2.heap.size (shC nb false false false bh) rfl rfl _ _ (by exact S3) (by kernel_rfl) (by kernel_rfl) (by kernel_rfl) ?_); rw [← hw4]; clear hw4 S3) | ((refine wpList_store_row rfl 24 _ _ rfl w4.heap.size (opC (opK k)) rfl rfl _ _ (by exact X5) (by kernel_rfl) (by kernel_rfl) (by kernel_rfl) ?_); rw [← hw6]; clear hw6 X5))
        have Z9 := ZC.setRow (opC OpD.zero)
        have b9 := below_setRow bC (Nat.le_refl w.heap.size) (opC OpD.zero)
        refine bodyPost_ret (v := .tuple #[opV OpD.zero, .bool false]) ?_ rfl ⟨rfl, b9⟩
        exact Rw.results_cell_slot (p := 2) (q := 3) (ty := 24) Tryd.results24 _ _ w.heap.size 24 _ (0, 0) _ rfl Z9 Tryd.underlying24 rfl (by kernel_rfl)
    · have hcK : cellsK k = shC nb true false false bh := by unfold cellsK; rw [f1, f2, f3, hnb, hbh]
      have hpt : pts k = [0] := by unfold pts; rw [f1, f2, f3]; rfl
      rw [hcK] at hHF
      have HF := Lib.hid hHF
      have HPT := Lib.hid hpt
      clear hcK hpt f1 f2 f3 hnb hbh hHF
      go_enter Tryd.func24, Tryd.ntmps24
      go_wp2_with fail
      refine HF.out.mono ?_
      rintro e w2 ⟨rfl, hb2⟩
      rw [← HW1.out] at hb2
      have Z2 := Z1.keep hb2
      have b2 := b1.trans (hb2.mono b1.size)
      have sz2 := b2.size
      have l2 := Z2.lt
      have S3 := Bk.new w2 (cellsK 0) 36
      obtain ⟨gs, hgs⟩ : ∃ q, q = w2.heap.size := ⟨_, rfl⟩
      obtain ⟨w4, hw4⟩ : ∃ q, q = (w2.alloc (.cells (cellsK 0) 36)).setRow w2.heap.size (shC nb true false false bh) := ⟨_, rfl⟩
      have S4 : Bk w4 w2.heap.size (shC nb true false false bh) 36 := by rw [hw4]; exact S3.setRow _
      have b24 : Below w2.heap.size w2 w4 := by rw [hw4]; exact below_setRow ((Below.refl _ _).alloc (Nat.le_refl _) _) (Nat.le_refl _) _
      have Z4 := Z2.keep b24
      have b4 := b2.trans (b24.mono sz2)
      have sz4 := b4.size
      have X5 := Bk.new w4 (opC OpD.zero) 24
      obtain ⟨w6, hw6⟩ : ∃ q, q = (w4.alloc (.cells (opC OpD.zero) 24)).setRow w4.heap.size (opC (opK k)) := ⟨_, rfl⟩
      have X6 : Bk w6 w4.heap.size (opC (opK k)) 24 := by rw [hw6]; exact X5.setRow _
      have b46 : Below w4.heap.size w4 w6 := by rw [hw6]; exact below_setRow ((Below.refl _ _).alloc (Nat.le_refl _) _) (Nat.le_refl _) _
      have Z6 := Z4.keep b46
      have S6 := S4.keep b46
      have b6 := b4.trans (b46.mono sz4)
      have l4 := Z4.lt
      have ls4 := S4.lt
      have lx6 := X6.lt
      have ls6 := S6.lt
      have sz6 := b6.size
      clear Z1 b1 hb2 Z2 b2 HF HW1 S4 b24 Z4 b4 b46
      have HS6 := Lib.hid S6
      have s6 := S6.cells
      clear S6
      have BZ0 : Below w6.heap.size w6 w6 := Below.refl _ _
      have OF0 : w6.ownsRow w6.heap.size 33 1 (.slice none 0 0) 0 [] := World.ownsRow_nil _ _ _ _
      have BA0 : Below w6.heap.size w6 (w6.alloc (.cells #[(cloV 32 w4.heap.size)] 33)) := BZ0.alloc BZ0.size _
      have OA0 := owns_below OF0 ((Below.refl w6.heap.size w6).alloc (Nat.le_refl _) (.cells #[(cloV 32 w4.heap.size)] 33)) (fun g hg => (World.ownsRow.lt OF0 g hg).2)
      have bs0 := BZ0.size
      by_cases hcnt : r.length = 1
      · have hne : nL = 2 := by rw [HNL.out]; simp only [List.length_cons]; omega
        subst hne
        have hrun := read_run HFD.out (by rw [HPT.out]; exact hcnt)
        rw [HPT.out] at hrun
        obtain ⟨p1, rfl⟩ := List.length_eq_one_iff.1 hcnt
        have HRUN := Lib.hid hrun
        clear hrun hcnt
        have hw1 : w.cell? ⟨gw, 1, none⟩ = some (strV p1) := HCW.out 1 (by simp)
        have hx1 : p1.length ≤ 1000 := HX.out p1 (by simp)
        clear HNL
        go_wp2_with (first | ((refine wpList_store_row rfl 36 _ _ rfl w2.heap.size (shC nb true false false bh) rfl rfl _ _ (by exact S3) (by kernel_rfl) (by kernel_rfl) (by kernel_rfl) ?_); rw [← hw4]; clear hw4 S3) | ((refine wpList_store_row rfl 24 _ _ rfl w4.heap.size (opC (opK k)) rfl rfl _ _ (by exact X5) (by kernel_rfl) (by kernel_rfl) (by kernel_rfl) ?_); rw [← hw6]; clear hw6 X5) | (at_builtin; refine append_row elemF rfl _ _ rfl w6.heap.size (.slice none 0 0) 0 [] rfl OA0 w6.heap.size 1 1 [(cloV 32 w4.heap.size)] rfl rfl (new_cells _ _ _) (fun u hu => by obtain rfl := List.mem_singleton.1 hu; rfl) (by decide) (by decide) (by simp only [World.size_alloc]; omega) ?_; intro vv u1 ON hbn; have BZ1 := BA0.trans hbn; obtain ⟨gp1, cp1, rfl, hgp1, hgl1, _, _, hpc1⟩ := owns_cells ON (by decide); have s6 := ((HS6.out).keep BZ1).cells; clear OA0 BA0 hbn bs0 OF0))
        have OF1 : u1.ownsRow w6.heap.size 33 1 (.slice (some ⟨gp1, 0, none⟩) 1 cp1) 1 [(cloV 32 w4.heap.size)] := ON
        clear ON
        have ZC := Z6.keep BZ1
        have bC := b6.trans (BZ1.mono sz6)
        have XC := X6.keep BZ1
        have sC := BZ1.size
        clear s6
        have hk1 := (bC.cell (show (⟨gw, 1, none⟩ : Addr).block < w.heap.size from hwl)).trans hw1
        have hq1 : u1.cell? ⟨gp1, 0, none⟩ = some (cloV 32 w4.heap.size) := hpc1 0 (by simp)
        clear hw1
        refine wp_loop_rounds 2 ?_
        rw [rounds_succ]
        have HC := Lib.hid (fRead1 ⟨p1.toArray⟩ (show (⟨p1.toArray⟩ : ByteArray).size ≤ 1000 from hx1) w u1 HL.out bC w4.heap.size (by omega) (opK k) XC rfl rfl rfl rfl)
        unfold TkPost at HC
        have epp : (⟨p1.toArray⟩ : ByteArray).data.toList = p1 := rfl
        rw [epp] at HC
        clear epp
        cases hrd : rdT p1 with
        | none =>
          rw [hrd] at HC
          simp only [Option.isSome_none] at HC
          have hr : readL (h :: [p1]) = none := by
            rw [HRUN.out]
            simp [Opn.runP, Opn.stepP, Opn.stepT, Opn.stepX, Opn.stepS, hrd]
          have hoo := HOO.out
          have hbb := HBB.out
          rw [hr] at hoo hbb
          simp only [Option.getD_none, Option.isSome_none, Option.getD_some, Option.isSome_some] at hoo hbb
          subst hoo; subst hbb
          clear hr hrd
          go_wp2_with fail
          refine HC.out.mono ?_
          rintro e z1 ⟨o', XN, OC, rfl, hv⟩
          clear hv
          have ZN := OC.bk ZC (by omega)
          have bN := bC.trans (OC.below (by omega) bC.size)
          have sN := OC.size
          clear hk1 hq1 ZC bC XC HC OC
          have ZC := ZN
          have bC := bN
          clear ZN bN
          have Z9 := ZC.setRow (opC OpD.zero)
          have b9 := below_setRow bC (Nat.le_refl w.heap.size) (opC OpD.zero)
          go_wp2_with (refine wpList_store_row rfl 24 _ _ rfl w.heap.size (opC OpD.zero) rfl rfl _ _ (by exact ZC) (by kernel_rfl) (by kernel_rfl) (by kernel_rfl) ?_)
          refine bodyPost_ret (v := .tuple #[opV OpD.zero, .bool false]) ?_ rfl ⟨rfl, b9⟩
          exact Rw.results_cell_slot (p := 2) (q := 3) (ty := 24) Tryd.results24 _ _ w.heap.size 24 _ (0, 0) _ rfl Z9 Tryd.underlying24 rfl (by kernel_rfl)
        | some q =>
          obtain ⟨t1, u1, b1', n1⟩ := q
          rw [hrd] at HC
          simp only [Option.isSome_some] at HC
          have HRD0 := Lib.hid hrd
          clear hrd
          go_wp2_with fail
          refine HC.out.mono ?_
          rintro e z1 ⟨o', XN, OC, rfl, hv⟩
          have hv' := hv _ rfl
          subst hv'
          clear hv
          have XM : Bk z1 w4.heap.size (opC (⟨k, t1, 0, 0, u1, b1', n1⟩ : OpD)) 24 := XN
          clear XN
          have ZN := OC.bk ZC (by omega)
          have bN := bC.trans (OC.below (by omega) bC.size)
          have sN := OC.size
          clear hk1 hq1 ZC bC XC HC OC
          have ZC := ZN
          have bC := bN
          clear ZN bN
          have XC := XM
          clear XM
          go_wp2_with fail
          rw [rounds_succ]
          have hr : readL (h :: [p1]) = some (⟨k, t1, 0, 0, u1, b1', n1⟩ : OpD) := by
            rw [HRUN.out]
            simp [Opn.runP, Opn.stepP, Opn.stepT, Opn.stepX, Opn.stepS, HRD0.out]
          have hoo := HOO.out
          have hbb := HBB.out
          rw [hr] at hoo hbb
          simp only [Option.getD_none, Option.isSome_none, Option.getD_some, Option.isSome_some] at hoo hbb
          subst hoo; subst hbb
          clear hr
          go_wp2_with (first | (refine wpList_load_row rfl 24 _ rfl w4.heap.size rfl _ (opC (⟨k, t1, 0, 0, u1, b1', n1⟩ : OpD)) (0, 0) _ (by exact XC) Tryd.underlying24 rfl (by kernel_rfl) ?_) | (refine wpList_store_row rfl 24 _ _ rfl w.heap.size (opC (⟨k, t1, 0, 0, u1, b1', n1⟩ : OpD)) rfl rfl _ _ (by exact ZC) (by kernel_rfl) (by kernel_rfl) (by kernel_rfl) ?_))
          have Z9 := ZC.setRow (opC (⟨k, t1, 0, 0, u1, b1', n1⟩ : OpD))
          have b9 := below_setRow bC (Nat.le_refl w.heap.size) (opC (⟨k, t1, 0, 0, u1, b1', n1⟩ : OpD))
          refine bodyPost_ret (v := .tuple #[opV (⟨k, t1, 0, 0, u1, b1', n1⟩ : OpD), .bool true]) ?_ rfl ⟨rfl, b9⟩
          exact Rw.results_cell_slot (p := 2) (q := 3) (ty := 24) Tryd.results24 _ _ w.heap.size 24 _ (0, 0) _ rfl Z9 Tryd.underlying24 rfl (by kernel_rfl)
      · have hne : ¬ (nL : Int) = 2 := by rw [HNL.out]; simp only [List.length_cons]; omega
        have hoo := HOO.out
        have hbb := HBB.out
        rw [read_count HFD.out (by rw [HPT.out]; exact hcnt)] at hoo hbb
        simp only [Option.getD_none, Option.isSome_none, Option.getD_some, Option.isSome_some] at hoo hbb
        subst hoo; subst hbb
        have HCN := Lib.hid hcnt
        clear hcnt
        go_wp2_with (first | (refine wpList_store_row rfl 24 _ _ rfl w.heap.size (opC OpD.zero) rfl rfl _ _ (by exact ZC) (by kernel_rfl) (by kernel_rfl) (by kernel_rfl) ?_) | ((refine wpList_store_row rfl 36 _ _ rfl w2.heap.size (shC nb true false false bh) rfl rfl _ _ (by exact S3) (by kernel_rfl) (by kernel_rfl) (by kernel_rfl) ?_); rw [← hw4]; clear hw4 S3) | ((refine wpList_store_row rfl 24 _ _ rfl w4.heap.size (opC (opK k)) rfl rfl _ _ (by exact X5) (by kernel_rfl) (by kernel_rfl) (by kernel_rfl) ?_); rw [← hw6]; clear hw6 X5) | (at_builtin; refine append_row elemF rfl _ _ rfl w6.heap.size (.slice none 0 0) 0 [] rfl OA0 w6.heap.size 1 1 [(cloV 32 w4.heap.size)] rfl rfl (new_cells _ _ _) (fun u hu => by obtain rfl := List.mem_singleton.1 hu; rfl) (by decide) (by decide) (by simp only [World.size_alloc]; omega) ?_; intro vv u1 ON hbn; have BZ1 := BA0.trans hbn; obtain ⟨gp1, cp1, rfl, hgp1, hgl1, _, _, hpc1⟩ := owns_cells ON (by decide); have s6 := ((HS6.out).keep BZ1).cells; have ZC := Z6.keep BZ1; have bC := b6.trans (BZ1.mono sz6); clear OA0 BA0 hbn bs0 OF0))
        
        have Z9 := ZC.setRow (opC OpD.zero)
        have b9 := below_setRow bC (Nat.le_refl w.heap.size) (opC OpD.zero)
        refine bodyPost_ret (v := .tuple #[opV OpD.zero, .bool false]) ?_ rfl ⟨rfl, b9⟩
        exact Rw.results_cell_slot (p := 2) (q := 3) (ty := 24) Tryd.results24 _ _ w.heap.size 24 _ (0, 0) _ rfl Z9 Tryd.underlying24 rfl (by kernel_rfl)
    · have hcK : cellsK k = shC nb false true false bh := by unfold cellsK; rw [f1, f2, f3, hnb, hbh]
      have hpt : pts k = [1] := by unfold pts; rw [f1, f2, f3]; rfl
      rw [hcK] at hHF
      have HF := Lib.hid hHF
      have HPT := Lib.hid hpt
      clear hcK hpt f1 f2 f3 hnb hbh hHF
      go_enter Tryd.func24, Tryd.ntmps24
      go_wp2_with fail
      refine HF.out.mono ?_
      rintro e w2 ⟨rfl, hb2⟩
      rw [← HW1.out] at hb2
      have Z2 := Z1.keep hb2
      have b2 := b1.trans (hb2.mono b1.size)
      have sz2 := b2.size
      have l2 := Z2.lt
      have S3 := Bk.new w2 (cellsK 0) 36
      obtain ⟨gs, hgs⟩ : ∃ q, q = w2.heap.size := ⟨_, rfl⟩
      obtain ⟨w4, hw4⟩ : ∃ q, q = (w2.alloc (.cells (cellsK 0) 36)).setRow w2.heap.size (shC nb false true false bh) := ⟨_, rfl⟩
      have S4 : Bk w4 w2.heap.size (shC nb false true false bh) 36 := by rw [hw4]; exact S3.setRow _
      have b24 : Below w2.heap.size w2 w4 := by rw [hw4]; exact below_setRow ((Below.refl _ _).alloc (Nat.le_refl _) _) (Nat.le_refl _) _
      have Z4 := Z2.keep b24
      have b4 := b2.trans (b24.mono sz2)
      have sz4 := b4.size
      have X5 := Bk.new w4 (opC OpD.zero) 24
      obtain ⟨w6, hw6⟩ : ∃ q, q = (w4.alloc (.cells (opC OpD.zero) 24)).setRow w4.heap.size (opC (opK k)) := ⟨_, rfl⟩
      have X6 : Bk w6 w4.heap.size (opC (opK k)) 24 := by rw [hw6]; exact X5.setRow _
      have b46 : Below w4.heap.size w4 w6 := by rw [hw6]; exact below_setRow ((Below.refl _ _).alloc (Nat.le_refl _) _) (Nat.le_refl _) _
      have Z6 := Z4.keep b46
      have S6 := S4.keep b46
      have b6 := b4.trans (b46.mono sz4)
      have l4 := Z4.lt
      have ls4 := S4.lt
      have lx6 := X6.lt
      have ls6 := S6.lt
      have sz6 := b6.size
      clear Z1 b1 hb2 Z2 b2 HF HW1 S4 b24 Z4 b4 b46
      have HS6 := Lib.hid S6
      have s6 := S6.cells
      clear S6
      have BZ0 : Below w6.heap.size w6 w6 := Below.refl _ _
      have OF0 : w6.ownsRow w6.heap.size 33 1 (.slice none 0 0) 0 [] := World.ownsRow_nil _ _ _ _
      have BA0 : Below w6.heap.size w6 (w6.alloc (.cells #[(cloV 34 w4.heap.size)] 33)) := BZ0.alloc BZ0.size _
      have OA0 := owns_below OF0 ((Below.refl w6.heap.size w6).alloc (Nat.le_refl _) (.cells #[(cloV 34 w4.heap.size)] 33)) (fun g hg => (World.ownsRow.lt OF0 g hg).2)
      have bs0 := BZ0.size
      by_cases hcnt : r.length = 1
      · have hne : nL = 2 := by rw [HNL.out]; simp only [List.length_cons]; omega
        subst hne
        have hrun := read_run HFD.out (by rw [HPT.out]; exact hcnt)
        rw [HPT.out] at hrun
        obtain ⟨p1, rfl⟩ := List.length_eq_one_iff.1 hcnt
        have HRUN := Lib.hid hrun
        clear hrun hcnt
        have hw1 : w.cell? ⟨gw, 1, none⟩ = some (strV p1) := HCW.out 1 (by simp)
        have hx1 : p1.length ≤ 1000 := HX.out p1 (by simp)
        clear HNL
        go_wp2_with (first | ((refine wpList_store_row rfl 36 _ _ rfl w2.heap.size (shC nb false true false bh) rfl rfl _ _ (by exact S3) (by kernel_rfl) (by kernel_rfl) (by kernel_rfl) ?_); rw [← hw4]; clear hw4 S3) | ((refine wpList_store_row rfl 24 _ _ rfl w4.heap.size (opC (opK k)) rfl rfl _ _ (by exact X5) (by kernel_rfl) (by kernel_rfl) (by kernel_rfl) ?_); rw [← hw6]; clear hw6 X5) | (at_builtin; refine append_row elemF rfl _ _ rfl w6.heap.size (.slice none 0 0) 0 [] rfl OA0 w6.heap.size 1 1 [(cloV 34 w4.heap.size)] rfl rfl (new_cells _ _ _) (fun u hu => by obtain rfl := List.mem_singleton.1 hu; rfl) (by decide) (by decide) (by simp only [World.size_alloc]; omega) ?_; intro vv u1 ON hbn; have BZ1 := BA0.trans hbn; obtain ⟨gp1, cp1, rfl, hgp1, hgl1, _, _, hpc1⟩ := owns_cells ON (by decide); have s6 := ((HS6.out).keep BZ1).cells; clear OA0 BA0 hbn bs0 OF0))
        have OF1 : u1.ownsRow w6.heap.size 33 1 (.slice (some ⟨gp1, 0, none⟩) 1 cp1) 1 [(cloV 34 w4.heap.size)] := ON
        clear ON
        have ZC := Z6.keep BZ1
        have bC := b6.trans (BZ1.mono sz6)
        have XC := X6.keep BZ1
        have sC := BZ1.size
        clear s6
        have hk1 := (bC.cell (show (⟨gw, 1, none⟩ : Addr).block < w.heap.size from hwl)).trans hw1
        have hq1 : u1.cell? ⟨gp1, 0, none⟩ = some (cloV 34 w4.heap.size) := hpc1 0 (by simp)
        clear hw1
        refine wp_loop_rounds 2 ?_
        rw [rounds_succ]
        have HC := Lib.hid (fRead2 ⟨p1.toArray⟩ (show (⟨p1.toArray⟩ : ByteArray).size ≤ 1000 from hx1) u1 (HL.out.keep bC) w4.heap.size (opK k) XC)
        unfold WdPost at HC
        have epp : (⟨p1.toArray⟩ : ByteArray).data.toList = p1 := rfl
        rw [epp] at HC
        clear epp
        cases hrd : rdN 64 p1 with
        | none =>
          rw [hrd] at HC
          simp only [Option.isSome_none] at HC
          have hr : readL (h :: [p1]) = none := by
            rw [HRUN.out]
            simp [Opn.runP, Opn.stepP, Opn.stepT, Opn.stepX, Opn.stepS, hrd]
          have hoo := HOO.out
          have hbb := HBB.out
          rw [hr] at hoo hbb
          simp only [Option.getD_none, Option.isSome_none, Option.getD_some, Option.isSome_some] at hoo hbb
          subst hoo; subst hbb
          clear hr hrd
          go_wp2_with fail
          refine HC.out.mono ?_
          rintro e z1 ⟨v', XN, OC, rfl, hv⟩
          clear hv
          have ZN := OC.bk ZC (by omega)
          have bN := bC.trans (OC.below (by omega) bC.size)
          have sN := OC.size
          clear hk1 hq1 ZC bC XC HC OC
          have ZC := ZN
          have bC := bN
          clear ZN bN
          have Z9 := ZC.setRow (opC OpD.zero)
          have b9 := below_setRow bC (Nat.le_refl w.heap.size) (opC OpD.zero)
          go_wp2_with (refine wpList_store_row rfl 24 _ _ rfl w.heap.size (opC OpD.zero) rfl rfl _ _ (by exact ZC) (by kernel_rfl) (by kernel_rfl) (by kernel_rfl) ?_)
          refine bodyPost_ret (v := .tuple #[opV OpD.zero, .bool false]) ?_ rfl ⟨rfl, b9⟩
          exact Rw.results_cell_slot (p := 2) (q := 3) (ty := 24) Tryd.results24 _ _ w.heap.size 24 _ (0, 0) _ rfl Z9 Tryd.underlying24 rfl (by kernel_rfl)
        | some q =>
          rw [hrd] at HC
          simp only [Option.isSome_some] at HC
          have HRD0 := Lib.hid hrd
          clear hrd
          go_wp2_with fail
          refine HC.out.mono ?_
          rintro e z1 ⟨v', XN, OC, rfl, hv⟩
          have hv' := hv _ rfl
          subst hv'
          clear hv
          have XM : Bk z1 w4.heap.size (opC (⟨k, 0, (q : Int), 0, false, 0, 0⟩ : OpD)) 24 := XN
          clear XN
          have ZN := OC.bk ZC (by omega)
          have bN := bC.trans (OC.below (by omega) bC.size)
          have sN := OC.size
          clear hk1 hq1 ZC bC XC HC OC
          have ZC := ZN
          have bC := bN
          clear ZN bN
          have XC := XM
          clear XM
          go_wp2_with fail
          rw [rounds_succ]
          have hr : readL (h :: [p1]) = some (⟨k, 0, (q : Int), 0, false, 0, 0⟩ : OpD) := by
            rw [HRUN.out]
            simp [Opn.runP, Opn.stepP, Opn.stepT, Opn.stepX, Opn.stepS, HRD0.out]
          have hoo := HOO.out
          have hbb := HBB.out
          rw [hr] at hoo hbb
          simp only [Option.getD_none, Option.isSome_none, Option.getD_some, Option.isSome_some] at hoo hbb
          subst hoo; subst hbb
          clear hr
          go_wp2_with (first | (refine wpList_load_row rfl 24 _ rfl w4.heap.size rfl _ (opC (⟨k, 0, (q : Int), 0, false, 0, 0⟩ : OpD)) (0, 0) _ (by exact XC) Tryd.underlying24 rfl (by kernel_rfl) ?_) | (refine wpList_store_row rfl 24 _ _ rfl w.heap.size (opC (⟨k, 0, (q : Int), 0, false, 0, 0⟩ : OpD)) rfl rfl _ _ (by exact ZC) (by kernel_rfl) (by kernel_rfl) (by kernel_rfl) ?_))
          have Z9 := ZC.setRow (opC (⟨k, 0, (q : Int), 0, false, 0, 0⟩ : OpD))
          have b9 := below_setRow bC (Nat.le_refl w.heap.size) (opC (⟨k, 0, (q : Int), 0, false, 0, 0⟩ : OpD))
          refine bodyPost_ret (v := .tuple #[opV (⟨k, 0, (q : Int), 0, false, 0, 0⟩ : OpD), .bool true]) ?_ rfl ⟨rfl, b9⟩
          exact Rw.results_cell_slot (p := 2) (q := 3) (ty := 24) Tryd.results24 _ _ w.heap.size 24 _ (0, 0) _ rfl Z9 Tryd.underlying24 rfl (by kernel_rfl)
      · have hne : ¬ (nL : Int) = 2 := by rw [HNL.out]; simp only [List.length_cons]; omega
        have hoo := HOO.out
        have hbb := HBB.out
        rw [read_count HFD.out (by rw [HPT.out]; exact hcnt)] at hoo hbb
        simp only [Option.getD_none, Option.isSome_none, Option.getD_some, Option.isSome_some] at hoo hbb
        subst hoo; subst hbb
        have HCN := Lib.hid hcnt
        clear hcnt
        go_wp2_with (first | (refine wpList_store_row rfl 24 _ _ rfl w.heap.size (opC OpD.zero) rfl rfl _ _ (by exact ZC) (by kernel_rfl) (by kernel_rfl) (by kernel_rfl) ?_) | ((refine wpList_store_row rfl 36 _ _ rfl w2.heap.size (shC nb false true false bh) rfl rfl _ _ (by exact S3) (by kernel_rfl) (by kernel_rfl) (by kernel_rfl) ?_); rw [← hw4]; clear hw4 S3) | ((refine wpList_store_row rfl 24 _ _ rfl w4.heap.size (opC (opK k)) rfl rfl _ _ (by exact X5) (by kernel_rfl) (by kernel_rfl) (by kernel_rfl) ?_); rw [← hw6]; clear hw6 X5) | (at_builtin; refine append_row elemF rfl _ _ rfl w6.heap.size (.slice none 0 0) 0 [] rfl OA0 w6.heap.size 1 1 [(cloV 34 w4.heap.size)] rfl rfl (new_cells _ _ _) (fun u hu => by obtain rfl := List.mem_singleton.1 hu; rfl) (by decide) (by decide) (by simp only [World.size_alloc]; omega) ?_; intro vv u1 ON hbn; have BZ1 := BA0.trans hbn; obtain ⟨gp1, cp1, rfl, hgp1, hgl1, _, _, hpc1⟩ := owns_cells ON (by decide); have s6 := ((HS6.out).keep BZ1).cells; have ZC := Z6.keep BZ1; have bC := b6.trans (BZ1.mono sz6); clear OA0 BA0 hbn bs0 OF0))
        
        have Z9 := ZC.setRow (opC OpD.zero)
        have b9 := below_setRow bC (Nat.le_refl w.heap.size) (opC OpD.zero)
        refine bodyPost_ret (v := .tuple #[opV OpD.zero, .bool false]) ?_ rfl ⟨rfl, b9⟩
        exact Rw.results_cell_slot (p := 2) (q := 3) (ty := 24) Tryd.results24 _ _ w.heap.size 24 _ (0, 0) _ rfl Z9 Tryd.underlying24 rfl (by kernel_rfl)
    · have hcK : cellsK k = shC nb true true false bh := by unfold cellsK; rw [f1, f2, f3, hnb, hbh]
      have hpt : pts k = [0, 1] := by unfold pts; rw [f1, f2, f3]; rfl
      rw [hcK] at hHF
      have HF := Lib.hid hHF
      have HPT := Lib.hid hpt
      clear hcK hpt f1 f2 f3 hnb hbh hHF
      go_enter Tryd.func24, Tryd.ntmps24
      go_wp2_with fail
      refine HF.out.mono ?_
      rintro e w2 ⟨rfl, hb2⟩
      rw [← HW1.out] at hb2
      have Z2 := Z1.keep hb2
      have b2 := b1.trans (hb2.mono b1.size)
      have sz2 := b2.size
      have l2 := Z2.lt
      have S3 := Bk.new w2 (cellsK 0) 36
      obtain ⟨gs, hgs⟩ : ∃ q, q = w2.heap.size := ⟨_, rfl⟩
      obtain ⟨w4, hw4⟩ : ∃ q, q = (w2.alloc (.cells (cellsK 0) 36)).setRow w2.heap.size (shC nb true true false bh) := ⟨_, rfl⟩
      have S4 : Bk w4 w2.heap.size (shC nb true true false bh) 36 := by rw [hw4]; exact S3.setRow _
      have b24 : Below w2.heap.size w2 w4 := by rw [hw4]; exact below_setRow ((Below.refl _ _).alloc (Nat.le_refl _) _) (Nat.le_refl _) _
      have Z4 := Z2.keep b24
      have b4 := b2.trans (b24.mono sz2)
      have sz4 := b4.size
      have X5 := Bk.new w4 (opC OpD.zero) 24
      obtain ⟨w6, hw6⟩ : ∃ q, q = (w4.alloc (.cells (opC OpD.zero) 24)).setRow w4.heap.size (opC (opK k)) := ⟨_, rfl⟩
      have X6 : Bk w6 w4.heap.size (opC (opK k)) 24 := by rw [hw6]; exact X5.setRow _
      have b46 : Below w4.heap.size w4 w6 := by rw [hw6]; exact below_setRow ((Below.refl _ _).alloc (Nat.le_refl _) _) (Nat.le_refl _) _
      have Z6 := Z4.keep b46
      have S6 := S4.keep b46
      have b6 := b4.trans (b46.mono sz4)
      have l4 := Z4.lt
      have ls4 := S4.lt
      have lx6 := X6.lt
      have ls6 := S6.lt
      have sz6 := b6.size
      clear Z1 b1 hb2 Z2 b2 HF HW1 S4 b24 Z4 b4 b46
      have HS6 := Lib.hid S6
      have s6 := S6.cells
      clear S6
      have BZ0 : Below w6.heap.size w6 w6 := Below.refl _ _
      have OF0 : w6.ownsRow w6.heap.size 33 1 (.slice none 0 0) 0 [] := World.ownsRow_nil _ _ _ _
      have BA0 : Below w6.heap.size w6 (w6.alloc (.cells #[(cloV 32 w4.heap.size)] 33)) := BZ0.alloc BZ0.size _
      have OA0 := owns_below OF0 ((Below.refl w6.heap.size w6).alloc (Nat.le_refl _) (.cells #[(cloV 32 w4.heap.size)] 33)) (fun g hg => (World.ownsRow.lt OF0 g hg).2)
      have bs0 := BZ0.size
      go_upto_region 9 with (first | ((refine wpList_store_row rfl 36 _ _ rfl w2.heap.size (shC nb true true false bh) rfl rfl _ _ (by exact S3) (by kernel_rfl) (by kernel_rfl) (by kernel_rfl) ?_); rw [← hw4]; clear hw4 S3) | ((refine wpList_store_row rfl 24 _ _ rfl w4.heap.size (opC (opK k)) rfl rfl _ _ (by exact X5) (by kernel_rfl) (by kernel_rfl) (by kernel_rfl) ?_); rw [← hw6]; clear hw6 X5) | (at_builtin; refine append_row elemF rfl _ _ rfl w6.heap.size (.slice none 0 0) 0 [] rfl OA0 w6.heap.size 1 1 [(cloV 32 w4.heap.size)] rfl rfl (new_cells _ _ _) (fun u hu => by obtain rfl := List.mem_singleton.1 hu; rfl) (by decide) (by decide) (by simp only [World.size_alloc]; omega) ?_; intro vv u1 ON hbn; have BZ1 := BA0.trans hbn; obtain ⟨gp1, cp1, rfl, hgp1, hgl1, _, _, hpc1⟩ := owns_cells ON (by decide); have s6 := ((HS6.out).keep BZ1).cells; clear OA0 BA0 hbn bs0 OF0))
      have OF1 : u1.ownsRow w6.heap.size 33 1 (.slice (some ⟨gp1, 0, none⟩) 1 cp1) 1 [(cloV 32 w4.heap.size)] := ON
      clear ON
      have BA1 : Below w6.heap.size w6 (u1.alloc (.cells #[(cloV 34 w4.heap.size)] 33)) := BZ1.alloc BZ1.size _
      have OA1 := owns_below OF1 ((Below.refl u1.heap.size u1).alloc (Nat.le_refl _) (.cells #[(cloV 34 w4.heap.size)] 33)) (fun g hg => (World.ownsRow.lt OF1 g hg).2)
      have bs1 := BZ1.size
      clear s6
      by_cases hcnt : r.length = 2
      · have hne : nL = 3 := by rw [HNL.out]; simp only [List.length_cons]; omega
        subst hne
        have hrun := read_run HFD.out (by rw [HPT.out]; exact hcnt)
        rw [HPT.out] at hrun
        obtain ⟨p1, p2, rfl⟩ : ∃ p1 p2, r = [p1, p2] := by
          match r, hcnt with
          | [a, b], _ => exact ⟨a, b, rfl⟩
        have HRUN := Lib.hid hrun
        clear hrun hcnt
        have hw1 : w.cell? ⟨gw, 1, none⟩ = some (strV p1) := HCW.out 1 (by simp)
        have hx1 : p1.length ≤ 1000 := HX.out p1 (by simp)
        have hw2 : w.cell? ⟨gw, 2, none⟩ = some (strV p2) := HCW.out 2 (by simp)
        have hx2 : p2.length ≤ 1000 := HX.out p2 (by simp)
        clear HNL
        go_wp2_with (first | fail | (at_builtin; refine append_row elemF rfl _ _ rfl w6.heap.size (.slice (some ⟨gp1, 0, none⟩) 1 cp1) 1 [(cloV 32 w4.heap.size)] rfl OA1 u1.heap.size 1 1 [(cloV 34 w4.heap.size)] rfl rfl (new_cells _ _ _) (fun u hu => by obtain rfl := List.mem_singleton.1 hu; rfl) (by decide) (by decide) (by simp only [World.size_alloc]; omega) ?_; intro vv u2 ON hbn; have BZ2 := BA1.trans hbn; obtain ⟨gp2, cp2, rfl, hgp2, hgl2, _, _, hpc2⟩ := owns_cells ON (by decide); have s6 := ((HS6.out).keep BZ2).cells; clear OA1 BA1 hbn bs1 OF1))
        have OF2 : u2.ownsRow w6.heap.size 33 1 (.slice (some ⟨gp2, 0, none⟩) 2 cp2) 2 [(cloV 32 w4.heap.size), (cloV 34 w4.heap.size)] := ON
        clear ON
        have ZC := Z6.keep BZ2
        have bC := b6.trans (BZ2.mono sz6)
        have XC := X6.keep BZ2
        have sC := BZ2.size
        clear s6
        have hk1 := (bC.cell (show (⟨gw, 1, none⟩ : Addr).block < w.heap.size from hwl)).trans hw1
        have hq1 : u2.cell? ⟨gp2, 0, none⟩ = some (cloV 32 w4.heap.size) := hpc2 0 (by simp)
        have hk2 := (bC.cell (show (⟨gw, 2, none⟩ : Addr).block < w.heap.size from hwl)).trans hw2
        have hq2 : u2.cell? ⟨gp2, 1, none⟩ = some (cloV 34 w4.heap.size) := hpc2 1 (by simp)
        clear hw1
        clear hw2
        refine wp_loop_rounds 3 ?_
        rw [rounds_succ]
        have HC := Lib.hid (fRead1 ⟨p1.toArray⟩ (show (⟨p1.toArray⟩ : ByteArray).size ≤ 1000 from hx1) w u2 HL.out bC w4.heap.size (by omega) (opK k) XC rfl rfl rfl rfl)
        unfold TkPost at HC
        have epp : (⟨p1.toArray⟩ : ByteArray).data.toList = p1 := rfl
        rw [epp] at HC
        clear epp
        cases hrd : rdT p1 with
        | none =>
          rw [hrd] at HC
          simp only [Option.isSome_none] at HC
          have hr : readL (h :: [p1, p2]) = none := by
            rw [HRUN.out]
            simp [Opn.runP, Opn.stepP, Opn.stepT, Opn.stepX, Opn.stepS, hrd]
          have hoo := HOO.out
          have hbb := HBB.out
          rw [hr] at hoo hbb
          simp only [Option.getD_none, Option.isSome_none, Option.getD_some, Option.isSome_some] at hoo hbb
          subst hoo; subst hbb
          clear hr hrd
          go_wp2_with fail
          refine HC.out.mono ?_
          rintro e z1 ⟨o', XN, OC, rfl, hv⟩
          clear hv
          have ZN := OC.bk ZC (by omega)
          have bN := bC.trans (OC.below (by omega) bC.size)
          have sN := OC.size
          have hk2 := OC.cellq hk2 (by omega)
          have hq2 := OC.cellq hq2 (by omega)
          clear hk1 hq1 ZC bC XC HC OC
          have ZC := ZN
          have bC := bN
          clear ZN bN
          have Z9 := ZC.setRow (opC OpD.zero)
          have b9 := below_setRow bC (Nat.le_refl w.heap.size) (opC OpD.zero)
          go_wp2_with (refine wpList_store_row rfl 24 _ _ rfl w.heap.size (opC OpD.zero) rfl rfl _ _ (by exact ZC) (by kernel_rfl) (by kernel_rfl) (by kernel_rfl) ?_)
          refine bodyPost_ret (v := .tuple #[opV OpD.zero, .bool false]) ?_ rfl ⟨rfl, b9⟩
          exact Rw.results_cell_slot (p := 2) (q := 3) (ty := 24) Tryd.results24 _ _ w.heap.size 24 _ (0, 0) _ rfl Z9 Tryd.underlying24 rfl (by kernel_rfl)
        | some q =>
          obtain ⟨t1, u1, b1', n1⟩ := q
          rw [hrd] at HC
          simp only [Option.isSome_some] at HC
          have HRD0 := Lib.hid hrd
          clear hrd
          go_wp2_with fail
          refine HC.out.mono ?_
          rintro e z1 ⟨o', XN, OC, rfl, hv⟩
          have hv' := hv _ rfl
          subst hv'
          clear hv
          have XM : Bk z1 w4.heap.size (opC (⟨k, t1, 0, 0, u1, b1', n1⟩ : OpD)) 24 := XN
          clear XN
          have ZN := OC.bk ZC (by omega)
          have bN := bC.trans (OC.below (by omega) bC.size)
          have sN := OC.size
          have hk2 := OC.cellq hk2 (by omega)
          have hq2 := OC.cellq hq2 (by omega)
          clear hk1 hq1 ZC bC XC HC OC
          have ZC := ZN
          have bC := bN
          clear ZN bN
          have XC := XM
          clear XM
          go_wp2_with fail
          rw [rounds_succ]
          have HC := Lib.hid (fRead2 ⟨p2.toArray⟩ (show (⟨p2.toArray⟩ : ByteArray).size ≤ 1000 from hx2) z1 (HL.out.keep bC) w4.heap.size (⟨k, t1, 0, 0, u1, b1', n1⟩ : OpD) XC)
          unfold WdPost at HC
          have epp : (⟨p2.toArray⟩ : ByteArray).data.toList = p2 := rfl
          rw [epp] at HC
          clear epp
          cases hrd : rdN 64 p2 with
          | none =>
            rw [hrd] at HC
            simp only [Option.isSome_none] at HC
            have hr : readL (h :: [p1, p2]) = none := by
              rw [HRUN.out]
              simp [Opn.runP, Opn.stepP, Opn.stepT, Opn.stepX, Opn.stepS, HRD0.out, hrd]
            have hoo := HOO.out
            have hbb := HBB.out
            rw [hr] at hoo hbb
            simp only [Option.getD_none, Option.isSome_none, Option.getD_some, Option.isSome_some] at hoo hbb
            subst hoo; subst hbb
            clear hr hrd
            go_wp2_with fail
            refine HC.out.mono ?_
            rintro e z2 ⟨v', XN, OC, rfl, hv⟩
            clear hv
            have ZN := OC.bk ZC (by omega)
            have bN := bC.trans (OC.below (by omega) bC.size)
            have sN := OC.size
            clear hk2 hq2 ZC bC XC HC OC
            have ZC := ZN
            have bC := bN
            clear ZN bN
            have Z9 := ZC.setRow (opC OpD.zero)
            have b9 := below_setRow bC (Nat.le_refl w.heap.size) (opC OpD.zero)
            go_wp2_with (refine wpList_store_row rfl 24 _ _ rfl w.heap.size (opC OpD.zero) rfl rfl _ _ (by exact ZC) (by kernel_rfl) (by kernel_rfl) (by kernel_rfl) ?_)
            refine bodyPost_ret (v := .tuple #[opV OpD.zero, .bool false]) ?_ rfl ⟨rfl, b9⟩
            exact Rw.results_cell_slot (p := 2) (q := 3) (ty := 24) Tryd.results24 _ _ w.heap.size 24 _ (0, 0) _ rfl Z9 Tryd.underlying24 rfl (by kernel_rfl)
          | some q =>
            rw [hrd] at HC
            simp only [Option.isSome_some] at HC
            have HRD1 := Lib.hid hrd
            clear hrd
            go_wp2_with fail
            refine HC.out.mono ?_
            rintro e z2 ⟨v', XN, OC, rfl, hv⟩
            have hv' := hv _ rfl
            subst hv'
            clear hv
            have XM : Bk z2 w4.heap.size (opC (⟨k, t1, (q : Int), 0, u1, b1', n1⟩ : OpD)) 24 := XN
            clear XN
            have ZN := OC.bk ZC (by omega)
            have bN := bC.trans (OC.below (by omega) bC.size)
            have sN := OC.size
            clear hk2 hq2 ZC bC XC HC OC
            have ZC := ZN
            have bC := bN
            clear ZN bN
            have XC := XM
            clear XM
            go_wp2_with fail
            rw [rounds_succ]
            have hr : readL (h :: [p1, p2]) = some (⟨k, t1, (q : Int), 0, u1, b1', n1⟩ : OpD) := by
              rw [HRUN.out]
              simp [Opn.runP, Opn.stepP, Opn.stepT, Opn.stepX, Opn.stepS, HRD0.out, HRD1.out]
            have hoo := HOO.out
            have hbb := HBB.out
            rw [hr] at hoo hbb
            simp only [Option.getD_none, Option.isSome_none, Option.getD_some, Option.isSome_some] at hoo hbb
            subst hoo; subst hbb
            clear hr
            go_wp2_with (first | (refine wpList_load_row rfl 24 _ rfl w4.heap.size rfl _ (opC (⟨k, t1, (q : Int), 0, u1, b1', n1⟩ : OpD)) (0, 0) _ (by exact XC) Tryd.underlying24 rfl (by kernel_rfl) ?_) | (refine wpList_store_row rfl 24 _ _ rfl w.heap.size (opC (⟨k, t1, (q : Int), 0, u1, b1', n1⟩ : OpD)) rfl rfl _ _ (by exact ZC) (by kernel_rfl) (by kernel_rfl) (by kernel_rfl) ?_))
            have Z9 := ZC.setRow (opC (⟨k, t1, (q : Int), 0, u1, b1', n1⟩ : OpD))
            have b9 := below_setRow bC (Nat.le_refl w.heap.size) (opC (⟨k, t1, (q : Int), 0, u1, b1', n1⟩ : OpD))
            refine bodyPost_ret (v := .tuple #[opV (⟨k, t1, (q : Int), 0, u1, b1', n1⟩ : OpD), .bool true]) ?_ rfl ⟨rfl, b9⟩
            exact Rw.results_cell_slot (p := 2) (q := 3) (ty := 24) Tryd.results24 _ _ w.heap.size 24 _ (0, 0) _ rfl Z9 Tryd.underlying24 rfl (by kernel_rfl)
      · have hne : ¬ (nL : Int) = 3 := by rw [HNL.out]; simp only [List.length_cons]; omega
        have hoo := HOO.out
        have hbb := HBB.out
        rw [read_count HFD.out (by rw [HPT.out]; exact hcnt)] at hoo hbb
        simp only [Option.getD_none, Option.isSome_none, Option.getD_some, Option.isSome_some] at hoo hbb
        subst hoo; subst hbb
        have HCN := Lib.hid hcnt
        clear hcnt
        go_wp2_with (first | (refine wpList_store_row rfl 24 _ _ rfl w.heap.size (opC OpD.zero) rfl rfl _ _ (by exact ZC) (by kernel_rfl) (by kernel_rfl) (by kernel_rfl) ?_) | fail | (at_builtin; refine append_row elemF rfl _ _ rfl w6.heap.size (.slice (some ⟨gp1, 0, none⟩) 1 cp1) 1 [(cloV 32 w4.heap.size)] rfl OA1 u1.heap.size 1 1 [(cloV 34 w4.heap.size)] rfl rfl (new_cells _ _ _) (fun u hu => by obtain rfl := List.mem_singleton.1 hu; rfl) (by decide) (by decide) (by simp only [World.size_alloc]; omega) ?_; intro vv u2 ON hbn; have BZ2 := BA1.trans hbn; obtain ⟨gp2, cp2, rfl, hgp2, hgl2, _, _, hpc2⟩ := owns_cells ON (by decide); have s6 := ((HS6.out).keep BZ2).cells; have ZC := Z6.keep BZ2; have bC := b6.trans (BZ2.mono sz6); clear OA1 BA1 hbn bs1 OF1))
        
        have Z9 := ZC.setRow (opC OpD.zero)
        have b9 := below_setRow bC (Nat.le_refl w.heap.size) (opC OpD.zero)
        refine bodyPost_ret (v := .tuple #[opV OpD.zero, .bool false]) ?_ rfl ⟨rfl, b9⟩
        exact Rw.results_cell_slot (p := 2) (q := 3) (ty := 24) Tryd.results24 _ _ w.heap.size 24 _ (0, 0) _ rfl Z9 Tryd.underlying24 rfl (by kernel_rfl)
    · have hcK : cellsK k = shC nb false false true bh := by unfold cellsK; rw [f1, f2, f3, hnb, hbh]
      have hpt : pts k = [2] := by unfold pts; rw [f1, f2, f3]; rfl
      rw [hcK] at hHF
      have HF := Lib.hid hHF
      have HPT := Lib.hid hpt
      clear hcK hpt f1 f2 f3 hnb hbh hHF
      go_enter Tryd.func24, Tryd.ntmps24
      go_wp2_with fail
      refine HF.out.mono ?_
      rintro e w2 ⟨rfl, hb2⟩
      rw [← HW1.out] at hb2
      have Z2 := Z1.keep hb2
      have b2 := b1.trans (hb2.mono b1.size)
      have sz2 := b2.size
      have l2 := Z2.lt
      have S3 := Bk.new w2 (cellsK 0) 36
      obtain ⟨gs, hgs⟩ : ∃ q, q = w2.heap.size := ⟨_, rfl⟩
      obtain ⟨w4, hw4⟩ : ∃ q, q = (w2.alloc (.cells (cellsK 0) 36)).setRow w2.heap.size (shC nb false false true bh) := ⟨_, rfl⟩
      have S4 : Bk w4 w2.heap.size (shC nb false false true bh) 36 := by rw [hw4]; exact S3.setRow _
      have b24 : Below w2.heap.size w2 w4 := by rw [hw4]; exact below_setRow ((Below.refl _ _).alloc (Nat.le_refl _) _) (Nat.le_refl _) _
      have Z4 := Z2.keep b24
      have b4 := b2.trans (b24.mono sz2)
      have sz4 := b4.size
      have X5 := Bk.new w4 (opC OpD.zero) 24
      obtain ⟨w6, hw6⟩ : ∃ q, q = (w4.alloc (.cells (opC OpD.zero) 24)).setRow w4.heap.size (opC (opK k)) := ⟨_, rfl⟩
      have X6 : Bk w6 w4.heap.size (opC (opK k)) 24 := by rw [hw6]; exact X5.setRow _
      have b46 : Below w4.heap.size w4 w6 := by rw [hw6]; exact below_setRow ((Below.refl _ _).alloc (Nat.le_refl _) _) (Nat.le_refl _) _
      have Z6 := Z4.keep b46
      have S6 := S4.keep b46
      have b6 := b4.trans (b46.mono sz4)
      have l4 := Z4.lt
      have ls4 := S4.lt
      have lx6 := X6.lt
      have ls6 := S6.lt
      have sz6 := b6.size
      clear Z1 b1 hb2 Z2 b2 HF HW1 S4 b24 Z4 b4 b46
      have HS6 := Lib.hid S6
      have s6 := S6.cells
      clear S6
      have BZ0 : Below w6.heap.size w6 w6 := Below.refl _ _
      have OF0 : w6.ownsRow w6.heap.size 33 1 (.slice none 0 0) 0 [] := World.ownsRow_nil _ _ _ _
      have BA0 : Below w6.heap.size w6 (w6.alloc (.cells #[(cloV 36 w4.heap.size)] 33)) := BZ0.alloc BZ0.size _
      have OA0 := owns_below OF0 ((Below.refl w6.heap.size w6).alloc (Nat.le_refl _) (.cells #[(cloV 36 w4.heap.size)] 33)) (fun g hg => (World.ownsRow.lt OF0 g hg).2)
      have bs0 := BZ0.size
      by_cases hcnt : r.length = 1
      · have hne : nL = 2 := by rw [HNL.out]; simp only [List.length_cons]; omega
        subst hne
        have hrun := read_run HFD.out (by rw [HPT.out]; exact hcnt)
        rw [HPT.out] at hrun
        obtain ⟨p1, rfl⟩ := List.length_eq_one_iff.1 hcnt
        have HRUN := Lib.hid hrun
        clear hrun hcnt
        have hw1 : w.cell? ⟨gw, 1, none⟩ = some (strV p1) := HCW.out 1 (by simp)
        have hx1 : p1.length ≤ 1000 := HX.out p1 (by simp)
        clear HNL
        go_wp2_with (first | ((refine wpList_store_row rfl 36 _ _ rfl w2.heap.size (shC nb false false true bh) rfl rfl _ _ (by exact S3) (by kernel_rfl) (by kernel_rfl) (by kernel_rfl) ?_); rw [← hw4]; clear hw4 S3) | ((refine wpList_store_row rfl 24 _ _ rfl w4.heap.size (opC (opK k)) rfl rfl _ _ (by exact X5) (by kernel_rfl) (by kernel_rfl) (by kernel_rfl) ?_); rw [← hw6]; clear hw6 X5) | (at_builtin; refine append_row elemF rfl _ _ rfl w6.heap.size (.slice none 0 0) 0 [] rfl OA0 w6.heap.size 1 1 [(cloV 36 w4.heap.size)] rfl rfl (new_cells _ _ _) (fun u hu => by obtain rfl := List.mem_singleton.1 hu; rfl) (by decide) (by decide) (by simp only [World.size_alloc]; omega) ?_; intro vv u1 ON hbn; have BZ1 := BA0.trans hbn; obtain ⟨gp1, cp1, rfl, hgp1, hgl1, _, _, hpc1⟩ := owns_cells ON (by decide); have s6 := ((HS6.out).keep BZ1).cells; clear OA0 BA0 hbn bs0 OF0))
        have OF1 : u1.ownsRow w6.heap.size 33 1 (.slice (some ⟨gp1, 0, none⟩) 1 cp1) 1 [(cloV 36 w4.heap.size)] := ON
        clear ON
        have ZC := Z6.keep BZ1
        have bC := b6.trans (BZ1.mono sz6)
        have XC := X6.keep BZ1
        have sC := BZ1.size
        clear s6
        have hk1 := (bC.cell (show (⟨gw, 1, none⟩ : Addr).block < w.heap.size from hwl)).trans hw1
        have hq1 : u1.cell? ⟨gp1, 0, none⟩ = some (cloV 36 w4.heap.size) := hpc1 0 (by simp)
        clear hw1
        refine wp_loop_rounds 2 ?_
        rw [rounds_succ]
        have HC := Lib.hid (fRead3 ⟨p1.toArray⟩ (show (⟨p1.toArray⟩ : ByteArray).size ≤ 1000 from hx1) u1 (HL.out.keep bC) w4.heap.size (opK k) XC)
        unfold SlPost at HC
        have epp : (⟨p1.toArray⟩ : ByteArray).data.toList = p1 := rfl
        rw [epp] at HC
        clear epp
        cases hrd : rdN 63 p1 with
        | none =>
          rw [hrd] at HC
          simp only [Option.isSome_none] at HC
          have hr : readL (h :: [p1]) = none := by
            rw [HRUN.out]
            simp [Opn.runP, Opn.stepP, Opn.stepT, Opn.stepX, Opn.stepS, hrd]
          have hoo := HOO.out
          have hbb := HBB.out
          rw [hr] at hoo hbb
          simp only [Option.getD_none, Option.isSome_none, Option.getD_some, Option.isSome_some] at hoo hbb
          subst hoo; subst hbb
          clear hr hrd
          go_wp2_with fail
          refine HC.out.mono ?_
          rintro e z1 ⟨v', XN, OC, rfl, hv⟩
          clear hv
          have ZN := OC.bk ZC (by omega)
          have bN := bC.trans (OC.below (by omega) bC.size)
          have sN := OC.size
          clear hk1 hq1 ZC bC XC HC OC
          have ZC := ZN
          have bC := bN
          clear ZN bN
          have Z9 := ZC.setRow (opC OpD.zero)
          have b9 := below_setRow bC (Nat.le_refl w.heap.size) (opC OpD.zero)
          go_wp2_with (refine wpList_store_row rfl 24 _ _ rfl w.heap.size (opC OpD.zero) rfl rfl _ _ (by exact ZC) (by kernel_rfl) (by kernel_rfl) (by kernel_rfl) ?_)
          refine bodyPost_ret (v := .tuple #[opV OpD.zero, .bool false]) ?_ rfl ⟨rfl, b9⟩
          exact Rw.results_cell_slot (p := 2) (q := 3) (ty := 24) Tryd.results24 _ _ w.heap.size 24 _ (0, 0) _ rfl Z9 Tryd.underlying24 rfl (by kernel_rfl)
        | some q =>
          rw [hrd] at HC
          simp only [Option.isSome_some] at HC
          have HRD0 := Lib.hid hrd
          clear hrd
          go_wp2_with fail
          refine HC.out.mono ?_
          rintro e z1 ⟨v', XN, OC, rfl, hv⟩
          have hv' := hv _ rfl
          subst hv'
          clear hv
          have XM : Bk z1 w4.heap.size (opC (⟨k, 0, 0, (q : Int), false, 0, 0⟩ : OpD)) 24 := XN
          clear XN
          have ZN := OC.bk ZC (by omega)
          have bN := bC.trans (OC.below (by omega) bC.size)
          have sN := OC.size
          clear hk1 hq1 ZC bC XC HC OC
          have ZC := ZN
          have bC := bN
          clear ZN bN
          have XC := XM
          clear XM
          go_wp2_with fail
          rw [rounds_succ]
          have hr : readL (h :: [p1]) = some (⟨k, 0, 0, (q : Int), false, 0, 0⟩ : OpD) := by
            rw [HRUN.out]
            simp [Opn.runP, Opn.stepP, Opn.stepT, Opn.stepX, Opn.stepS, HRD0.out]
          have hoo := HOO.out
          have hbb := HBB.out
          rw [hr] at hoo hbb
          simp only [Option.getD_none, Option.isSome_none, Option.getD_some, Option.isSome_some] at hoo hbb
          subst hoo; subst hbb
          clear hr
          go_wp2_with (first | (refine wpList_load_row rfl 24 _ rfl w4.heap.size rfl _ (opC (⟨k, 0, 0, (q : Int), false, 0, 0⟩ : OpD)) (0, 0) _ (by exact XC) Tryd.underlying24 rfl (by kernel_rfl) ?_) | (refine wpList_store_row rfl 24 _ _ rfl w.heap.size (opC (⟨k, 0, 0, (q : Int), false, 0, 0⟩ : OpD)) rfl rfl _ _ (by exact ZC) (by kernel_rfl) (by kernel_rfl) (by kernel_rfl) ?_))
          have Z9 := ZC.setRow (opC (⟨k, 0, 0, (q : Int), false, 0, 0⟩ : OpD))
          have b9 := below_setRow bC (Nat.le_refl w.heap.size) (opC (⟨k, 0, 0, (q : Int), false, 0, 0⟩ : OpD))
          refine bodyPost_ret (v := .tuple #[opV (⟨k, 0, 0, (q : Int), false, 0, 0⟩ : OpD), .bool true]) ?_ rfl ⟨rfl, b9⟩
          exact Rw.results_cell_slot (p := 2) (q := 3) (ty := 24) Tryd.results24 _ _ w.heap.size 24 _ (0, 0) _ rfl Z9 Tryd.underlying24 rfl (by kernel_rfl)
      · have hne : ¬ (nL : Int) = 2 := by rw [HNL.out]; simp only [List.length_cons]; omega
        have hoo := HOO.out
        have hbb := HBB.out
        rw [read_count HFD.out (by rw [HPT.out]; exact hcnt)] at hoo hbb
        simp only [Option.getD_none, Option.isSome_none, Option.getD_some, Option.isSome_some] at hoo hbb
        subst hoo; subst hbb
        have HCN := Lib.hid hcnt
        clear hcnt
        go_wp2_with (first | (refine wpList_store_row rfl 24 _ _ rfl w.heap.size (opC OpD.zero) rfl rfl _ _ (by exact ZC) (by kernel_rfl) (by kernel_rfl) (by kernel_rfl) ?_) | ((refine wpList_store_row rfl 36 _ _ rfl w2.heap.size (shC nb false false true bh) rfl rfl _ _ (by exact S3) (by kernel_rfl) (by kernel_rfl) (by kernel_rfl) ?_); rw [← hw4]; clear hw4 S3) | ((refine wpList_store_row rfl 24 _ _ rfl w4.heap.size (opC (opK k)) rfl rfl _ _ (by exact X5) (by kernel_rfl) (by kernel_rfl) (by kernel_rfl) ?_); rw [← hw6]; clear hw6 X5) | (at_builtin; refine append_row elemF rfl _ _ rfl w6.heap.size (.slice none 0 0) 0 [] rfl OA0 w6.heap.size 1 1 [(cloV 36 w4.heap.size)] rfl rfl (new_cells _ _ _) (fun u hu => by obtain rfl := List.mem_singleton.1 hu; rfl) (by decide) (by decide) (by simp only [World.size_alloc]; omega) ?_; intro vv u1 ON hbn; have BZ1 := BA0.trans hbn; obtain ⟨gp1, cp1, rfl, hgp1, hgl1, _, _, hpc1⟩ := owns_cells ON (by decide); have s6 := ((HS6.out).keep BZ1).cells; have ZC := Z6.keep BZ1; have bC := b6.trans (BZ1.mono sz6); clear OA0 BA0 hbn bs0 OF0))
        
        have Z9 := ZC.setRow (opC OpD.zero)
        have b9 := below_setRow bC (Nat.le_refl w.heap.size) (opC OpD.zero)
        refine bodyPost_ret (v := .tuple #[opV OpD.zero, .bool false]) ?_ rfl ⟨rfl, b9⟩
        exact Rw.results_cell_slot (p := 2) (q := 3) (ty := 24) Tryd.results24 _ _ w.heap.size 24 _ (0, 0) _ rfl Z9 Tryd.underlying24 rfl (by kernel_rfl)
end Go.Proofs.YtononcokdlkjdaaDoor.Opw

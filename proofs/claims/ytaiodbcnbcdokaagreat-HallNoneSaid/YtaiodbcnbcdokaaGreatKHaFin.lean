/- Part HaFin. -/
import Derived.Test.YtaiodbcnbcdokaaGreatKHaApp
set_option linter.unusedVariables false
set_option linter.unusedSimpArgs false
set_option linter.unusedSectionVars false
set_option maxRecDepth 100000
set_option maxHeartbeats 16000000
namespace Go.Proofs.YtaiodbcnbcdokaaGreat.Ha
open Go Go.RowKit Go.ChangeMaps Gro Own Wd Ap Go.Proofs.YtaiodbcnbcdokaaGreat.Pl Wo Me Shp Opn
theorem gI {w : World} {B n sz : Nat} {e : TypeId} {v : Value} {xs : List Value} (h : w.ownsRow B e sz v n xs) : ∃ y : Sl, v = y.v ∧ y.len = n := by
  rcases h.2 with ⟨rfl, rfl⟩ | ⟨g, cap, cur, rfl, _⟩
  · exact ⟨aG, rfl, rfl⟩
  · exact ⟨⟨some ⟨g, 0, none⟩, n, cap⟩, rfl, rfl⟩
theorem hFinish {S : Nat → Prop} {w : World} {g : HG} {c : Cfg} {R : HR} {H : HD} (h : HA S w g c R H) (i : Nat) (hi : i < R.rs.length) (hi' : i < H.ws.length) (hn : R.es.length ≤ 100000) (ht : H.ws[i].told.length ≤ 1000) (hrd : H.ws[i].st.rd.length ≤ 1000) :
    Calls Tryz.prog 100 #[.pointer (some ⟨g.h, 0, none⟩), .int .i64 (i : Int), .pointer (some ⟨g.w, 36 * i, none⟩)] w fun e w' => e = .returned (.tuple #[]) ∧ ∃ R', HP S g c R w R' (endF H.tk i H.ws[i] H) w' := by
  have HH := Lib.hid h
  have HEV := Lib.hid (hEvent h i hi 4)
  have lh0 := h.mu.box.lt
  have lw0 := h.mu.row.lt
  have A0 := h.ls.wk i hi hi'
  have ebg : R.rs[i].bg = H.ws[i].bg := A0.bg
  have esp : R.rs[i].s.p = H.ws[i].st.p := A0.st.p
  obtain ⟨e0, he0⟩ : ∃ e, e = evE H.tk i R.rs[i].bg R.rs[i].s.p 4 := ⟨_, rfl⟩
  rw [← he0] at HEV
  have HE0 : RowKit.Hid (e0 = evE H.tk i H.ws[i].bg H.ws[i].st.p 4) := Lib.hid (by rw [he0, ebg, esp])
  have HEFn : RowKit.Hid (¬ (R.rs[i].s.p.o0 = 3 ∧ R.rs[i].s.p.rt = 0) → endF H.tk i H.ws[i] H = { H with ev := H.ev ++ [⟨e0, H.ws[i].st.rd⟩] }) := Lib.hid (fun hh => by
    rw [esp] at hh
    unfold endF
    rw [if_neg hh, List.set_getElem_self, HE0.out])
  have HEFy : RowKit.Hid (R.rs[i].s.p.o0 = 3 ∧ R.rs[i].s.p.rt = 0 → endF H.tk i H.ws[i] H = { H with ev := H.ev ++ [⟨e0, H.ws[i].st.rd⟩], ws := H.ws.set i { H.ws[i] with told := H.ws[i].told ++ [R.rs[i].s.p.t] } }) := Lib.hid (fun hh => by
    rw [esp] at hh ⊢
    unfold endF
    rw [if_pos hh, HE0.out])
  obtain ⟨q, hq⟩ : ∃ q, q = 36 * i := ⟨_, rfl⟩
  obtain ⟨r, hr⟩ : ∃ r, r = R.rs[i] := ⟨_, rfl⟩
  have HR0 : RowKit.Hid (r = R.rs[i]) := Lib.hid hr
  have HQ := Lib.hid hq
  have hrow : ∀ (w' : World) (R' : HR), R'.rs = R.rs → Bk w' g.w (wsC R'.rs) WTy → ∀ j, j < 36 → w'.cell? ⟨g.w, q + j, none⟩ = (wkC r)[j]? := fun w' R' e B j hj => by
    rw [B.cells, hq, hr, e, jw R.rs i j hi hj]
  have HROW := Lib.hid hrow
  rw [← hq]
  rw [← hr] at HEFn HEFy
  clear he0 ebg esp hq hr hrow A0
  go_enter Tryz.func100, Tryz.ntmps100
  go_wp2_with (first | (refine dJ rfl rfl ?_))
  refine HEV.out.mono ?_
  rintro e w1 ⟨rfl, hb1⟩
  have h1 := h.keep hb1
  have sz1 := hb1.size
  obtain ⟨eb, heb⟩ : ∃ q, q = w1.heap.size := ⟨_, rfl⟩
  obtain ⟨w2, hw2⟩ : ∃ u, u = w1.alloc (.cells (ec evZ) ETy) := ⟨_, rfl⟩
  have Z2 : Bk w2 eb (ec evZ) ETy := qa78
  have b2 : Below w.heap.size w w2 := qa79
  obtain ⟨w3, hw3⟩ : ∃ u, u = w2.setRow eb (ec e0) := ⟨_, rfl⟩
  have Z3 : Bk w3 eb (ec e0) ETy := qa7a
  have b3 : Below w.heap.size w w3 := qa7y
  have h3 := h.keep b3
  have sz3 : eb < w3.heap.size := Z3.lt
  have hew : w.heap.size ≤ eb := by rw [heb]; exact sz1
  have HW2 := Lib.hid hw2
  have HW3 := Lib.hid hw3
  have HEB := Lib.hid heb
  have HZ2 := Lib.hid Z2
  have x31 : w3.cell? ⟨g.w, q + 31, none⟩ = some (.slice r.s.rd.ad r.s.rd.len r.s.rd.cap) := HROW.out w3 R rfl h3.mu.row 31 aj
  have HCL := Lib.hid (by rw [HR0.out]; exact Me.clone hrd (h3.ls.wk i hi hi').st.rd.1 : Calls Tryz.prog 64 #[.slice r.s.rd.ad r.s.rd.len r.s.rd.cap] w3 fun e w' => ∃ y : Sl, e = .returned y.v ∧ w'.ownsRow w3.heap.size 22 1 y.v H.ws[i].st.rd.length (H.ws[i].st.rd.map (.int .u64)) ∧ Below w3.heap.size w3 w')
  have HZ3 := Lib.hid Z3
  have hle : eb ≠ g.h := aj
  clear hw2 hw3 heb Z2 Z3 h1 h3
  go_wp2_with (first | (refine dJ rfl rfl ?_; rw [← HW2.out, ← HEB.out]) | (refine wpList_store_row rfl ETy _ _ rfl eb (ec e0) rfl rfl _ _ (by exact HZ2.out) ah ah ah ?_; rw [← HW3.out]))
  refine HCL.out.mono ?_
  rintro e w4 ⟨y, rfl, O4, hb4⟩
  have Z4 := HZ3.out.keep hb4
  have b4 : Below w.heap.size w w4 := b3.trans (hb4.mono (by have := b3.size; omega))
  obtain ⟨w5, hw5⟩ : ∃ u, u = w4.setCell ⟨eb, 13, none⟩ (.slice y.ad y.len y.cap) := ⟨_, rfl⟩
  obtain ⟨e1, he1⟩ : ∃ e : Ev, e = { e0 with rd := y } := ⟨_, rfl⟩
  have HW5 := Lib.hid hw5
  have Z5 : Bk w5 eb (ec e1) ETy := by rw [hw5, he1]; exact Z4.setCell 13 y.v
  have b5 : Below w.heap.size w w5 := by rw [hw5]; exact b4.setCell (p := ⟨eb, 13, none⟩) (by show w.heap.size ≤ eb; omega) _
  have O5 : bD w3.heap.size w5 .u64 22 y H.ws[i].st.rd := by rw [hw5]; exact bD.setCell O4 (g := eb) sz3 13 y.v
  have HE1 := Lib.hid he1
  have HO5 := Lib.hid O5
  have x4 := Z4.cells
  have f4 := Z4.frozen
  have l4 := Z4.lt
  have HZ4 := Lib.hid Z4
  have HZ5 := Lib.hid Z5
  have x4' : w4.cell? ⟨eb, 13, none⟩ = some (.slice e0.rd.ad e0.rd.len e0.rd.cap) := qa72
  clear hw5 he1 Z4 Z5 O4 O5 x31 x4
  go_upto_region 2 with (first | (rw [← HW5.out]))
  have hz0 : Below w5.heap.size w5 w5.drew := Below.drew (Below.refl _ _)
  refine wp_region_held_drew (S := fun w' => Bk w' eb (ec e1) ETy) ah (HZ5.out.keep hz0) (fun hHeld => ?_)
  have b6 := b5.trans (hz0.mono b5.size)
  have Z6 := HZ5.out.keep hz0
  have O6 := HO5.out.keep hz0
  have s6 : w3.heap.size ≤ w5.drew.heap.size := by have := hb4.size; have h5 : w4.heap.size ≤ w5.heap.size := by rw [HW5.out]; simp
                                                   have := hz0.size; omega
  generalize w5.drew = z0 at *
  have H6 := Lib.hid (HH.out.keep b6)
  have HB6 := Lib.hid b6
  have HO6 := Lib.hid O6
  have HZ6 := Lib.hid Z6
  have x2 : z0.cell? ⟨g.h, 2, none⟩ = some (.slice R.ev.ad R.ev.len R.ev.cap) := by rw [H6.out.mu.box.cells]; rfl
  have y2 : (z0.alloc (.cells (ec e1) ETy)).cell? ⟨g.h, 2, none⟩ = some (.slice R.ev.ad R.ev.len R.ev.cap) := by rw [(H6.out.mu.box.alloc _).cells]; rfl
  obtain ⟨gn, hgn⟩ : ∃ q, q = z0.heap.size := ⟨_, rfl⟩
  obtain ⟨z1, hz1⟩ : ∃ q, q = z0.alloc (.cells (ec e1) ETy) := ⟨_, rfl⟩
  have HB7 : RowKit.Hid (Below z0.heap.size z0 z1) := Lib.hid qa7b
  have HN1 : RowKit.Hid (Bk z1 gn (ec e1) ETy) := Lib.hid (by rw [hz1, hgn]; exact Bk.new _ _ _)
  have HZ1 := Lib.hid hz1
  have HGN := Lib.hid hgn
  rw [← hz1] at y2
  clear b6 Z6 O6 hz1 hgn b5 hz0 f4 l4
  refine jT 0 (.pointer (some ⟨g.h, 0, none⟩)) rfl hHeld ?_
  try simp only [Act.put, jP]
  refine jT 1 (.pointer (some ⟨g.h, 0, none⟩)) rfl hHeld ?_
  try simp only [Act.put, jP]
  refine jT 2 (.pointer (some ⟨g.h, 0, none⟩)) rfl hHeld ?_
  try simp only [Act.put, jP]
  refine jT 3 (.pointer (some ⟨g.h, 2, none⟩)) rfl hHeld ?_
  try simp only [Act.put, jP]
  refine jY 5 (.agg (ec e1)) rfl (bV rfl ETy _ rfl eb rfl (ec e1) ETy _ (fun w' hw' => hw') Tryz.underlying70 rfl ah) hHeld ?_
  try simp only [Act.put, jP]
  refine jR [4, 6] ?_
  refine jC rfl (fun K hK => ?_) (jC rfl (fun K hK => ?_) jN)
  go_simp
  refine hK.out _ _ hHeld (fun hHeld => ?_)
  clear hK K
  try simp only [Act.put, jP]
  refine jR [6] ?_
  refine jC rfl (fun K hK => ?_) jN
  refine dA rfl _ rfl e1 rfl ?_
  rw [← HZ1.out, ← HGN.out]
  refine hK.out _ _ (HZ6.out.keep HB7.out) (fun hHeld => ?_)
  rotate_left
  refine dA rfl _ rfl e1 rfl ?_
  rw [← HZ1.out, ← HGN.out]
  refine hK.out _ _ (HZ6.out.keep HB7.out) (fun hHeld => ?_)
  clear hK K
  try simp only [Act.put, jP]
  refine jR [4] ?_
  refine jC rfl (fun K hK => ?_) jN
  go_simp
  refine hK.out _ _ hHeld (fun hHeld => ?_)
  rotate_left
  all_goals
    clear hK K
    try simp only [Act.put, jP]
    refine jR [7] ?_
    refine jC rfl (fun K hK => ?_) jN
    have H7 := H6.out.keep HB7.out
    refine step_append elemEv rfl _ _ rfl 0 R.ev.v R.es.length (evC R.es) rfl H7.mu.ev gn 1 1 (ec e1).toList rfl jy (fun j hj => by rw [HN1.out.cells]; simp) (ec_one e1) aj (Nat.zero_le _) ?_
    intro v' z2 O2 G2 hy2
    obtain ⟨⟨a7, n7, c7⟩, rfl, hyl⟩ := gI O2
    obtain rfl : n7 = R.es.length + 1 := hyl
    have lz1 := (HZ6.out.keep HB7.out).lt
    have hne2 : some eb ≠ R.ev.v.ownBlock := fun e => by
      have := HH.out.lt eb (HH.out.sub eb (.inr (.inr (.inr (.inr (.inl (blk_iff.2 e.symm)))))))
      omega
    have Z2 : Bk z2 eb (ec e1) ETy := (G2.block eb lz1 hne2).trans (HZ6.out.keep HB7.out)
    have X2 : Bk z2 g.h (hC g R H.tk) HTy := eH H7.mu.box (Agr.grown (P := fun b => b = g.h) G2 (fun b hb e => H7.mu.ne_h.2.2.2.1 b (blk_iff.2 e.symm) hb)) rfl
    have HO2 := Lib.hid O2
    have HG2 := Lib.hid G2
    have HY2 := Lib.hid hy2
    have HZ2' := Lib.hid Z2
    have c2 : z2.cell? ⟨g.h, 2, none⟩ = some (.slice R.ev.ad R.ev.len R.ev.cap) := by rw [X2.cells]; rfl
    have f2 := X2.frozen
    refine hK.out _ _ Z2 (fun hHeld => ?_)
    clear hK K Z2 X2 O2 G2 hy2 H7
    try simp only [Act.put, jP]
    refine jT 8 (.pointer (some ⟨g.h, 0, none⟩)) rfl hHeld ?_
    try simp only [Act.put, jP]
    refine jT 9 (.pointer (some ⟨g.h, 2, none⟩)) rfl hHeld ?_
    try simp only [Act.put, jP]
    refine jR [10] ?_
    refine jC rfl (fun K hK => ?_) jN
    go_simp
    refine hK.out _ _ (HZ2'.out.aA (a := ⟨g.h, 2, none⟩) hle (.slice a7 (R.es.length + 1) c7)) (fun hHeld => ?_)
    clear hK K
    try simp only [Act.put, jP]
    refine wpAnyH_done ah ?_ _
    clear hHeld c2 f2 y2 x2
    have EV : EvA (fun b => SS S w z1 b ∧ ¬ dz g R b) z1 e1 ⟨e0, H.ws[i].st.rd⟩ := by
      have O7 := HO6.out.keep HB7.out
      have e1d : e1.rd = y := by rw [HE1.out]
      refine ⟨by rw [HE1.out], ?_⟩
      show RdP _ z1 .u64 e1.rd H.ws[i].st.rd
      rw [e1d]
      refine ⟨O7.reads, .inr fun d hd => ?_⟩
      have hl := World.ownsRow.lt (show z1.ownsRow _ _ _ y.v _ _ from O7) d.block (blk_iff.1 ⟨d, hd, rfl⟩)
      exact ⟨.inr ⟨by omega, hl.2⟩, fun m => by have := HH.out.lt _ (HH.out.sub _ m); omega⟩
    have E := HH.out.evApp e1 ⟨e0, H.ws[i].st.rd⟩ (y := ⟨a7, R.es.length + 1, c7⟩) (HB6.out.trans (HB7.out.mono HB6.out.size)) EV HO2.out HG2.out HY2.out
    obtain ⟨z3, hz3⟩ : ∃ u, u = z2.setCell ⟨g.h, 2, none⟩ (.slice a7 (R.es.length + 1) c7) := ⟨_, rfl⟩
    obtain ⟨R1, hR1⟩ : ∃ q : HR, q = { R with ev := ⟨a7, R.es.length + 1, c7⟩, es := R.es ++ [e1] } := ⟨_, rfl⟩
    have E3 : HP S g c R w R1 { H with ev := H.ev ++ [⟨e0, H.ws[i].st.rd⟩] } z3 := by rw [hz3, hR1]; exact E
    rw [← hz3]
    have hrs : R1.rs = R.rs := by rw [hR1]
    have HE3 := Lib.hid E3
    have X3 := HROW.out z3 R1 hrs E3.ha.mu.row
    have c3 : z3.cell? ⟨g.w, q + 3, none⟩ = some (.int .i64 r.s.p.o0) := X3 3 aj
    have c33 : z3.cell? ⟨g.w, q + 33, none⟩ = some (.int .i64 r.s.p.rt) := X3 33 aj
    have c32 : z3.cell? ⟨g.w, q + 32, none⟩ = some (.int .u64 r.s.p.t) := X3 32 aj
    have c35 : z3.cell? ⟨g.w, q + 35, none⟩ = some (.slice r.td.ad r.td.len r.td.cap) := X3 35 aj
    have HX3 := Lib.hid X3
    have HRS := Lib.hid hrs
    clear EV E E3 X3 hz3 hR1 hrs c32 c35
    by_cases ho : r.s.p.o0 = 3
    · by_cases hr : r.s.p.rt = 0
      · go_wp2
        have hz4 : Below z3.heap.size z3 z3.drew := Below.drew (Below.refl _ _)
        refine wp_region_held_drew (S := fun w' => w'.cell? ⟨g.w, q + 32, none⟩ = some (.int .u64 r.s.p.t)) ah ((World.cell?_of_block (hz4.block g.w HE3.out.ha.mu.row.lt)).trans (HX3.out 32 aj)) (fun hHeld => ?_)
        have HI1 : RowKit.Hid (i < R1.rs.length) := Lib.hid (by rw [HRS.out]; exact hi)
        have HR1I : RowKit.Hid (R1.rs[i]'HI1.out = r) := Lib.hid (by rw [HR0.out]; simp only [HRS.out])
        have HB4 := Lib.hid hz4
        have X4 := HE3.out.ha.mu.row.keep hz4
        have hTD := dO (HE3.out.ha.mu.td i HI1.out hi') (Agr.below (P := fun _ => True) hz4) (fun _ _ => trivial)
        have HTDW : RowKit.Hid (∀ b, blk r.td b → b ≠ g.w) := Lib.hid (by rw [← HR1I.out]; exact HE3.out.ha.mu.ne_w.2.2.2.2 i HI1.out hi')
        rw [HR1I.out] at hTD
        generalize z3.drew = z4 at *
        have d35 : z4.cell? ⟨g.w, q + 35, none⟩ = some (.slice r.td.ad r.td.len r.td.cap) := HROW.out z4 R1 HRS.out X4 35 aj
        obtain ⟨gn5, hgn5⟩ : ∃ q, q = z4.heap.size := ⟨_, rfl⟩
        obtain ⟨z5, hz5⟩ : ∃ q, q = z4.alloc (.cells #[.int .u64 r.s.p.t] 22) := ⟨_, rfl⟩
        have HB5 : RowKit.Hid (Below z4.heap.size z4 z5) := Lib.hid (by rw [hz5]; exact (Below.refl _ _).alloc (Nat.le_refl _) _)
        have HN5 : RowKit.Hid (Bk z5 gn5 #[.int .u64 r.s.p.t] 22) := Lib.hid (by rw [hz5, hgn5]; exact Bk.new _ _ _)
        have d35' : z5.cell? ⟨g.w, q + 35, none⟩ = some (.slice r.td.ad r.td.len r.td.cap) := HROW.out z5 R1 HRS.out (X4.keep HB5.out) 35 aj
        have HTD5 := Lib.hid (dO hTD (Agr.below (P := fun _ => True) HB5.out) (fun _ _ => trivial))
        have HZ5' := Lib.hid hz5
        have HGN5 := Lib.hid hgn5
        clear hz4 hTD hz5 hgn5 c3 c33
        refine jT 0 (.pointer (some ⟨g.w, q, none⟩)) rfl hHeld ?_
        try simp only [Act.put, jP]
        refine jT 1 (.pointer (some ⟨g.w, q, none⟩)) rfl hHeld ?_
        try simp only [Act.put, jP]
        refine jT 2 (.pointer (some ⟨g.w, q, none⟩)) rfl hHeld ?_
        try simp only [Act.put, jP]
        refine jT 3 (.pointer (some ⟨g.w, q + 35, none⟩)) rfl hHeld ?_
        try simp only [Act.put, jP]
        refine jT 5 (.pointer (some ⟨g.w, q, none⟩)) rfl hHeld ?_
        try simp only [Act.put, jP]
        refine jT 6 (.pointer (some ⟨g.w, q, none⟩)) rfl hHeld ?_
        try simp only [Act.put, jP]
        refine jT 7 (.pointer (some ⟨g.w, q + 2, none⟩)) rfl hHeld ?_
        try simp only [Act.put, jP]
        refine jT 8 (.pointer (some ⟨g.w, q + 2 + 30, none⟩)) rfl hHeld ?_
        try simp only [Act.put, jP]
        refine jT 9 (.int .u64 r.s.p.t) rfl hHeld ?_
        try simp only [Act.put, jP]
        refine jR [4, 10] ?_
        refine jC rfl (fun K hK => ?_) (jC rfl (fun K hK => ?_) jN)
        go_simp
        refine hK.out _ _ hHeld (fun hHeld => ?_)
        clear hK K
        try simp only [Act.put, jP]
        refine jR [10] ?_
        refine jC rfl (fun K hK => ?_) jN
        go_simp
        rw [← HZ5'.out, ← HGN5.out]
        refine hK.out _ _ ((World.cell?_of_block (HB5.out.block g.w X4.lt)).trans hHeld) (fun hHeld => ?_)
        rotate_left
        go_simp
        rw [← HZ5'.out, ← HGN5.out]
        refine hK.out _ _ ((World.cell?_of_block (HB5.out.block g.w X4.lt)).trans hHeld) (fun hHeld => ?_)
        clear hK K
        try simp only [Act.put, jP]
        refine jR [4] ?_
        refine jC rfl (fun K hK => ?_) jN
        go_simp
        refine hK.out _ _ hHeld (fun hHeld => ?_)
        rotate_left
        all_goals
          clear hK K
          try simp only [Act.put, jP]
          refine jR [11] ?_
          refine jC rfl (fun K hK => ?_) jN
          refine step_append elemU rfl _ _ rfl 0 r.td.v H.ws[i].told.length (H.ws[i].told.map (.int .u64)) rfl HTD5.out gn5 1 1 [.int .u64 r.s.p.t] rfl jy (fun j hj => by rw [HN5.out.cells]; simp) qa4r aj (Nat.zero_le _) ?_
          intro v' z6 O8 G8 hy8
          obtain ⟨⟨a8, n8, c8⟩, rfl, hyl⟩ := gI O8
          obtain rfl : n8 = H.ws[i].told.length + 1 := hyl
          have X6 : Bk z6 g.w (wsC R1.rs) WTy := eH (X4.keep HB5.out) (Agr.grown (P := fun b => b = g.w) G8 (fun b hb e => HTDW.out b (blk_iff.2 e.symm) hb)) rfl
          have HO8 := Lib.hid O8
          have HG8 := Lib.hid G8
          have HY8 := Lib.hid hy8
          have HX6 := Lib.hid X6
          have c6 : z6.cell? ⟨g.w, q + 35, none⟩ = some (.slice r.td.ad r.td.len r.td.cap) := HROW.out z6 R1 HRS.out X6 35 aj
          have k6 : z6.cell? ⟨g.w, q + 32, none⟩ = some (.int .u64 r.s.p.t) := HROW.out z6 R1 HRS.out X6 32 aj
          have f6 := X6.frozen
          have HK6 := Lib.hid k6
          refine hK.out _ _ k6 (fun hHeld => ?_)
          clear hK K X6 O8 G8 hy8 k6
          try simp only [Act.put, jP]
          refine jT 12 (.pointer (some ⟨g.w, q, none⟩)) rfl hHeld ?_
          try simp only [Act.put, jP]
          refine jT 13 (.pointer (some ⟨g.w, q + 35, none⟩)) rfl hHeld ?_
          try simp only [Act.put, jP]
          refine jR [14] ?_
          refine jC rfl (fun K hK => ?_) jN
          go_simp
          refine hK.out _ _ ((World.cell?_setCell_other _ _ _ _ (fun e => by injection e with _ e; omega)).trans HK6.out) (fun hHeld => ?_)
          clear hK K
          try simp only [Act.put, jP]
          refine wpAnyH_done ah ?_ _
          clear hHeld c6 f6 d35 d35'
          have T := HE3.out.ha.tdApp (i := i) HI1.out hi' r.s.p.t (y := ⟨a8, H.ws[i].told.length + 1, c8⟩) (HB4.out.trans (HB5.out.mono HB4.out.size)) HO8.out (by rw [HR1I.out]; exact HG8.out) (by rw [HR1I.out]; exact HY8.out)
          rw [← HQ.out] at T
          have HT := Lib.hid (HE3.out.trans T)
          clear T
          go_wp2
          go_end0
          exact ⟨rfl, _, by rw [HEFy.out ⟨ho, hr⟩]; exact HT.out⟩
      · go_wp2
        go_end0
        exact ⟨rfl, R1, by rw [HEFn.out (fun hh => hr hh.2)]; exact HE3.out⟩
    · go_wp2
      go_end0
      exact ⟨rfl, R1, by rw [HEFn.out (fun hh => ho hh.1)]; exact HE3.out⟩
end Go.Proofs.YtaiodbcnbcdokaaGreat.Ha

/- The law GiveAlone. -/
import Derived.Test.YtgpdkagmacpghaaGaNums
import Derived.Test.YtgpdkagmacpghaaGives
import Derived.Test.YtgpdkagmacpghaaLists
import Derived.Test.YtgpdkagmacpghaaBoth
import Derived.Test.YtgpdkagmacpghaaSlabs
import Derived.Test.YtgpdkagmacpghaaSts
import Derived.Deep.Cut
import Derived.Deep.CutRange
namespace Go.Proofs.Ytgpdkagmacpghaa.Me
open Go Go.RowKit Go.Proofs.Ytgpdkagmacpghaa.Gro Go.Proofs.Ytgpdkagmacpghaa.Own Go.Proofs.Ytgpdkagmacpghaa.Wd Go.Proofs.Ytgpdkagmacpghaa.Ap Go.Proofs.Ytgpdkagmacpghaa.Pl Go.Proofs.Ytgpdkagmacpghaa.Wo
set_option linter.unusedVariables false
set_option linter.unusedSimpArgs false
/-- What every phase of the law reads. -/
structure Gaw (w0 : World) (c : Cfg) (g gl cp : Nat) (v h y : Sl) (L H W : List Int) (a : Acc) (w : World) : Prop where
  C : Bk w w0.heap.size (ccM c) 24
  M : MemAt w0.heap.size w g c a gl cp L
  V : Reads w .u64 v.v L
  H : Reads w .i64 h.v H
  Y : Reads w .i64 y.v W
  hb : Below w0.heap.size w0 w
  n1 : w0.heap.size < g
  n2 : w0.heap.size < gl
theorem Gaw.keep {w0 w u : World} {c : Cfg} {g gl cp : Nat} {v h y : Sl} {L H W : List Int} {a : Acc} (G : Gaw w0 c g gl cp v h y L H W a w) (hb : Below w.heap.size w u) : Gaw w0 c g gl cp v h y L H W a u :=
  ⟨G.C.keep hb, G.M.keep hb, G.V.keep hb, G.H.keep hb, G.Y.keep hb, G.hb.trans (hb.mono G.hb.size), G.n1, G.n2⟩
theorem reads_cell {w : World} {k : IntKind} {x : Sl} {l : List Int} (h : Reads w k x.v l) {i : Nat} (hi : i < l.length) : ∃ b off, x.ad = some ⟨b, off, none⟩ ∧ b < w.heap.size ∧ w.cell? ⟨b, off + i, none⟩ = some (.int k l[i]) := by
  obtain ⟨ad, cap, he, _, _, h3⟩ := h
  simp only [Sl.v, Value.slice.injEq] at he
  rcases h3 with rfl | ⟨b, off, rfl, hb, hc⟩
  · simp at hi
  · exact ⟨b, off, he.1, hb, hc i hi⟩
theorem own_blk {B n : Nat} {w : World} {t : TypeId} {y : Sl} {xs : List Value} (h : w.ownsRow B t 1 y.v n xs) : ∀ d, y.ad = some d → B ≤ d.block ∧ d.block < w.heap.size := by
  intro d hd
  rcases h.2 with ⟨h0, _⟩ | ⟨g, cap, cur, h0, _⟩
  · obtain ⟨ya, yl, yc⟩ := y
    simp only [Sl.v, Value.slice.injEq] at h0
    rw [h0.1] at hd
    cases hd
  · have := World.ownsRow.lt h g (by rw [h0]; rfl)
    obtain ⟨ya, yl, yc⟩ := y
    simp only [Sl.v, Value.slice.injEq] at h0
    rw [h0.1] at hd
    simp only [Option.some.injEq] at hd
    subst hd
    exact this
/-- What the reckoning knows. -/
structure Pinv (c : Cfg) (g gl : Nat) (w5 : World) (gd B3 N : Nat) (H W : List Int) (D0 : Nat → Int) (k : Nat) (yr yw : Sl) (r W' dl : List Int) (wr : World) : Prop where
  hk : k ≤ H.length
  hdl : dl.length = N
  D : Bk wr gd (iv .i64 dl) 3
  R : wr.ownsRow B3 3 1 yr.v r.length (r.map (Value.int .i64))
  Y : Reads wr .i64 yw.v W'
  yb : ∀ d, yw.ad = some d → d.block ≠ gd ∧ (d.block < B3 ∨ c.rk ≤ r.length)
  hb : Below gd w5 wr
  hB : B3 ≤ wr.heap.size
  pl : planF c H D0 [] W = planF c (H.drop k) (fun i => dl.getD i 0) r W'
  rl : (r.length : Int) ≤ c.rk
  wl : W'.length ≤ 1000 + k
  db : ∀ i, dl.getD i 0 ≤ 100
  yg : ∀ d, yw.ad = some d → g < d.block ∧ gl < d.block
/-- What the steps keep. -/
structure Gsw (w0 : World) (c : Cfg) (g gl cp gx gd : Nat) (yr yw : Sl) (r W dl : List Int) (a : Acc) (L : List Int) (s : Wk) (w : World) : Prop where
  C : Bk w w0.heap.size (ccM c) 24
  M : MemAt w0.heap.size w g c a gl cp L
  X : Bk w gx (wc s) 43
  D : Bk w gd (iv .i64 dl) 3
  R : Reads w .i64 yr.v r
  Y : Reads w .i64 yw.v W
  hb : Below w0.heap.size w0 w
  n1 : w0.heap.size < g ∧ w0.heap.size < gl ∧ w0.heap.size < gx ∧ w0.heap.size < gd
  n2 : gx ≠ g ∧ gx ≠ gl ∧ gd ≠ g ∧ gd ≠ gl ∧ gd ≠ gx
  r1 : ∀ d, yr.ad = some d → d.block ≠ g ∧ d.block ≠ gl ∧ d.block ≠ gx
  y1 : W = [] ∨ ∀ d, yw.ad = some d → d.block ≠ g ∧ d.block ≠ gl ∧ d.block ≠ gx
section
variable {w0 w u : World} {c : Cfg} {g gl cp gx gd : Nat} {yr yw : Sl} {r W dl : List Int} {a a' : Acc} {L L' : List Int} {s : Wk}
theorem Gsw.keep (h : Gsw w0 c g gl cp gx gd yr yw r W dl a L s w) (hb : Below w.heap.size w u) : Gsw w0 c g gl cp gx gd yr yw r W dl a L s u :=
  ⟨h.C.keep hb, h.M.keep hb, h.X.keep hb, h.D.keep hb, h.R.keep hb, h.Y.keep hb, h.hb.trans (hb.mono h.hb.size), h.n1, h.n2, h.r1, h.y1⟩
theorem Gsw.row (h : Gsw w0 c g gl cp gx gd yr yw r W dl a L s w) (s' : Wk) : Gsw w0 c g gl cp gx gd yr yw r W dl a L s' (w.setRow gx (wc s')) :=
  have e1 := h.n1
  have e2 := h.n2
  ⟨h.C.setRow_far (by omega) _, h.M.apart (g' := gx) (gl' := gx) ((Touch.refl gx gx w).setRow _) (by omega) (by omega) (by omega) (by omega), h.X.setRow _, h.D.setRow_far (by omega) _, reads_row h.R (.inr fun d hd => (h.r1 d hd).2.2) _, reads_row h.Y (h.y1.imp_right fun q d hd => (q d hd).2.2) _, below_setRow h.hb (by omega) _, h.n1, h.n2, h.r1, h.y1⟩
theorem Gsw.touch (h : Gsw w0 c g gl cp gx gd yr yw r W dl a L s w) (M' : MemAt w0.heap.size u g c a' gl cp L') (T : Touch g gl w u) : Gsw w0 c g gl cp gx gd yr yw r W dl a' L' s u :=
  have e1 := h.n1
  have e2 := h.n2
  ⟨T.bk h.C (by omega) (by omega), M', T.bk h.X (by omega) (by omega), T.bk h.D (by omega) (by omega), reads_touch h.R T (.inr fun d hd => (h.r1 d hd).1) (.inr fun d hd => (h.r1 d hd).2.1), reads_touch h.Y T (h.y1.imp_right fun q d hd => (q d hd).1) (h.y1.imp_right fun q d hd => (q d hd).2.1), h.hb.trans (T.below (base := w0.heap.size) (by omega) (by omega) h.hb.size), h.n1, h.n2, h.r1, h.y1⟩
end
theorem rows_set {w : World} {base : Nat} {e : TypeId} {size : Nat} {v : Value} {n : Nat} {xs : List Value} (h : w.ownsRow base e size v n xs) {g : Nat} (hg : g < base) (j : Nat) (z : Value) : (w.setCell ⟨g, j, none⟩ z).ownsRow base e size v n xs := by
  refine ⟨h.1, ?_⟩
  rcases h.2 with h0 | ⟨g', cap, cur, he, hge, hh, rest⟩
  · exact .inl h0
  · exact .inr ⟨g', cap, cur, he, hge, (heap_setCell_other w ⟨g, j, none⟩ g' z (by show g' ≠ g; omega)).trans hh, rest⟩
theorem reads_set {w : World} {k : IntKind} {x : Sl} {l : List Int} (h : Reads w k x.v l) {g : Nat} (hx : ∀ d, x.ad = some d → d.block ≠ g) (j : Nat) (z : Value) : Reads (w.setCell ⟨g, j, none⟩ z) k x.v l := by
  obtain ⟨ad, cap, he, h1, h2, h3⟩ := h
  refine ⟨ad, cap, he, h1, h2, ?_⟩
  rcases h3 with h3 | ⟨b, off, e2, hlt, hc⟩
  · exact .inl h3
  · simp only [Sl.v, Value.slice.injEq] at he
    have hne : b ≠ g := hx _ (he.1.trans e2)
    exact .inr ⟨b, off, e2, by simpa using hlt, fun i hi => (World.cell?_of_block (heap_setCell_other w ⟨g, j, none⟩ b z hne)).trans (hc i hi)⟩
theorem getD_set {l : List Int} {i j : Nat} {x : Int} (hj : j < l.length) : (l.set j x).getD i 0 = if i = j then x else l.getD i 0 := by
  rw [gsetI]
  by_cases e : i = j
  · subst e
    rw [if_pos ⟨rfl, hj⟩, if_pos rfl]
  · rw [if_neg (fun q => e q.1), if_neg e]
theorem reads_low {w u : World} {k : IntKind} {x : Sl} {l : List Int} (h : Reads w k x.v l) {B : Nat} (hx : ∀ d, x.ad = some d → d.block < B) (hb : Below B w u) : Reads u k x.v l := by
  obtain ⟨ad, cap, he, h1, h2, h3⟩ := h
  refine ⟨ad, cap, he, h1, h2, ?_⟩
  rcases h3 with h3 | ⟨b, off, e2, hlt, hc⟩
  · exact .inl h3
  · simp only [Sl.v, Value.slice.injEq] at he
    have := hx _ (he.1.trans e2)
    exact .inr ⟨b, off, e2, Nat.lt_of_lt_of_le hlt hb.size, fun i hi => (hb.cell (p := ⟨b, off + i, none⟩) this).trans (hc i hi)⟩
set_option maxRecDepth 100000 in
set_option maxHeartbeats 16000000 in
/-- What the law leaves alone. -/
theorem gal_no (c : Cfg) (hf : c.Wf) (v h : Sl) (L H : List Int) (hL : WR L) (b : Bool) (w : World) (hv : Reads w .u64 v.v L) (hh : Reads w .i64 h.v H) (HB : RowKit.Hid (∀ {w0 : World}, Below w.heap.size w w0 → Calls Try.prog 8 #[cv c, v.v] w0 (fun e w' => (∃ v1 v2, e = .returned (.tuple #[v1, v2, .bool b])) ∧ Below w0.heap.size w0 w'))) (hno : b = false ∨ listR c L false = none ∨ 20 < H.length) :
    Calls Try.prog 3 #[cv c, v.v, h.v] w fun e w' => e = .returned (.bool true) ∧ Below w.heap.size w w' := by
  have hl := reads_len hh
  have hmx := reads_le hh
  unfold maxLen at hmx
  have HRL : RowKit.Hid (∀ w', Below w.heap.size w w' → Calls Try.prog 9 #[cv c, v.v, .bool false] w' (ListPost c L false w')) := Lib.hid (fun w' hb => refList c hf false (v := v) (hv.keep hb) hL)
  unfold ListPost at HRL
  obtain ⟨ad, n, cap⟩ := v
  obtain ⟨had, hn, hcap⟩ := h
  simp only at hl hmx
  subst hl
  simp only [Sl.v] at HRL HB
  have t20 : b = false ∨ (listR c L false).isSome = false ∨ decide ((20 : Int) < (H.length : Int)) = true := by
    rcases hno with q | q | q
    · exact .inl q
    · exact .inr (.inl (by rw [q]; rfl))
    · exact .inr (.inr (by simp; omega))
  obtain ⟨b2, hb2⟩ : ∃ b2, b2 = (listR c L false).isSome := ⟨_, rfl⟩
  rw [← hb2] at t20
  have HB2 := Lib.hid hb2
  clear hb2 hno hv hh
  have C0 := Bk.new w (ccM c) 24
  have hw0 : Below w.heap.size w (w.alloc (.cells (ccM c) 24)) := (Below.refl _ _).alloc (Nat.le_refl _) _
  have HT := Lib.hid t20
  clear t20
  go_enter Try.func3, Try.ntmps3
  go_wp2_with fail
  refine (awake10 _).mono ?_
  rintro en w1 ⟨rfl, hb1⟩
  have C1 := C0.keep hb1
  have hw1 := hw0.trans (hb1.mono hw0.size)
  clear C0 hw0 hb1
  go_wp2_with (refine wpList_load_row rfl 24 _ rfl w.heap.size rfl _ (ccM c) (0, 0) _ (by exact C1) Try.underlying24 rfl (by kernel_rfl) ?_)
  refine (HB.out hw1).mono ?_
  rintro en w2 ⟨⟨v1, v2, rfl⟩, hb2⟩
  have C2 := C1.keep hb2
  have hw2 := hw1.trans (hb2.mono hw1.size)
  have HLS := HRL.out _ hw2
  rw [← HB2.out] at HLS
  clear C1 hw1 hb2
  go_wp2_with (refine wpList_load_row rfl 24 _ rfl w.heap.size rfl _ (ccM c) (0, 0) _ (by exact C2) Try.underlying24 rfl (by kernel_rfl) ?_)
  refine HLS.mono ?_
  rintro en w3 ⟨y, rfl, OY, hb3⟩
  have hw3 := hw2.trans (hb3.mono hw2.size)
  clear HLS OY C2 hw2 hb3
  have T := HT.out
  clear HRL HB
  cases b with
  | false =>
    clear T HT HB2
    go_wp2
    go_ret
    exact ⟨rfl, hw3⟩
  | true =>
    cases b2 with
    | false =>
      clear T HT HB2
      go_wp2
      go_ret
      exact ⟨rfl, hw3⟩
    | true =>
      have T3 : decide ((20 : Int) < (H.length : Int)) = true := by
        rcases T with q | q | q
        · cases q
        · cases q
        · exact q
      clear T HT HB2
      go_wp2
      go_ret
      exact ⟨rfl, hw3⟩
set_option maxRecDepth 100000 in
set_option maxHeartbeats 16000000 in
theorem gal_main (c : Cfg) (hf : c.Wf) (v h : Sl) (L H W : List Int) (hm : L.length ≤ 1000) (hL : WR L) (w : World) (hv : Reads w .u64 v.v L) (hh : Reads w .i64 h.v H) (HB : RowKit.Hid (∀ {w0 : World}, Below w.heap.size w w0 → Calls Try.prog 8 #[cv c, v.v] w0 (BothYes c L w0))) (hk : chk c = 0) (hs : (L.length : Int) = siz c) (hls : listR c L false = some W) (h20 : H.length ≤ 20) :
    Calls Try.prog 3 #[cv c, v.v, h.v] w fun e w' => e = .returned (.bool true) ∧ Below w.heap.size w w' := by
  have hl := reads_len hh
  have hmx := reads_le hh
  unfold maxLen at hmx
  have HRL : RowKit.Hid (∀ w', Below w.heap.size w w' → Calls Try.prog 9 #[cv c, v.v, .bool false] w' (ListPost c L false w')) := Lib.hid (fun w' hb => refList c hf false (v := v) (hv.keep hb) hL)
  unfold ListPost at HRL
  rw [hls] at HRL
  have hsb := (tot_eq hk).2
  have hvn := reads_len hv
  obtain ⟨ad, n, cap⟩ := v
  simp only at hvn
  subst hvn
  obtain ⟨had, hn, hcap⟩ := h
  simp only at hl hmx
  subst hl
  have HV := Lib.hid hv
  have HH := Lib.hid hh
  simp only [Sl.v] at HRL HB
  have T3 : decide ((20 : Int) < (H.length : Int)) = false := by simp; omega
  have C0 := Bk.new w (ccM c) 24
  have hw0 : Below w.heap.size w (w.alloc (.cells (ccM c) 24)) := (Below.refl _ _).alloc (Nat.le_refl _) _
  have HM := Lib.hid hm
  have HL := Lib.hid hL
  have HK := Lib.hid hk
  have HS := Lib.hid hs
  have HLS := Lib.hid hls
  clear hm hL hk hs hls hv hh
  simp only [Sl.v]
  go_enter Try.func3, Try.ntmps3
  go_wp2_with fail
  refine (awake10 _).mono ?_
  rintro en w1 ⟨rfl, hb1⟩
  have C1 := C0.keep hb1
  have hw1 := hw0.trans (hb1.mono hw0.size)
  clear C0 hw0 hb1
  go_wp2_with (refine wpList_load_row rfl 24 _ rfl w.heap.size rfl _ (ccM c) (0, 0) _ (by exact C1) Try.underlying24 rfl (by kernel_rfl) ?_)
  refine (HB.out hw1).mono ?_
  rintro en w2 ⟨g, gl, cp, g2, gl2, cp2, rfl, B2⟩
  have M2 := MemAt.base B2.M (B' := w.heap.size) hw1.size
  have lc1 := C1.lt
  have n1 := B2.M.g0
  have n2 := B2.M.gl0
  have C2 := C1.keep B2.below
  have hw2 := hw1.trans (B2.below.mono hw1.size)
  clear B2 C1 hw1
  have HLP := HRL.out _ hw2
  clear HRL HB
  go_wp2_with (refine wpList_load_row rfl 24 _ rfl w.heap.size rfl _ (ccM c) (0, 0) _ (by exact C2) Try.underlying24 rfl (by kernel_rfl) ?_)
  refine HLP.mono ?_
  rintro en w3 ⟨y, rfl, OY, hb3⟩
  have hw3 := hw2.trans (hb3.mono hw2.size)
  have G3 : Gaw w c g gl cp ⟨ad, L.length, cap⟩ ⟨had, H.length, hcap⟩ y L H W _ w3 := ⟨C2.keep hb3, M2.keep hb3, HV.out.keep hw3, HH.out.keep hw3, OY.reads, hw3, by omega, by omega⟩
  have hyl := reads_len OY.reads
  have hymx := reads_le OY.reads
  unfold maxLen at hymx
  simp only [Option.getD_some] at hyl hymx
  obtain ⟨yad, yln, ycap⟩ := y
  simp only at hyl hymx
  subst hyl
  have HG3 := Lib.hid G3
  have sz3 := hw3.size
  clear HLP OY C2 M2 hw2 hb3 G3 hw3
  go_wp2
  go_loopw [12] (fun i wr => ∃ k : Nat, k ≤ H.length ∧ i = .int .i64 k ∧ Good c W H k ∧ Below w3.heap.size w3 wr) (fun i _ => H.length - (intOf i).toNat)
  case atStart => exact ⟨0, Nat.zero_le _, rfl, fun i h h' => by omega, Below.refl _ _⟩
  case round =>
    obtain ⟨k, hk, rfl, hgd, hbw⟩ := hrel
    by_cases hlt : k < H.length
    · have G := HG3.out.keep hbw
      obtain ⟨bh, oh, hadx, lbh, hc⟩ := reads_cell G.H (i := k) hlt
      simp only at hadx
      subst hadx
      have c1 : wr.cell? ⟨w.heap.size, 1, none⟩ = some (.int .i64 c.sl) := by rw [G.C.cells]; rfl
      have c2 : wr.cell? ⟨w.heap.size, 2, none⟩ = some (.int .i64 c.bl) := by rw [G.C.cells]; rfl
      have lcc := G.C.lt
      obtain ⟨x, hx⟩ : ∃ x, x = H[k] := ⟨_, rfl⟩
      rw [← hx] at hc
      have HX := Lib.hid hx
      have HGD := Lib.hid hgd
      have hmul : IntKind.i64.wrap (c.sl * c.bl) = c.sl * c.bl := IntWalk.i64_in _ (by omega)
      have hk1 : (k : Int) < (H.length : Int) := by omega
      clear hx hgd
      by_cases h0 : x < 0
      · have t0 : decide (x < 0) = true := by simp; omega
        go_wp2
        refine wp_region_grown (by kernel_rfl) (by kernel_rfl) ?_
        have hg := @gcell
        repeat (go_big_quiet_step (fail))
        refine wpQuiet_nil ?_
        rintro w10 ⟨⟨_, hb10⟩, rfl⟩
        clear hg
        have G10 := G.keep hb10
        go_wp2
        go_ret
        exact ⟨rfl, G10.hb⟩
      · have t0 : decide (x < 0) = false := by simp; omega
        by_cases h1 : c.sl * c.bl ≤ x
        · have t1 : decide (c.sl * c.bl ≤ x) = true := by simp; omega
          go_wp2
          refine wp_region_grown (by kernel_rfl) (by kernel_rfl) ?_
          have hg := @gcell
          repeat (go_big_quiet_step (fail))
          refine wpQuiet_nil ?_
          rintro w10 ⟨⟨_, hb10⟩, rfl⟩
          clear hg
          have G10 := G.keep hb10
          go_wp2
          go_ret
          exact ⟨rfl, G10.hb⟩
        · have t1 : decide (c.sl * c.bl ≤ x) = false := by simp; omega
          go_wp2
          refine wp_region_grown (by kernel_rfl) (by kernel_rfl) ?_
          have hg := @gcell
          repeat (go_big_quiet_step (fail))
          refine wpQuiet_nil ?_
          rintro w10 ⟨⟨_, hb10⟩, rfl⟩
          clear hg
          have G10 := G.keep hb10
          go_wp2
          go_loopw [13] (fun i wr2 => ∃ m : Nat, m ≤ W.length ∧ i = .int .i64 m ∧ (∀ j (h : j < W.length), j < m → W[j] ≠ x) ∧ Below wr.heap.size wr wr2) (fun i _ => W.length - (intOf i).toNat)
          case atStart => exact ⟨0, Nat.zero_le _, rfl, fun i h h' => by omega, hb10⟩
          case round =>
            obtain ⟨m, hm, rfl, hall, hb2⟩ := hrel
            have G2 := G.keep hb2
            have hc2 := (hb2.cell (p := ⟨bh, oh + k, none⟩) lbh).trans hc
            have lbh2 : bh < wr.heap.size := Nat.lt_of_lt_of_le lbh hb2.size
            clear hc c1 c2 lcc lbh t0 t1 hmul
            by_cases hml : m < W.length
            · obtain ⟨by_, oy, hady, lby, hcy⟩ := reads_cell G2.Y (i := m) hml
              simp only at hady
              subst hady
              obtain ⟨y, hy⟩ : ∃ y, y = W[m] := ⟨_, rfl⟩
              rw [← hy] at hcy
              have HY := Lib.hid hy
              have HALL := Lib.hid hall
              have hm1 : (m : Int) < (W.length : Int) := by omega
              have hsum : IntKind.i64.wrap ((m : Int) + 1) = (m : Int) + 1 := IntWalk.i64_in _ (by omega)
              clear hy hall
              by_cases he : y = x
              · have te : (y == x) = true := by simp [he]
                clear he
                go_wp2
                refine wp_region_grown (by kernel_rfl) (by kernel_rfl) ?_
                have hg := @gcell
                repeat (go_big_quiet_step (fail))
                refine wpQuiet_nil ?_
                rintro w11 ⟨⟨_, hb11⟩, rfl⟩
                clear hg
                have G11 := G2.keep hb11
                go_wp2
                go_ret
                exact ⟨rfl, G11.hb⟩
              · have te : (y == x) = false := by simp [he]
                have HE := Lib.hid he
                clear he
                go_wp2
                refine wp_region_grown (by kernel_rfl) (by kernel_rfl) ?_
                have hg := @gcell
                repeat (go_big_quiet_step (fail))
                refine wpQuiet_nil ?_
                rintro w11 ⟨⟨_, hb11⟩, rfl⟩
                clear hg
                have hb12 := hb2.trans (hb11.mono hb2.size)
                go_wp2
                go_roundw
                case rel =>
                  refine ⟨m + 1, by omega, by go_num, fun j h h' => ?_, hb12⟩
                  by_cases hj : j < m
                  · exact HALL.out j h hj
                  · obtain rfl : j = m := by omega
                    rw [← HY.out]
                    exact HE.out
                case measure => simp [intOf]; omega
            · have hxW : x ∉ W := fun hmem => by
                obtain ⟨j, hj, e⟩ := List.getElem_of_mem hmem
                exact hall j hj (by omega) e
              have HXW := Lib.hid hxW
              obtain rfl : W.length = m := by omega
              clear hall hxW hml hm
              go_wp2
              go_loopw [14] (fun i wr3 => ∃ m : Nat, m ≤ k ∧ i = .int .i64 m ∧ (∀ j (h : j < H.length), j < m → H[j] ≠ x) ∧ Below wr.heap.size wr wr3) (fun i _ => k - (intOf i).toNat)
              case atStart => exact ⟨0, Nat.zero_le _, rfl, fun i h h' => by omega, Below.refl _ _⟩
              case round =>
                obtain ⟨m, hm, rfl, hall, hb3⟩ := hrel
                have G3 := G2.keep hb3
                have hc3 := (hb3.cell (p := ⟨bh, oh + k, none⟩) lbh2).trans hc2
                have lbh3 : bh < wr.heap.size := Nat.lt_of_lt_of_le lbh2 hb3.size
                clear hc2 lbh2
                have HALL := Lib.hid hall
                clear hall
                by_cases hml : m < k
                · obtain ⟨b5, o5, e5, _, hcy⟩ := reads_cell G3.H (i := m) (by omega)
                  simp only [Option.some.injEq, Addr.mk.injEq, and_true] at e5
                  obtain ⟨rfl, rfl⟩ := e5
                  obtain ⟨y, hy⟩ : ∃ y, y = H[m]'(by omega) := ⟨_, rfl⟩
                  rw [← hy] at hcy
                  have HY := Lib.hid hy
                  have hm1 : (m : Int) < (H.length : Int) := by omega
                  have hm2 : (m : Int) < (k : Int) := by omega
                  have hsum : IntKind.i64.wrap ((m : Int) + 1) = (m : Int) + 1 := IntWalk.i64_in _ (by omega)
                  clear hy
                  by_cases he : y = x
                  · have te : (y == x) = true := by simp [he]
                    clear he
                    go_wp2
                    refine wp_region_grown (by kernel_rfl) (by kernel_rfl) ?_
                    have hg := @gcell
                    repeat (go_big_quiet_step (fail))
                    refine wpQuiet_nil ?_
                    rintro w12 ⟨⟨_, hb12⟩, rfl⟩
                    clear hg
                    have G12 := G3.keep hb12
                    go_wp2
                    go_ret
                    exact ⟨rfl, G12.hb⟩
                  · have te : (y == x) = false := by simp [he]
                    have HE := Lib.hid he
                    clear he
                    go_wp2
                    refine wp_region_grown (by kernel_rfl) (by kernel_rfl) ?_
                    have hg := @gcell
                    repeat (go_big_quiet_step (fail))
                    refine wpQuiet_nil ?_
                    rintro w12 ⟨⟨_, hb12⟩, rfl⟩
                    clear hg
                    have hb13 := hb3.trans (hb12.mono hb3.size)
                    go_wp2
                    go_roundw
                    case rel =>
                      refine ⟨m + 1, by omega, by go_num, fun j h h' => ?_, hb13⟩
                      by_cases hj : j < m
                      · exact HALL.out j h hj
                      · obtain rfl : j = m := by omega
                        rw [← HY.out]
                        exact HE.out
                    case measure => simp [intOf]; omega
                · obtain rfl : k = m := by omega
                  have hsum : IntKind.i64.wrap ((k : Int) + 1) = (k : Int) + 1 := IntWalk.i64_in _ (by omega)
                  have hb4 := hbw.trans ((hb2.trans (hb3.mono hb2.size)).mono hbw.size)
                  go_wp2
                  go_roundw
                  case rel =>
                    refine ⟨k + 1, by omega, by go_num, fun j h h' => ?_, hb4⟩
                    by_cases hj : j < k
                    · exact HGD.out j h hj
                    · obtain rfl : j = k := by omega
                      rw [← HX.out]
                      exact ⟨by omega, HXW.out, fun m' h1 h2 => HALL.out m' h1 h2⟩
                  case measure => simp [intOf]; omega
    · obtain rfl : k = H.length := by omega
      have G := HG3.out.keep hbw
      have HGD := Lib.hid hgd
      have hgs3 := G.M.lt
      clear hgd hk hlt
      have hok := chk_ok.1 HK.out
      have hslr := hok.sl
      have hblr := hok.bl
      have hww := hok.ww
      obtain ⟨N, hN⟩ : ∃ N : Nat, (N : Int) = c.sl := ⟨c.sl.toNat, by omega⟩
      have hN1 : 1 ≤ N ∧ N ≤ 8 := by omega
      have HN := Lib.hid hN
      clear hN hslr
      have hWl : W.length ≤ 1000 := by
        have h2 := lsN_le c HK.out false
        exact nodup_le 1000 _ (lst_of HLS.out).nodup (fun k hk => by have := (lst_of HLS.out).below k hk; omega)
      have ho : (wr.alloc (.cells #[] 3)).ownsRow wr.heap.size 3 1 (.slice (some ⟨wr.heap.size, 0, none⟩) 0 0) 0 (([] : List Int).map (Value.int .i64)) := World.ownsRow_lit wr #[] 0 (Nat.le_refl _) (by unfold maxLen; omega) rfl
      have hr2 := G.Y.keep ((Below.refl wr.heap.size wr).alloc (Nat.le_refl _) (.cells #[] 3))
      simp only [Sl.v] at hr2
      clear hww hok
      go_wp2_with (first | (refine make_row Try.underlying26 infoI (by decide) rfl _ _ rfl N rfl rfl (by omega) ?_) | (at_builtin; refine append_any elemI rfl _ _ rfl wr.heap.size _ 0 [] rfl ho _ W rfl hr2 (by omega) (by simp) ?_; intro yw w5 h5 hb5; have G5 := G.keep (((Below.refl wr.heap.size wr).alloc (Nat.le_refl _) _).trans hb5); have c15 : w5.cell? ⟨w.heap.size, 1, none⟩ = some (.int .i64 (N : Int)) := (by rw [G5.C.cells, HN.out]; rfl)))
      simp only [Nat.zero_add, List.nil_append] at h5
      obtain ⟨gd, hgd⟩ : ∃ u, u = w5.heap.size := ⟨_, rfl⟩
      have D6 := Bk.new w5 (iv .i64 (List.replicate N 0)) 3
      have b6 : Below w5.heap.size w5 (w5.alloc (.cells (iv .i64 (List.replicate N 0)) 3)) := (Below.refl _ _).alloc (Nat.le_refl _) _
      have hY5 := Reads.of_own h5 rfl
      have hYb := own_blk h5
      rw [← hgd] at D6 hYb b6 ⊢
      obtain ⟨w6, hw6⟩ : ∃ u, u = w5.alloc (.cells (iv .i64 (List.replicate N 0)) 3) := ⟨_, rfl⟩
      rw [← hw6] at D6 b6 ⊢
      have HG5 := Lib.hid G5
      have HY5 := Lib.hid hY5
      have HYB := Lib.hid hYb
      have HGd := Lib.hid hgd
      have hgw : w.heap.size ≤ gd := by have := G5.hb.size; omega
      have HWl := Lib.hid hWl
      clear ho hr2 hb5 c15 G5 hw6 hY5 hYb h5 hgd G hbw hWl
      go_loopw [18] (fun j wr => ∃ (m : Nat) (dl : List Int), m ≤ N ∧ j = .int .i64 m ∧ dl.length = N ∧ (∀ i (h : i < dl.length), i < m → DOk c L dl[i] i) ∧ Bk wr gd (iv .i64 dl) 3 ∧ Below gd w5 wr) (fun j _ => N - (intOf j).toNat)
      case atStart => exact ⟨0, List.replicate N 0, Nat.zero_le _, rfl, List.length_replicate, fun i h h' => by omega, D6, b6⟩
      case round =>
        clear D6 b6
        obtain ⟨m, dl, hm, rfl, hdl, hdo, hD, hbd⟩ := hrel
        have G := HG5.out.keep (HGd.out ▸ hbd)
        have c1 : wr.cell? ⟨w.heap.size, 1, none⟩ = some (.int .i64 (N : Int)) := by rw [G.C.cells, HN.out]; rfl
        have c2 : wr.cell? ⟨w.heap.size, 2, none⟩ = some (.int .i64 c.bl) := by rw [G.C.cells]; rfl
        by_cases hml : m < N
        · have hmj : (m : Int) < c.sl := by rw [← HN.out]; omega
          have hwl := wdA_lt HK.out HS.out hmj
          obtain ⟨bv, ov, hav, lbv, hcv⟩ := reads_cell G.V (i := wdA c m) hwl
          simp only at hav
          subst hav
          obtain ⟨x, hx⟩ : ∃ x, x = wdS c L m := ⟨_, rfl⟩
          have hxe : L[wdA c m] = x := by rw [hx]; unfold wdS; rw [List.getD_eq_getElem?_getD, List.getElem?_eq_getElem hwl]; rfl
          have hxr : 0 ≤ x ∧ x < 18446744073709551616 := hxe ▸ HL.out _ (List.getElem_mem hwl)
          rw [hxe] at hcv
          have HWD := Lib.hid (rword_in c hf (some ⟨bv, ov, none⟩) L.length cap m HK.out HS.out (by omega) hmj x wr (wdA c m) (by unfold wdA; have := (chk_ok.1 HK.out).ww; omega) hwl bv ov rfl lbv hcv)
          have HX := Lib.hid hx
          have HDO := Lib.hid hdo
          have GC := G.C
          have hgs := hD.lt
          have hm1 : (m : Int) < (N : Int) := by omega
          have hsum : IntKind.i64.wrap ((m : Int) + 1) = (m : Int) + 1 := IntWalk.i64_in _ (by omega)
          obtain ⟨q, hq⟩ : ∃ q, q = x / 16 % 4096 := ⟨_, rfl⟩
          have hqr : 0 ≤ q ∧ q < 4096 := by omega
          have HQ := Lib.hid hq
          have hcv2 : IntKind.i64.wrap q = q := IntWalk.i64_in _ (by omega)
          have hsub : IntKind.i64.wrap (c.bl - q) = c.bl - q := IntWalk.i64_in _ (by omega)
          clear hxe hcv lbv hwl hmj hx hdo
          go_wp2_with (refine wpList_load_row rfl 24 _ rfl w.heap.size rfl _ (ccM c) (0, 0) _ (by exact GC) Try.underlying24 rfl (by kernel_rfl) ?_)
          refine HWD.out.mono ?_
          rintro en u1 ⟨rfl, hb1⟩
          have G1 := G.keep hb1
          have hD1 := hD.keep hb1
          have hbd1 := hbd.trans (hb1.mono (by omega))
          have c21 : u1.cell? ⟨w.heap.size, 2, none⟩ = some (.int .i64 c.bl) := by rw [G1.C.cells]; rfl
          have cD : u1.cell? ⟨gd, m, none⟩ = some (.int .i64 dl[m]) := (hD1.cells m).trans (iv_get (by omega))
          have zD : u1.frozen? ⟨gd, m, none⟩ = false := hD1.frozen _
          have lD : gd < u1.heap.size := hD1.lt
          clear c1 c2 GC hgs hD hbd hb1 HWD G
          by_cases h2 : x % 16 = 2
          · have tq : (x % 16 == 2) = true := by simp [h2]
            by_cases hd0 : c.bl - q ≤ 0
            · have td : decide (c.bl - q ≤ 0) = true := by simp; omega
              clear hq
              go_wp2_with (rw [← HQ.out])
              go_ret
              exact ⟨rfl, G1.hb.setCell (p := ⟨gd, m, none⟩) hgw _⟩
            · have td : decide (c.bl - q ≤ 0) = false := by simp; omega
              clear hq
              go_wp2_with (rw [← HQ.out])
              go_roundw
              case rel =>
                refine ⟨m + 1, dl.set m (c.bl - q), by omega, by go_num, by rw [List.length_set]; exact hdl, fun i h h' => ?_, iv_set .i64 dl m _ ▸ hD1.setCell m _, hbd1.setCell (p := ⟨gd, m, none⟩) (Nat.le_refl _) _⟩
                by_cases hi : i = m
                · subst hi
                  rw [List.getElem_set_self]
                  exact .inr ⟨by omega, by omega, by rw [← HX.out]; exact h2, by rw [← HX.out, ← HQ.out]; omega⟩
                · rw [List.getElem_set_ne (fun e => hi e.symm)]
                  exact HDO.out i (by simpa using h) (by omega)
              case measure => simp [intOf]; omega
          · have tq : (x % 16 == 2) = false := by simp [h2]
            go_wp2
            go_roundw
            case rel =>
              refine ⟨m + 1, dl.set m (-1), by omega, by go_num, by rw [List.length_set]; exact hdl, fun i h h' => ?_, iv_set .i64 dl m _ ▸ hD1.setCell m _, hbd1.setCell (p := ⟨gd, m, none⟩) (Nat.le_refl _) _⟩
              by_cases hi : i = m
              · subst hi
                rw [List.getElem_set_self]
                exact .inl ⟨by omega, by rw [← HX.out]; exact h2⟩
              · rw [List.getElem_set_ne (fun e => hi e.symm)]
                exact HDO.out i (by simpa using h) (by omega)
            case measure => simp [intOf]; omega
        · obtain rfl : m = N := by omega
          obtain ⟨B3, hB3⟩ : ∃ u, u = wr.heap.size := ⟨_, rfl⟩
          have hgB2 : g < B3 ∧ gl < B3 := by have := G.M.lt; omega
          have hgB : gd < B3 := by have := hD.lt; omega
          have hrk := (chk_ok.1 HK.out).rk
          have P0 : Pinv c g gl w5 gd B3 m H W (fun i => dl.getD i 0) 0 nilS yw [] W dl wr := ⟨Nat.zero_le _, hdl, hD, World.ownsRow_nil _ _ _ _, reads_low HY5.out (B := gd) (fun d hd => (HYB.out d hd).2) hbd, fun d hd => by have := HYB.out d hd; exact ⟨by omega, .inl (by omega)⟩, hbd, by omega, rfl, by simp; omega, by have := HWl.out; omega, fun i => by
            by_cases hi : i < dl.length
            · rw [List.getD_eq_getElem?_getD, List.getElem?_eq_getElem hi]
              show dl[i] ≤ 100
              rcases hdo i hi (by omega) with q | q <;> omega
            · rw [List.getD_eq_getElem?_getD, List.getElem?_eq_none (by omega)]
              decide, fun d hd => by have := HYB.out d hd; omega⟩
          have HDO := Lib.hid hdo
          clear hdo hD hbd G hB3
          go_wp2
          clear c1 c2
          go_loopw [15, 16, 21] (fun rv wv' iv' wr2 => ∃ (k : Nat) (yr yw : Sl) (r W' dl' : List Int), rv = .slice yr.ad yr.len yr.cap ∧ wv' = .slice yw.ad yw.len yw.cap ∧ iv' = .int .i64 k ∧ Pinv c g gl w5 gd B3 m H W (fun i => dl.getD i 0) k yr yw r W' dl' wr2) (fun _ _ i _ => H.length - (intOf i).toNat)
          case atStart => exact ⟨0, nilS, yw, [], W, dl, rfl, rfl, rfl, P0⟩
          case round =>
            clear P0
            obtain ⟨k, yr, yv, r, W', dl', rfl, rfl, rfl, P⟩ := hrel
            have hk := P.hk
            have hrl := reads_len (Reads.of_own P.R (by simp))
            obtain ⟨yra, yrl, yrc⟩ := yr
            simp only at hrl
            subst hrl
            have G := HG5.out.keep (HGd.out ▸ P.hb)
            by_cases hlt : k < H.length
            · obtain ⟨bh, oh, hadx, lbh, hc⟩ := reads_cell G.H (i := k) hlt
              simp only at hadx
              subst hadx
              obtain ⟨hg1, hg2, hg3⟩ := HGD.out k hlt hlt
              have hpl := P.pl
              rw [List.drop_eq_getElem_cons hlt, planF] at hpl
              obtain ⟨x, hx⟩ : ∃ x, x = H[k] := ⟨_, rfl⟩
              rw [← hx] at hc hg1 hg2 hpl
              have hto := tot_eq HK.out
              obtain ⟨j, hj1, hj2, _, _⟩ := home HK.out HS.out (b := x) ⟨hg1.1, by omega⟩
              have hjN : j < m := by have := HN.out; omega
              have hjq : x / c.bl = (j : Int) := hj1.symm
              rw [hjq, Int.toNat_natCast] at hpl
              have hdl' := P.hdl
              have hdg : dl'.getD j 0 = dl'[j] := by rw [List.getD_eq_getElem?_getD, List.getElem?_eq_getElem (by omega)]; rfl
              have cD : wr.cell? ⟨gd, j, none⟩ = some (.int .i64 (dl'.getD j 0)) := by rw [hdg]; exact (P.D.cells j).trans (iv_get (by omega))
              have zD : wr.frozen? ⟨gd, j, none⟩ = false := P.D.frozen _
              have lD : gd < wr.heap.size := P.D.lt
              have c2 : wr.cell? ⟨w.heap.size, 2, none⟩ = some (.int .i64 c.bl) := by rw [G.C.cells]; rfl
              have c5 : wr.cell? ⟨w.heap.size, 5, none⟩ = some (.int .i64 c.rk) := by rw [G.C.cells]; rfl
              have lcc := G.C.lt
              obtain ⟨d, hd⟩ : ∃ d, d = dl'.getD j 0 := ⟨_, rfl⟩
              rw [← hd] at cD hpl
              have HPL := Lib.hid hpl
              have HP := Lib.hid P
              have HX := Lib.hid hx
              have HD := Lib.hid hd
              have hk1 : (k : Int) < (H.length : Int) := by omega
              have hj3 : (j : Int) < (m : Int) := by omega
              have hsum : IntKind.i64.wrap ((k : Int) + 1) = (k : Int) + 1 := IntWalk.i64_in _ (by omega)
              have hb0 : c.bl ≠ 0 := by omega
              have hdu : d ≤ 100 := by rw [hd]; exact P.db j
              have hrr := P.rl
              have hwl := P.wl
              have hx0 : 0 ≤ x := hg1.1
              have hx1 : x < 1000 := by omega
              clear hdg
              clear hpl P hx hd hj1 hj2 hg1 hg2 hg3 hto G
              go_wp2
              refine wp_region_grown (by kernel_rfl) (by kernel_rfl) ?_
              have hg := @gcell
              repeat (go_big_quiet_step (fail))
              refine wpQuiet_nil ?_
              rintro w8 ⟨⟨_, hb8⟩, rfl⟩
              clear hg
              have P := HP.out
              have cD8 := (hb8.cell (p := ⟨gd, j, none⟩) lD).trans cD
              have c58 := (hb8.cell (p := ⟨w.heap.size, 5, none⟩) lcc).trans c5
              have hc8 := (hb8.cell (p := ⟨bh, oh + k, none⟩) lbh).trans hc
              have D8 := P.D.keep hb8
              have zD8 : w8.frozen? ⟨gd, j, none⟩ = false := D8.frozen _
              have R8 := owns_below P.R hb8 (fun g hg => (World.ownsRow.lt P.R g hg).2)
              have Y8 := P.Y.keep hb8
              have b8 := P.hb.trans (hb8.mono (by omega))
              have s8 := hb8.size
              have hB8 := P.hB
              have HW8 := Lib.hid ((HG5.out.keep (HGd.out ▸ b8)).hb)
              have HYB := Lib.hid P.yb
              have HDB := Lib.hid P.db
              have HYG := Lib.hid P.yg
              have HDL := Lib.hid P.hdl
              clear cD c5 hc zD lD lcc lbh c2 hb8 P HP
              by_cases hz : d = 0
              · have tz : (d == 0) = true := by simp [hz]
                clear hz HPL
                go_wp2
                go_ret
                exact ⟨rfl, HW8.out⟩
              have tz : (d == 0) = false := by simp [hz]
              by_cases hp : 0 < d
              · have tp : decide (0 < d) = true := by simp [hp]
                have hsubd : IntKind.i64.wrap (d - 1) = d - 1 := IntWalk.i64_in _ (by omega)
                have hpl := HPL.out
                rw [if_neg hz, if_pos hp] at hpl
                have HPL2 := Lib.hid hpl
                clear hz hpl HPL
                go_wp2
                go_roundw
                case rel =>
                  refine ⟨k + 1, ⟨yra, r.length, yrc⟩, yv, r, W', dl'.set j (d - 1), rfl, rfl, by go_num, by omega, by rw [List.length_set]; exact hdl', iv_set .i64 dl' j _ ▸ D8.setCell j _, rows_set R8 hgB j _, reads_set Y8 (fun q hq => (HYB.out q hq).1) j _, HYB.out, b8.setCell (p := ⟨gd, j, none⟩) (Nat.le_refl _) _, by simp; omega, ?_, hrr, by omega, fun i => ?_, HYG.out⟩
                  · rw [HPL2.out]
                    congr 1
                    funext i
                    rw [getD_set (by omega)]
                    by_cases e : i = j
                    · rw [if_pos e, if_pos e, e, ← HD.out]
                    · rw [if_neg e, if_neg e]
                  · rw [getD_set (by omega)]
                    split
                    · omega
                    · exact HDB.out i
                case measure => simp [intOf]; omega
              have tp : decide (0 < d) = false := by simp; omega
              have hpl := HPL.out
              rw [if_neg hz, if_neg hp] at hpl
              by_cases hr : (r.length : Int) < c.rk
              · have tr : decide ((r.length : Int) < c.rk) = true := by simp [hr]
                rw [if_pos hr] at hpl
                have HPL2 := Lib.hid hpl
                have ba : Below w8.heap.size w8 (w8.alloc (.cells #[.int .i64 x] 3)) := (Below.refl _ _).alloc (Nat.le_refl _) _
                have hR9 := owns_below R8 ba (fun g hg => (World.ownsRow.lt R8 g hg).2)
                have hone := reads_ten w8 x 3
                have HRR := Lib.hid hr
                have HLOW : RowKit.Hid (∀ q, yv.ad = some q → q.block < B3) := Lib.hid (fun q hq => ((HYB.out q hq).2).resolve_right (by omega))
                clear hz hp hr hpl HPL
                go_wp2_with (at_builtin; refine append_any elemI rfl _ _ rfl B3 _ r.length r rfl hR9 _ [x] rfl hone (by simp; omega) (by simp; omega) ?_; intro y9 w9 h9 hb9)
                go_roundw
                case rel =>
                  have hlow := HLOW.out
                  refine ⟨k + 1, y9, yv, r ++ [x], W', dl', rfl, rfl, by go_num, by omega, hdl', (D8.keep ba).keepB hb9 hgB, by rw [List.length_append]; exact h9, reads_low (Y8.keep ba) hlow hb9, fun q hq => ⟨(HYB.out q hq).1, .inl (hlow q hq)⟩, (b8.trans (ba.mono (by omega))).trans (hb9.mono (by omega)), by have := hb9.size; have := ba.size; omega, HPL2.out, by have := HRR.out; rw [List.length_append]; simp only [List.length_cons, List.length_nil]; omega, by omega, HDB.out, HYG.out⟩
                case measure => simp [intOf]; omega
              · have tr : decide ((r.length : Int) < c.rk) = false := by simp; omega
                rw [if_neg hr] at hpl
                have HPL2 := Lib.hid hpl
                have ba : Below w8.heap.size w8 (w8.alloc (.cells #[.int .i64 x] 3)) := (Below.refl _ _).alloc (Nat.le_refl _) _
                have ho : (w8.alloc (.cells #[.int .i64 x] 3)).ownsRow w8.heap.size 3 1 (.slice (some ⟨w8.heap.size, 0, none⟩) 1 1) 1 ([x].map (Value.int .i64)) := World.ownsRow_lit w8 #[.int .i64 x] 1 (Nat.le_refl _) (by unfold maxLen; omega) rfl
                have hY9 := Y8.keep ba
                simp only [Sl.v] at hY9
                clear hz hp hpl HPL
                go_wp2_with (at_builtin; refine append_any elemI rfl _ _ rfl w8.heap.size _ 1 [x] rfl ho _ W' rfl hY9 (by omega) (by simp) ?_; intro y9 w9 h9 hb9)
                go_roundw
                case rel =>
                  have hb98 := ba.trans hb9
                  refine ⟨k + 1, ⟨yra, r.length, yrc⟩, y9, r, x :: W', dl', rfl, rfl, by go_num, by omega, hdl', D8.keep hb98, owns_below R8 hb98 (fun g hg => (World.ownsRow.lt R8 g hg).2), Reads.of_own h9 (by simp; omega), fun q hq => by have := own_blk h9 q hq; exact ⟨by omega, .inr (by omega)⟩, b8.trans (hb98.mono (by omega)), by have := hb98.size; omega, HPL2.out, hrr, by simp; omega, HDB.out, fun q hq => by have := own_blk h9 q hq; omega⟩
                case measure => simp [intOf]; omega
            · obtain rfl : k = H.length := by omega
              have hpl : planF c H (fun i => dl.getD i 0) [] W = some (fun i => dl'.getD i 0, r, W') := by rw [P.pl, List.drop_length]; rfl
              have HPL := Lib.hid hpl
              have HP := Lib.hid P
              have sB := P.hB
              have ho : (wr.alloc (.cells #[] 3)).ownsRow wr.heap.size 3 1 (.slice (some ⟨wr.heap.size, 0, none⟩) 0 0) 0 (([] : List Int).map (Value.int .i64)) := World.ownsRow_lit wr #[] 0 (Nat.le_refl _) (by unfold maxLen; omega) rfl
              have hr2 := G.H.keep ((Below.refl wr.heap.size wr).alloc (Nat.le_refl _) (.cells #[] 3))
              simp only [Sl.v] at hr2
              have hbs := build_hold
              have GG := Lib.hid G
              clear hpl P hk hlt G
              go_wp2_with (at_builtin; refine append_any elemI rfl _ _ rfl wr.heap.size _ 0 [] rfl ho _ H rfl hr2 (by omega) (by simp) ?_; intro y10 w10 h10 hb10)
              simp only [Nat.zero_add, List.nil_append] at h10
              have b10 : Below wr.heap.size wr w10 := ((Below.refl wr.heap.size wr).alloc (Nat.le_refl _) _).trans hb10
              have HBG := Lib.hid (giveBegin { wz with hl := y10 } { zS with hl := H } ⟨Nat.zero_le _, Nat.zero_le _, Nat.zero_le _, Nat.zero_le _, (by show H.length ≤ 900; omega), Nat.zero_le _⟩ w10 ⟨rfl, Reads.nil _ _, Reads.nil _ _, Reads.nil _ _, Reads.nil _ _, Reads.of_own h10 rfl, Reads.nil _ _⟩)
              refine HBG.out.mono ?_
              rintro en w11 ⟨s11, rfl, A11, hb11⟩
              have b11 := b10.trans (hb11.mono b10.size)
              clear ho hr2 hb10 h10 HBG hb11
              have lb := b11.size
              have GK := GG.out.keep b11
              have PP := HP.out
              have X12 := boxed_bk w11 s11
              have Z11 := Bk.new w11 (wc wz) 43
              have bb := boxed_below w11 s11
              have A12 := (A11.keep bb).lies
              have hg0 := GK.n1
              have hl0 := GK.n2
              have hml := GK.M.lt
              have hcl := GK.C.lt
              have hDb := PP.D.lt
              have hRb := fun q hq => own_blk PP.R (y := ⟨yra, r.length, yrc⟩) q hq
              have E12 : Gsw w c g gl cp w11.heap.size gd ⟨yra, r.length, yrc⟩ yv r W' dl' _ L s11 _ := ⟨GK.C.keep bb, GK.M.keep bb, X12, (PP.D.keep b11).keep bb, ((Reads.of_own PP.R (by simp)).keep b11).keep bb, (PP.Y.keep b11).keep bb, GK.hb.trans (bb.mono GK.hb.size), ⟨by omega, by omega, by omega, by have := HGd.out; have := HG5.out.C.lt; omega⟩, ⟨by omega, by omega, by have := HGd.out; have := HG5.out.M.lt; omega, by have := HGd.out; have := HG5.out.M.lt; omega, by omega⟩, fun q hq => by have := hRb q hq; omega, by
                by_cases hW0 : W' = []
                · exact .inl hW0
                · obtain ⟨bq, oq, hq1, hq2, _⟩ := reads_cell PP.Y (i := 0) (List.length_pos_iff.2 hW0)
                  refine .inr fun q hq => ?_
                  have := PP.yg q hq
                  rw [hq1, Option.some.injEq] at hq
                  subst hq
                  simp only at this ⊢
                  omega⟩
              obtain ⟨w12, hw12⟩ : ∃ u, u = (w11.alloc (.cells (wc wz) 43)).setRow w11.heap.size (wc s11) := ⟨_, rfl⟩
              have HGets := Lib.hid (ga_all HK.out HLS.out HL.out (dl := dl) (by rw [hdl]; exact HN.out) (fun i hi => HDO.out i hi (by omega)) h20 HGD.out HPL.out)
              have HLN := Lib.hid HM.out
              have HDL2 := Lib.hid PP.hdl
              rw [← hw12] at E12 A12
              go_wp2_with (first | ((with_reducible refine wpList_alloc_wz rfl rfl ?_)) | ((refine wpList_store_row rfl 43 _ _ rfl (w11.heap.size) (wc s11) rfl rfl _ _ (by exact Z11) (by kernel_rfl) (by kernel_rfl) (by kernel_rfl) ?_); rw [← hw12]; clear hw12 Z11))
              obtain ⟨gx, hgx⟩ : ∃ u, u = w11.heap.size := ⟨_, rfl⟩
              rw [← hgx] at E12 ⊢
              clear hgx X12 GK PP HP GG bb b10 b11 lb hg0 hl0 hml hcl hDb hRb A11 sB
              go_loopw [24, 25] (fun wayv nv wr2 => ∃ (n : Nat) (way : Int) (s : Wk) (x : St) (a : Acc) (L' : List Int), nv = .int .i64 n ∧ wayv = .int .i64 way ∧ n ≤ 4 * H.length ∧ Gsw w c g gl cp gx gd ⟨yra, r.length, yrc⟩ yv r W' dl' a L' s wr2 ∧ Lies wr2 s x ∧ L'.length = L.length ∧ WR L' ∧ Gets c (GFin c (fun i => dl'.getD i 0) r W') (4 * H.length - n) L' x way) (fun _ n _ => 4 * H.length - (intOf n).toNat)
              case atStart => exact ⟨0, _, s11, _, _, L, rfl, rfl, Nat.zero_le _, E12, A12, rfl, HL.out, HGets.out⟩
              case round =>
                clear E12 A12 HGets
                obtain ⟨n, way, s, x, a, L', rfl, rfl, hn, EE, AA, hl', hwr, hG⟩ := hrel
                have hm4 : IntKind.i64.wrap ((4:Int) * (H.length : Int)) = 4 * (H.length : Int) := IntWalk.i64_in _ (by omega)
                have HLL : RowKit.Hid (L'.length ≤ 1000) := Lib.hid (by rw [hl']; exact HLN.out)
                rcases gets_split hG with ⟨rfl, hF⟩ | ⟨rfl, m', ⟨ra, rL, rx, rw_, rok⟩, hm', hfx, hpx, ha, hok1, hll, hwr1, hG1⟩
                · obtain ⟨hI, hrk', hhl, hpk⟩ := hF
                  have HI := Lib.hid hI
                  have hpk2 : s.p.k = 0 := by rw [AA.p]; exact hpk
                  have HPK := Lib.hid hpk2
                  have hsl' : (L'.length : Int) = siz c := hI.lst.len
                  have HSL := Lib.hid hsl'
                  have HL3 : RowKit.Hid (∀ (w' : World) (v : Sl), Reads w' .u64 v.v L' → Calls Try.prog 9 #[cv c, v.v, .bool false] w' (fun en w'' => ∃ y : Sl, en = .returned (.tuple #[y.v, .bool true]) ∧ Owned w'.heap.size w'' .i64 3 y W' ∧ Below w'.heap.size w' w'')) := Lib.hid (fun w' v hr => (refList c hf false (v := v) hr hwr).mono (by intro en w'' h; unfold ListPost at h; rw [hI.lst.list] at h; exact h))
                  have RR0 := AA.rk
                  have RH0 := AA.hl
                  rw [hrk'] at RR0
                  rw [hhl] at RH0
                  obtain ⟨b1, t1⟩ : ∃ b, decide ((n : Int) < 4 * (H.length : Int)) = b := ⟨_, rfl⟩
                  clear hI hrk' hhl hpk hpk2 hsl' hG AA hn
                  cases b1 <;> (
                    go_wp2
                    have hS0 : Below wr.heap.size wr wr.drew := Below.drew (Below.refl _ _)
                    refine wp_region_held_drew (S := fun w' => Below wr.heap.size wr w') (by kernel_rfl) hS0 (fun hHeld => ?_)
                    clear hS0
                    generalize wr.drew = q0 at *
                    refine wpAnyH_take (i := 0) (oi := _) (v := cv c) rfl (by kernel_rfl) (by kernel_rfl) (by kernel_rfl) (fun _ _ _ h => h) (Or.inl ⟨by rfl, fun w' hSw => by have xx := (EE.C.keep hSw).cells; go_simp⟩) hHeld ?_
                    try simp only [Act.put, List.getElem_toArray, List.getElem_cons_succ, List.getElem_cons_zero, List.setIfInBounds_toArray, List.set_cons_succ, List.set_cons_zero]
                    refine wpAnyH_take (i := 1) (oi := _) (v := .pointer (some ⟨g, 0, none⟩)) rfl (by kernel_rfl) (by kernel_rfl) (by kernel_rfl) (fun _ _ _ h => h) (Or.inl ⟨by rfl, fun w' hSw => by go_simp⟩) hHeld ?_
                    try simp only [Act.put, List.getElem_toArray, List.getElem_cons_succ, List.getElem_cons_zero, List.setIfInBounds_toArray, List.set_cons_succ, List.set_cons_zero]
                    refine wpAnyH_ready (rs := [2]) (by kernel_rfl) (by simp) ?_
                    refine AllReadyH.cons (o := _) rfl (fun K hK => ?_) AllReadyH.nil
                    go_simp
                    refine (all_in (EE.M.keep hHeld) HLL.out).mono ?_
                    rintro en q1 ⟨ya, rfl, hya, hb⟩
                    have hHeld' := hHeld.trans (hb.mono hHeld.size)
                    refine hK.out _ _ hHeld' (fun hHeld => ?_)
                    clear hK K hHeld'
                    try simp only [Act.put, List.getElem_toArray, List.getElem_cons_succ, List.getElem_cons_zero, List.setIfInBounds_toArray, List.set_cons_succ, List.set_cons_zero]
                    have rd1 := Reads.of_own hya rfl
                    clear hb hya
                    have HIN := Lib.hid (HL3.out _ _ rd1)
                    clear rd1
                    refine wpAnyH_ready (rs := [3]) (by kernel_rfl) (by simp) ?_
                    refine AllReadyH.cons (o := _) rfl (fun K hK => ?_) AllReadyH.nil
                    go_simp
                    refine (HIN.out).mono ?_
                    rintro en q2 ⟨y15, rfl, O15, hb⟩
                    have hHeld' := hHeld.trans (hb.mono hHeld.size)
                    have R15 := O15.reads
                    refine hK.out _ _ hHeld' (fun hHeld => ?_)
                    clear hK K hHeld' HIN O15
                    try simp only [Act.put, List.getElem_toArray, List.getElem_cons_succ, List.getElem_cons_zero, List.setIfInBounds_toArray, List.set_cons_succ, List.set_cons_zero]
                    clear hb
                    refine wpAnyH_take (i := 4) (oi := _) (v := .tuple #[.slice y15.ad y15.len y15.cap, .bool true]) rfl (by kernel_rfl) (by kernel_rfl) (by kernel_rfl) (fun _ _ _ h => h) (Or.inl ⟨by rfl, fun w' hSw => by go_simp⟩) hHeld ?_
                    try simp only [Act.put, List.getElem_toArray, List.getElem_cons_succ, List.getElem_cons_zero, List.setIfInBounds_toArray, List.set_cons_succ, List.set_cons_zero]
                    refine wpAnyH_take (i := 5) (oi := _) (v := .slice y15.ad y15.len y15.cap) rfl (by kernel_rfl) (by kernel_rfl) (by kernel_rfl) (fun _ _ _ h => h) (Or.inl ⟨by rfl, fun w' hSw => by go_simp⟩) hHeld ?_
                    try simp only [Act.put, List.getElem_toArray, List.getElem_cons_succ, List.getElem_cons_zero, List.setIfInBounds_toArray, List.set_cons_succ, List.set_cons_zero]
                    refine wpAnyH_take (i := 6) (oi := _) (v := .bool true) rfl (by kernel_rfl) (by kernel_rfl) (by kernel_rfl) (fun _ _ _ h => h) (Or.inl ⟨by rfl, fun w' hSw => by go_simp⟩) hHeld ?_
                    try simp only [Act.put, List.getElem_toArray, List.getElem_cons_succ, List.getElem_cons_zero, List.setIfInBounds_toArray, List.set_cons_succ, List.set_cons_zero]
                    refine wpAnyH_take (i := 7) (oi := _) (v := .slice y15.ad y15.len y15.cap) rfl (by kernel_rfl) (by kernel_rfl) (by kernel_rfl) (fun _ _ _ h => h) (Or.inl ⟨by rfl, fun w' hSw => by go_simp⟩) hHeld ?_
                    try simp only [Act.put, List.getElem_toArray, List.getElem_cons_succ, List.getElem_cons_zero, List.setIfInBounds_toArray, List.set_cons_succ, List.set_cons_zero]
                    refine wpAnyH_take (i := 8) (oi := _) (v := .bool true) rfl (by kernel_rfl) (by kernel_rfl) (by kernel_rfl) (fun _ _ _ h => h) (Or.inl ⟨by rfl, fun w' hSw => by go_simp⟩) hHeld ?_
                    try simp only [Act.put, List.getElem_toArray, List.getElem_cons_succ, List.getElem_cons_zero, List.setIfInBounds_toArray, List.set_cons_succ, List.set_cons_zero]
                    refine wpAnyH_done (by kernel_rfl) ?_ _
                    have E16 := EE.keep hHeld
                    have RR1 := RR0.keep hHeld
                    have RH1 := RH0.keep hHeld
                    clear hHeld EE RR0 RH0
                    have HI1 := Lib.hid (ints_true R15 E16.Y)
                    simp only [Sl.v] at HI1
                    clear R15
                    go_wp2_with fail
                    refine HI1.out.mono ?_
                    rintro en w17 ⟨rfl, hb17⟩
                    have E17 := E16.keep hb17
                    have RR2 := RR1.keep hb17
                    have RH2 := RH1.keep hb17
                    have x4 : w17.cell? ⟨gx, 10, none⟩ = some (.slice s.rk.ad s.rk.len s.rk.cap) := by rw [E17.X.cells]; rfl
                    have lx17 := E17.X.lt
                    have HI2 := Lib.hid (ints_true RR2 E17.R)
                    simp only [Sl.v] at HI2
                    clear E16 RR1 RH1 hb17 HI1
                    go_wp2_with fail
                    refine HI2.out.mono ?_
                    rintro en w18 ⟨rfl, hb18⟩
                    have E18 := E17.keep hb18
                    have RH3 := RH2.keep hb18
                    have HO := Lib.hid (giveOwes s w18 HPK.out RH3)
                    clear E17 RR2 RH2 hb18 HI2 x4 lx17 RH3
                    go_wp2_with (refine wpList_load_row_w rfl 43 _ rfl (gx) rfl _ (wc s) (0, 0) _ (by exact E18.X) Try.underlying43 rfl (by kernel_rfl) ?_)
                    refine HO.out.mono ?_
                    rintro en w19 ⟨oad, ocap, rfl, hb19⟩
                    have E19 := E18.keep hb19
                    clear E18 hb19 HO
                    go_wp2
                    go_loopw [31] (fun jv wr2 => ∃ (j : Nat), jv = .int .i64 j ∧ j ≤ m ∧ Gsw w c g gl cp gx gd ⟨yra, r.length, yrc⟩ yv r W' dl' a L' s wr2) (fun jv _ => m - (intOf jv).toNat)
                    case atStart => exact ⟨0, rfl, Nat.zero_le _, E19⟩
                    case round =>
                      clear E19
                      obtain ⟨j, rfl, hjm, EE⟩ := hrel
                      have c1 : wr.cell? ⟨w.heap.size, 1, none⟩ = some (.int .i64 (m : Int)) := by rw [EE.C.cells, HN.out]; rfl
                      by_cases hjl : j < m
                      · have hj1 : (j : Int) < (m : Int) := by omega
                        have hjs : (j : Int) < c.sl := by rw [← HN.out]; omega
                        have HJS := Lib.hid hjs
                        clear hjs
                        go_wp2
                        have hS0 : Below wr.heap.size wr wr.drew := Below.drew (Below.refl _ _)
                        refine wp_region_held_drew (S := fun w' => Below wr.heap.size wr w') (by kernel_rfl) hS0 (fun hHeld => ?_)
                        clear hS0
                        generalize wr.drew = q0 at *
                        refine wpAnyH_take (i := 0) (oi := _) (v := cv c) rfl (by kernel_rfl) (by kernel_rfl) (by kernel_rfl) (fun _ _ _ h => h) (Or.inl ⟨by rfl, fun w' hSw => by have xx := (EE.C.keep hSw).cells; go_simp⟩) hHeld ?_
                        try simp only [Act.put, List.getElem_toArray, List.getElem_cons_succ, List.getElem_cons_zero, List.setIfInBounds_toArray, List.set_cons_succ, List.set_cons_zero]
                        refine wpAnyH_take (i := 1) (oi := _) (v := .pointer (some ⟨g, 0, none⟩)) rfl (by kernel_rfl) (by kernel_rfl) (by kernel_rfl) (fun _ _ _ h => h) (Or.inl ⟨by rfl, fun w' hSw => by go_simp⟩) hHeld ?_
                        try simp only [Act.put, List.getElem_toArray, List.getElem_cons_succ, List.getElem_cons_zero, List.setIfInBounds_toArray, List.set_cons_succ, List.set_cons_zero]
                        refine wpAnyH_take (i := 3) (oi := _) (v := .int .i64 j) rfl (by kernel_rfl) (by kernel_rfl) (by kernel_rfl) (fun _ _ _ h => h) (Or.inl ⟨by rfl, fun w' hSw => by go_simp⟩) hHeld ?_
                        try simp only [Act.put, List.getElem_toArray, List.getElem_cons_succ, List.getElem_cons_zero, List.setIfInBounds_toArray, List.set_cons_succ, List.set_cons_zero]
                        refine wpAnyH_ready (rs := [2]) (by kernel_rfl) (by simp) ?_
                        refine AllReadyH.cons (o := _) rfl (fun K hK => ?_) AllReadyH.nil
                        go_simp
                        refine (all_in (EE.M.keep hHeld) HLL.out).mono ?_
                        rintro en q1 ⟨ya, rfl, hya, hb⟩
                        have hHeld' := hHeld.trans (hb.mono hHeld.size)
                        refine hK.out _ _ hHeld' (fun hHeld => ?_)
                        clear hK K hHeld'
                        try simp only [Act.put, List.getElem_toArray, List.getElem_cons_succ, List.getElem_cons_zero, List.setIfInBounds_toArray, List.set_cons_succ, List.set_cons_zero]
                        have rd1 := Reads.of_own hya rfl
                        clear hb hya
                        obtain ⟨bv, ov, hav, lbv, hcv⟩ := reads_cell rd1 (i := wdA c j) (wdA_lt HK.out HSL.out HJS.out)
                        obtain ⟨xw, hxw⟩ : ∃ xw, xw = wdS c L' j := ⟨_, rfl⟩
                        have hxe : L'[wdA c j]'(wdA_lt HK.out HSL.out HJS.out) = xw := by rw [hxw]; unfold wdS; rw [List.getD_eq_getElem?_getD, List.getElem?_eq_getElem (wdA_lt HK.out HSL.out HJS.out)]; rfl
                        rw [hxe] at hcv
                        have HWD := Lib.hid (rword_in c hf ya.ad ya.len ya.cap j HK.out (by rw [reads_len rd1]; exact HSL.out) (by omega) HJS.out xw q1 (wdA c j) (by unfold wdA; have := (chk_ok.1 HK.out).ww; omega) (by rw [reads_len rd1]; exact wdA_lt HK.out HSL.out HJS.out) bv ov hav lbv hcv)
                        have HXW := Lib.hid hxw
                        have HXR : RowKit.Hid (0 ≤ xw ∧ xw < 18446744073709551616) := Lib.hid (hxe ▸ hwr _ (List.getElem_mem _))
                        clear rd1 hav lbv hcv hxe hxw
                        refine wpAnyH_ready (rs := [4]) (by kernel_rfl) (by simp) ?_
                        refine AllReadyH.cons (o := _) rfl (fun K hK => ?_) AllReadyH.nil
                        go_simp
                        refine HWD.out.mono ?_
                        rintro en q2 ⟨rfl, hb⟩
                        have hHeld' := hHeld.trans (hb.mono hHeld.size)
                        refine hK.out _ _ hHeld' (fun hHeld => ?_)
                        clear hK K hHeld' HWD
                        try simp only [Act.put, List.getElem_toArray, List.getElem_cons_succ, List.getElem_cons_zero, List.setIfInBounds_toArray, List.set_cons_succ, List.set_cons_zero]
                        clear hb
                        refine wpAnyH_take (i := 5) (oi := _) (v := .tuple #[.int .u64 xw, .bool true]) rfl (by kernel_rfl) (by kernel_rfl) (by kernel_rfl) (fun _ _ _ h => h) (Or.inl ⟨by rfl, fun w' hSw => by go_simp⟩) hHeld ?_
                        try simp only [Act.put, List.getElem_toArray, List.getElem_cons_succ, List.getElem_cons_zero, List.setIfInBounds_toArray, List.set_cons_succ, List.set_cons_zero]
                        refine wpAnyH_take (i := 6) (oi := _) (v := .int .u64 xw) rfl (by kernel_rfl) (by kernel_rfl) (by kernel_rfl) (fun _ _ _ h => h) (Or.inl ⟨by rfl, fun w' hSw => by go_simp⟩) hHeld ?_
                        try simp only [Act.put, List.getElem_toArray, List.getElem_cons_succ, List.getElem_cons_zero, List.setIfInBounds_toArray, List.set_cons_succ, List.set_cons_zero]
                        refine wpAnyH_take (i := 7) (oi := _) (v := .bool true) rfl (by kernel_rfl) (by kernel_rfl) (by kernel_rfl) (fun _ _ _ h => h) (Or.inl ⟨by rfl, fun w' hSw => by go_simp⟩) hHeld ?_
                        try simp only [Act.put, List.getElem_toArray, List.getElem_cons_succ, List.getElem_cons_zero, List.setIfInBounds_toArray, List.set_cons_succ, List.set_cons_zero]
                        refine wpAnyH_take (i := 8) (oi := _) (v := .int .u64 xw) rfl (by kernel_rfl) (by kernel_rfl) (by kernel_rfl) (fun _ _ _ h => h) (Or.inl ⟨by rfl, fun w' hSw => by go_simp⟩) hHeld ?_
                        try simp only [Act.put, List.getElem_toArray, List.getElem_cons_succ, List.getElem_cons_zero, List.setIfInBounds_toArray, List.set_cons_succ, List.set_cons_zero]
                        refine wpAnyH_take (i := 9) (oi := _) (v := .bool true) rfl (by kernel_rfl) (by kernel_rfl) (by kernel_rfl) (fun _ _ _ h => h) (Or.inl ⟨by rfl, fun w' hSw => by go_simp⟩) hHeld ?_
                        try simp only [Act.put, List.getElem_toArray, List.getElem_cons_succ, List.getElem_cons_zero, List.setIfInBounds_toArray, List.set_cons_succ, List.set_cons_zero]
                        refine wpAnyH_done (by kernel_rfl) ?_ _
                        have E20 := EE.keep hHeld
                        clear hHeld EE c1
                        have hdl' := HDL2.out
                        obtain ⟨d, hd⟩ : ∃ d, d = dl'[j]'(by omega) := ⟨_, rfl⟩
                        have cD : q2.cell? ⟨gd, j, none⟩ = some (.int .i64 d) := by rw [hd]; exact (E20.D.cells j).trans (iv_get (by omega))
                        have lD := E20.D.lt
                        have c2 : q2.cell? ⟨w.heap.size, 2, none⟩ = some (.int .i64 c.bl) := by rw [E20.C.cells]; rfl
                        have lc := E20.C.lt
                        have hsl7 := ga_slab HI.out HJS.out (d := d) (x := xw) (by rw [hd, List.getD_eq_getElem?_getD, List.getElem?_eq_getElem (by omega)]; rfl) HXW.out
                        have hsum : IntKind.i64.wrap ((j : Int) + 1) = (j : Int) + 1 := IntWalk.i64_in _ (by omega)
                        have hbl := (chk_ok.1 HK.out).bl
                        clear hd
                        rcases hsl7 with hd1 | ⟨hd1, hd2, hd3⟩ | ⟨rfl, hd2⟩
                        · have u1 : decide (0 < d) = false := by simp; omega
                          have u2 : (d == 0) = false := by simp; omega
                          clear hd1
                          go_wp2
                          refine wp_region_grown (by kernel_rfl) (by kernel_rfl) ?_
                          have hg := @gcell
                          repeat (go_big_quiet_step (fail))
                          refine wpQuiet_nil ?_
                          rintro w21 ⟨⟨_, hb21⟩, rfl⟩
                          clear hg
                          have E21 := E20.keep hb21
                          clear E20 cD lD c2 lc
                          go_wp2
                          go_roundw
                          case rel => exact ⟨j + 1, by go_num, by omega, E21⟩
                          case measure => simp [intOf]; omega
                        · have u1 : decide (0 < d) = true := by simp; omega
                          have u2 : (d == 0) = false := by simp; omega
                          have hxr := HXR.out
                          have u3 : wrap64 ((IntKind.u64.wrap (xw.tdiv 16)).tmod 4096) = c.bl - d := by
                            rw [Int.tdiv_eq_ediv_of_nonneg hxr.1, u64_in (by omega) (by omega), Int.tmod_eq_emod_of_nonneg (by omega), hd2]
                            exact IntWalk.wrap64_in _ (by omega)
                          have u5 : (wrap64 ((IntKind.u64.wrap (xw.tdiv 16)).tmod 4096) != c.bl - d) = false := by rw [u3]; simp
                          clear u3 hxr
                          have u4 : IntKind.i64.wrap (c.bl - d) = c.bl - d := IntWalk.i64_in _ (by omega)
                          clear hd1 hd2 hd3
                          go_wp2
                          refine wp_region_grown (by kernel_rfl) (by kernel_rfl) ?_
                          have hg := @gcell
                          repeat (go_big_quiet_step (fail))
                          refine wpQuiet_nil ?_
                          rintro w21 ⟨⟨_, hb21⟩, rfl⟩
                          clear hg
                          have E21 := E20.keep hb21
                          clear E20 cD lD c2 lc
                          go_wp2
                          go_roundw
                          case rel => exact ⟨j + 1, by go_num, by omega, E21⟩
                          case measure => simp [intOf]; omega
                        · have u2 : (xw.tmod 16 != 3) = false := by rw [Int.tmod_eq_emod_of_nonneg HXR.out.1]; simp [hd2]
                          clear hd2
                          go_wp2
                          refine wp_region_grown (by kernel_rfl) (by kernel_rfl) ?_
                          have hg := @gcell
                          repeat (go_big_quiet_step (fail))
                          refine wpQuiet_nil ?_
                          rintro w21 ⟨⟨_, hb21⟩, rfl⟩
                          clear hg
                          have E21 := E20.keep hb21
                          clear E20 cD lD c2 lc
                          go_wp2
                          go_roundw
                          case rel => exact ⟨j + 1, by go_num, by omega, E21⟩
                          case measure => simp [intOf]; omega
                      · obtain rfl : m = j := by omega
                        go_wp2
                        go_ret
                        exact ⟨rfl, EE.hb⟩)
                · simp only at hok1 hll hwr1 hG1
                  subst hok1
                  have hlt : n < 4 * H.length := by omega
                  have t1 : decide ((n : Int) < 4 * (H.length : Int)) = true := by simp; omega
                  have hsum : IntKind.i64.wrap ((n : Int) + 1) = (n : Int) + 1 := IntWalk.i64_in _ (by omega)
                  have HS := Lib.hid (giveStepAny EE.M hf HLL.out hwr s x hfx AA hpx)
                  rw [ha] at HS
                  have HG1 := Lib.hid hG1
                  have HW1 := Lib.hid hwr1
                  have HLE := Lib.hid (hll.trans hl')
                  clear hG hG1 hwr1 hwr hll ha hfx hpx AA
                  go_wp2_with (refine wpList_load_row rfl 43 _ rfl (gx) rfl _ (wc s) (0, 0) _ (by exact EE.X) Try.underlying43 rfl (by kernel_rfl) ?_)
                  refine HS.out.mono ?_
                  rintro en u ⟨t, rfl, At, Mt, Tt⟩
                  have Et := EE.touch Mt Tt
                  have X2 := boxed_bk u t
                  have bb2 := boxed_below u t
                  have E2 := Et.keep bb2
                  have lgx := EE.X.lt
                  have A2 := ((At.keep bb2).setRow (g := gx) lgx (wc t)).lies
                  have E3 := E2.row t
                  have XX := E2.X
                  obtain ⟨u2, hu2⟩ : ∃ q, q = (u.alloc (.cells (wc wz) 43)).setRow u.heap.size (wc t) := ⟨_, rfl⟩
                  have Z2 := Bk.new u (wc wz) 43
                  rw [← hu2] at X2 XX A2 E3
                  obtain ⟨u3, hu3⟩ : ∃ q, q = u2.setRow gx (wc t) := ⟨_, rfl⟩
                  rw [← hu3] at A2 E3
                  clear At Mt Tt Et E2 bb2 EE lgx HS
                  go_wp2_with (first | ((with_reducible refine wpList_alloc_wz rfl rfl ?_)) | ((refine wpList_store_row rfl 43 _ _ rfl (u.heap.size) (wc t) rfl rfl _ _ (by exact Z2) (by kernel_rfl) (by kernel_rfl) (by kernel_rfl) ?_); rw [← hu2]; clear hu2 Z2) | (refine wpList_load_row rfl 43 _ rfl (u.heap.size) rfl _ (wc t) (0, 0) _ (by exact X2) Try.underlying43 rfl (by kernel_rfl) ?_) | ((refine wpList_store_row rfl 43 _ _ rfl (gx) (wc t) rfl rfl _ _ (by exact XX) (by kernel_rfl) (by kernel_rfl) (by kernel_rfl) ?_); rw [← hu3]; clear hu3 XX X2))
                  go_roundw
                  case rel =>
                    refine ⟨n + 1, rw_, t, rx, ra, rL, by go_num, rfl, by omega, E3, A2, HLE.out, HW1.out, ?_⟩
                    have : 4 * H.length - (n + 1) = m' := by omega
                    rw [this]
                    exact HG1.out
                  case measure => simp [intOf]; omega
end Go.Proofs.Ytgpdkagmacpghaa.Me

/- The law GiveAlone, for every input. -/
namespace Go.Proofs.Ytgpdkagmacpghaa.Me
open Go Go.RowKit Go.Proofs.Ytgpdkagmacpghaa.Gro Go.Proofs.Ytgpdkagmacpghaa.Own Go.Proofs.Ytgpdkagmacpghaa.Wd Go.Proofs.Ytgpdkagmacpghaa.Ap Go.Proofs.Ytgpdkagmacpghaa.Pl Go.Proofs.Ytgpdkagmacpghaa.Wo
set_option linter.unusedVariables false
theorem giveAlone (c : Cfg) (hf : c.Wf) (v h : Sl) (L H : List Int) (w : World) (hr : Reads w .u64 v.v L) (hL : WR L) (hh : Reads w .i64 h.v H) :
    Calls Try.prog 3 #[cv c, v.v, h.v] w fun e w' => e = .returned (.bool true) ∧ Below w.heap.size w w' := by
  have hl := reads_len hr
  have hc := reads_le hr
  obtain ⟨ad, n, cap⟩ := v
  simp only at hl hc
  unfold maxLen at hc
  cases hg : greatC c with
  | true => exact gal_no c hf ⟨ad, n, cap⟩ h L H hL false w hr hh (Lib.hid fun _ => both_great c hf ad n cap hg _) (.inl rfl)
  | false =>
    by_cases hn : 400 < n
    · exact gal_no c hf ⟨ad, n, cap⟩ h L H hL false w hr hh (Lib.hid fun _ => both_long c hf ad n cap hg hn (by omega) _) (.inl rfl)
    · by_cases hk : chk c = 0
      · by_cases hs : (n : Int) = siz c
        · have HB : RowKit.Hid (∀ {w0 : World}, Below w.heap.size w w0 → Calls Try.prog 8 #[cv c, .slice ad n cap] w0 (BothYes c L w0)) := Lib.hid fun hb => both_yes c hf ad n cap hg (by omega) (chk_ok.1 hk) L hl.symm hs _ (hr.keep hb)
          have HBn : RowKit.Hid (∀ {w0 : World}, Below w.heap.size w w0 → Calls Try.prog 8 #[cv c, .slice ad n cap] w0 (fun e w' => (∃ v1 v2, e = .returned (.tuple #[v1, v2, .bool true])) ∧ Below w0.heap.size w0 w')) := Lib.hid fun hb => (HB.out hb).mono (by
            rintro en w2 ⟨g, gl, cp, g2, gl2, cp2, rfl, B2⟩
            exact ⟨⟨_, _, rfl⟩, B2.below⟩)
          by_cases h20 : 20 < H.length
          · exact gal_no c hf ⟨ad, n, cap⟩ h L H hL true w hr hh HBn (.inr (.inr h20))
          · cases hls : listR c L false with
            | none => exact gal_no c hf ⟨ad, n, cap⟩ h L H hL true w hr hh HBn (.inr (.inl hls))
            | some W => exact gal_main c hf ⟨ad, n, cap⟩ h L H W (by omega) hL w hr hh HB hk (by omega) hls (by omega)
        · exact gal_no c hf ⟨ad, n, cap⟩ h L H hL false w hr hh (Lib.hid fun hb => both_form c hf ad n cap hg (by omega) (chk_ok.1 hk) hs L hl.symm _ (hr.keep hb)) (.inl rfl)
      · exact gal_no c hf ⟨ad, n, cap⟩ h L H hL false w hr hh (Lib.hid fun hb => both_bad c hf ad n cap hg (by omega) hk L hl.symm _ (hr.keep hb)) (.inl rfl)
end Go.Proofs.Ytgpdkagmacpghaa.Me

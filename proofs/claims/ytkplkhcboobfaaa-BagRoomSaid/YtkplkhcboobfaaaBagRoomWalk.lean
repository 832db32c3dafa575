/- The law BagRoom, walked (made by genbagroom.py). -/
import Derived.Test.YtkplkhcboobfaaaBagAwake
import Derived.Test.YtkplkhcboobfaaaEnv
import Derived.IntWalk
namespace Go.Proofs.Ytkplkhcboobfaaa.Wo
open Go Go.RowKit Go.Proofs.Ytkplkhcboobfaaa.Gro Go.Proofs.Ytkplkhcboobfaaa.Own Go.Proofs.Ytkplkhcboobfaaa.Wd Go.Proofs.Ytkplkhcboobfaaa.Ap Go.Proofs.Ytkplkhcboobfaaa.Pl
set_option linter.unusedVariables false
set_option linter.unusedSimpArgs false
theorem Env.update {w0 u : World} {c : Cfg} {g : Nat} {s s' : Wk} {x x' : St} (h : Env w0 c [(g, s, x)] u) (hg : w0.heap.size ≤ g) (hl : Lies u s' x') (hn : NoB g s' x') : Env w0 c [(g, s', x')] (u.setRow g (wc s')) := by
  have hX := h.bk (g := g) (s := s) (x := x) (by simp)
  have hne : w0.heap.size ≠ g := by
    rintro e
    have := h.C
    rw [e] at this
    have := this.symm.trans hX
    simp at this
  refine ⟨h.C.setRow_far hne _, fun e he => ?_, below_setRow h.below hg _⟩
  rcases List.mem_cons.1 he with rfl | he
  · exact ⟨hX.setRow _, hl.row hn _⟩
  · cases he
theorem Env.tail {w0 u : World} {c : Cfg} {e : Nat × Wk × St} {l : List (Nat × Wk × St)} (h : Env w0 c (e :: l) u) : Env w0 c l u := ⟨h.C, fun d hd => h.E d (List.mem_cons_of_mem _ hd), h.below⟩
def ran (n : Nat) : List Int := (List.range n).map (fun i : Nat => (i : Int))
theorem ran_len (n : Nat) : (ran n).length = n := by simp [ran]
theorem ran_snoc (n : Nat) : ran n ++ [(n : Int)] = ran (n + 1) := by simp [ran, List.range_succ]
/-- All buckets bear the tag; one of them holds the list. -/
def pR (e tag : Int) : Pl := { pz with ep := e, t0 := tag, t1 := tag, t2 := tag }
def wR (e tag : Int) : Wk := { wz with p := pR e tag }
def xR (e tag : Int) (l : List Int) : St :=
  if tag % 3 = 0 then { zS with p := pR e tag, l0 := l } else if tag % 3 = 1 then { zS with p := pR e tag, l1 := l } else { zS with p := pR e tag, l2 := l }
theorem xR_p (e tag : Int) (l : List Int) : (xR e tag l).p = pR e tag := by unfold xR; split; rfl; split <;> rfl
theorem xR_hl (e tag : Int) (l : List Int) : (xR e tag l).hl = [] := by unfold xR; split; rfl; split <;> rfl
theorem xR_few (e tag : Int) (l : List Int) {m : Nat} (h : l.length ≤ m) : Few m (xR e tag l) := by
  unfold xR
  split
  · exact ⟨by simp [zS], h, by simp [zS], by simp [zS], by simp [zS], by simp [zS]⟩
  · split
    · exact ⟨by simp [zS], by simp [zS], h, by simp [zS], by simp [zS], by simp [zS]⟩
    · exact ⟨by simp [zS], by simp [zS], by simp [zS], h, by simp [zS], by simp [zS]⟩
theorem xR_count (e tag : Int) (l : List Int) : (xR e tag l).l0.length + (xR e tag l).l1.length + (xR e tag l).l2.length = l.length := by
  unfold xR
  split
  · simp [zS]
  · split <;> simp [zS]
theorem put_xR (m e tag : Int) (l : List Int) (b : Int) (ht : IntKind.u64.wrap (e + 1) = tag) (h0 : 0 ≤ tag) : putB m (xR e tag l) b = if (l.length : Int) < m then (xR e tag (l ++ [b]), true) else (xR e tag l, false) := by
  have hT : tagOf (xR e tag l) = tag := by unfold tagOf; rw [xR_p]; exact ht
  unfold putB
  rw [hT]
  by_cases h1 : tag % 3 = 0
  · have hp : prep0 (xR e tag l) = xR e tag l := by unfold prep0; rw [hT, xR_p, if_pos (show (pR e tag).t0 = tag from rfl)]
    rw [hp]
    simp only [if_pos h1, xR]
  · by_cases h2 : tag % 3 = 1
    · have hp : prep1 (xR e tag l) = xR e tag l := by unfold prep1; rw [hT, xR_p, if_pos (show (pR e tag).t1 = tag from rfl)]
      rw [hp]
      simp only [if_neg h1, if_pos h2, xR]
    · have hp : prep2 (xR e tag l) = xR e tag l := by unfold prep2; rw [hT, xR_p, if_pos (show (pR e tag).t2 = tag from rfl)]
      rw [hp]
      simp only [if_neg h1, if_neg h2, xR]
theorem lies_R (w : World) (e tag : Int) : Lies w (wR e tag) (xR e tag []) := by
  unfold xR
  split
  · exact ⟨rfl, Reads.nil _ _, Reads.nil _ _, Reads.nil _ _, Reads.nil _ _, Reads.nil _ _, Reads.nil _ _⟩
  · split <;> exact ⟨rfl, Reads.nil _ _, Reads.nil _ _, Reads.nil _ _, Reads.nil _ _, Reads.nil _ _, Reads.nil _ _⟩
theorem build_bag (tag : Int) (w : World) : (Instr.build 60 #[(0, .int .u64 tag)]).run Try.prog w = .ok (.agg #[.int .u64 tag, .slice none 0 0]) w := run_build w _ _ _ (by kernel_rfl)
theorem build_bags (t0 t1 t2 : Int) (w : World) : (Instr.build 61 #[(0, .agg #[.int .u64 t0, .slice none 0 0]), (1, .agg #[.int .u64 t1, .slice none 0 0]), (2, .agg #[.int .u64 t2, .slice none 0 0])]).run Try.prog w = .ok (.agg #[.int .u64 t0, .slice none 0 0, .int .u64 t1, .slice none 0 0, .int .u64 t2, .slice none 0 0]) w := run_build w _ _ _ (by kernel_rfl)
theorem build_wR (e tag : Int) (w : World) : (Instr.build 63 #[(3, .int .u64 e), (5, .agg #[.int .u64 tag, .slice none 0 0, .int .u64 tag, .slice none 0 0, .int .u64 tag, .slice none 0 0])]).run Try.prog w = .ok (wv (wR e tag)) w := run_build w _ _ _ (by kernel_rfl)
set_option maxRecDepth 100000 in
set_option maxHeartbeats 4000000 in
theorem bagRoom (c : Cfg) (e m : Int) (he0 : 0 ≤ e) (hm0 : 0 ≤ m) (hm1 : m < 256) (w : World) :
    Calls Try.prog 7 #[cv c, .int .u64 e, .int .u8 m] w fun r w' => r = .returned (.bool true) ∧ Below w.heap.size w w' := by
  obtain ⟨tag, ht⟩ : ∃ tag, IntKind.u64.wrap (e + 1) = tag := ⟨_, rfl⟩
  have htag := Lib.hid (show 0 ≤ tag from by rw [← ht]; exact (tag_range { zS with p := { pz with ep := e } }).1)
  have HT := Lib.hid ht
  obtain ⟨q, hq⟩ : ∃ q : Nat, m.tmod 20 = (q : Int) := ⟨(m.tmod 20).toNat, by rw [Int.toNat_of_nonneg (Int.tmod_nonneg _ hm0)]⟩
  have hq20 : q < 20 := by
    have : m.tmod 20 < 20 := Int.tmod_lt_of_pos _ (by omega)
    omega
  have hcv : IntKind.i64.wrap m = m := IntWalk.i64_in _ (by omega)
  have hbb := build_bag
  have hbs := build_bags
  have hbw := build_wR
  have e17 : ∀ s : Wk, (wc s)[17]? = some (.slice s.hl.ad s.hl.len s.hl.cap) := fun _ => rfl
  go_enter Try.func7, Try.ntmps7
  go_wp2_with fail
  refine (awake5 _).mono ?_
  rintro r w1 ⟨rfl, hb1⟩
  have C1 := (Bk.new w (ccW c) 24).keep hb1
  have hw1 : Below w.heap.size w w1 := ((Below.refl _ _).alloc (Nat.le_refl _) _).trans (hb1.mono (by simp))
  have Z1 := Bk.new w1 (wc wz) 63
  have hgx : w.heap.size ≤ w1.heap.size := hw1.size
  have E2 : Env w c [(w1.heap.size, wR e tag, xR e tag (ran (min 0 c.bg.toNat)))] ((w1.alloc (.cells (wc wz) 63)).setRow w1.heap.size (wc (wR e tag))) :=
    ⟨C1.keep (boxed_below w1 _), fun d hd => by
      rcases List.mem_cons.1 hd with rfl | hd
      · exact ⟨boxed_bk w1 _, by simpa [ran] using lies_R _ e tag⟩
      · exact absurd hd (by simp), hw1.trans ((boxed_below w1 _).mono hw1.size)⟩
  clear hb1
  go_wp2_with (first | (refine wpList_alloc_wz rfl rfl ?_) | (refine wpList_store_row rfl 63 _ _ rfl (w1.heap.size) (wc (wR e tag)) rfl rfl _ _ (by exact Z1) (by kernel_rfl) (by kernel_rfl) (by kernel_rfl) ?_))
  obtain ⟨u0, hu0⟩ : ∃ u, u = (w1.alloc (.cells (wc wz) 63)).setRow w1.heap.size (wc (wR e tag)) := ⟨_, rfl⟩
  rw [← hu0] at E2 ⊢
  obtain ⟨gx, hgx'⟩ : ∃ g, g = w1.heap.size := ⟨_, rfl⟩
  rw [← hgx'] at E2 hgx ⊢
  clear hu0 hgx' Z1 C1 hw1 ht hbb hbs hbw
  have HE := Lib.hid E2
  clear E2
  go_loopw [8] (fun i wr => ∃ k : Nat, k ≤ q ∧ i = .int .i64 k ∧ ∃ s, Env w c [(gx, s, xR e tag (ran (min k c.bg.toNat)))] wr) (fun i _ => q - (intOf i).toNat)
  case atStart => exact ⟨0, Nat.zero_le _, rfl, _, HE.out⟩
  case round =>
    obtain ⟨k, hk, rfl, s, E⟩ := hrel
    clear HE
    by_cases hlt : k < q
    · have hput := put_xR c.bg e tag (ran (min k c.bg.toNat)) k HT.out htag.out
      have hfew := xR_few e tag (ran (min k c.bg.toNat)) (m := 400) (by rw [ran_len]; omega)
      have hp := bagPut c s _ hfew k
      rw [hput, ran_len] at hp
      have hsum : IntKind.i64.wrap ((k : Int) + 1) = (k : Int) + 1 := IntWalk.i64_in _ (by omega)
      have HX := Lib.hid (show Bk wr gx (wc s) 63 from (E.E _ (List.mem_singleton.2 rfl)).1)
      by_cases hkb : (k : Int) < c.bg
      · have hmin : min k c.bg.toNat = k := by omega
        have hmin1 : min (k + 1) c.bg.toNat = k + 1 := by omega
        rw [hmin] at hp E hfew
        rw [if_pos (by omega), ran_snoc] at hp
        have HP := Lib.hid (hp wr (E.lies (g := gx) (s := s) (x := (xR e tag (ran k))) (by simp)))
        have cc := E.C.cells
        have hcl := E.C.lt
        clear hp hput hmin hfew
        go_wp2_with (first | (refine wpList_load_row rfl 24 _ rfl w.heap.size rfl _ (ccW c) (0, 0) _ (by exact E.C) Try.underlying24 rfl (by kernel_rfl) ?_) | (refine wpList_load_row rfl 63 _ rfl (gx) rfl _ (wc s) (0, 0) _ (by exact HX.out) Try.underlying63 rfl (by kernel_rfl) ?_))
        refine HP.out.mono ?_
        rintro r w2 ⟨s2, rfl, L2, hb2⟩
        have F := (E.keep hb2).keep (boxed_below w2 s2)
        have G : Env w c ((w2.heap.size, s2, xR e tag (ran (k + 1))) :: [(gx, s, xR e tag (ran k))]) ((w2.alloc (.cells (wc wz) 63)).setRow w2.heap.size (wc s2)) := Env.box E hb2 L2.lies
        have Z2 := Bk.new w2 (wc wz) 63
        have hz2 : w2.heap.size < ((w2.alloc (.cells (wc wz) 63)).setRow w2.heap.size (wc s2)).heap.size := by simp
        have LL := (L2.keep (boxed_below w2 s2))
        have hgxl := HX.out.lt
        have hl2 := (reads_len L2.lies.hl)
        rw [xR_hl] at hl2
        have eh : (wc s2)[17]? = some (.slice s2.hl.ad 0 s2.hl.cap) := by rw [e17 s2, hl2]; rfl
        clear HP cc hl2 e17 hb2 L2
        go_wp2_with (first | (refine wpList_alloc_wz rfl rfl ?_) | (refine wpList_store_row rfl 63 _ _ rfl (w2.heap.size) (wc s2) rfl rfl _ _ (by exact Z2) (by kernel_rfl) (by kernel_rfl) (by kernel_rfl) ?_))
        obtain ⟨u2, hu2⟩ : ∃ u, u = (w2.alloc (.cells (wc wz) 63)).setRow w2.heap.size (wc s2) := ⟨_, rfl⟩
        rw [← hu2] at F G LL hz2 ⊢
        obtain ⟨gy, hgy⟩ : ∃ g, g = w2.heap.size := ⟨_, rfl⟩
        rw [← hgy] at G hz2 ⊢
        clear hu2 hgy Z2
        have BY := (G.bk (g := gy) (s := s2) (x := (xR e tag (ran (k + 1)))) (by simp))
        have yy := BY.cells
        have cc := F.C.cells
        have hcl := F.C.lt
        have CN : ∀ n : Gr u2, Calls Try.prog 42 #[wv s2] n.1 fun r w'' => r = .returned (.int .i64 ((k : Int) + 1)) ∧ ∃ m : Gr u2, w'' = m.1 := fun n => by
          have := bagCount s2 _ (xR_few e tag (ran (k + 1)) (m := 900) (by rw [ran_len]; omega)) n.1 (LL.lies.keep n.2)
          rw [xR_count, ran_len] at this
          exact grown_of this
        have HCN := Lib.hid CN
        have hd : decide ((k : Int) < c.bg) = true := by simpa using hkb
        clear CN
        go_wp2
        refine wp_region_grown (by kernel_rfl) (by kernel_rfl) ?_
        have hg := @gcell
        go_big_quiet_step (fail)
        go_big_quiet_step (fail)
        go_big_quiet_step (fail)
        go_big_quiet_step (fail)
        go_big_quiet_step (fail)
        go_big_quiet_step (fail)
        go_big_quiet_step (fail)
        go_big_quiet_step (fail)
        go_big_quiet_step (fail)
        (refine wpQuiet_load_row_w rfl 63 _ rfl (gy) rfl (wc s2) 63 _ (by rintro _ ⟨n, rfl⟩; exact Bk.keep BY n.2) Try.underlying63 rfl (by kernel_rfl) ?_; simp only [Act.put, List.setIfInBounds_toArray, List.set_cons_succ, List.set_cons_zero])
        go_big_quiet_step (exact HCN.out _)
        repeat (go_big_quiet_step (fail))
        refine wpQuiet_nil ?_
        rintro u3 ⟨⟨_, hb3⟩, rfl⟩
        clear hg yy cc HCN
        have BY3 := BY.keep hb3
        have F3 := F.keep hb3
        have L3 := LL.keep hb3
        have BX3 := (F3.bk (g := gx) (s := s) (x := (xR e tag (ran k))) (by simp))
        have EN := Lib.hid (F3.update hgx L3.lies (noB_far L3 (by omega)))
        clear F G E F3
        go_wp2_with (first | (refine wpList_load_row rfl 63 _ rfl (gy) rfl _ (wc s2) (0, 0) _ (by exact BY3) Try.underlying63 rfl (by kernel_rfl) ?_) | (refine wpList_store_row rfl 63 _ _ rfl (gx) (wc s2) rfl rfl _ _ (by exact BX3) (by kernel_rfl) (by kernel_rfl) (by kernel_rfl) ?_))
        go_roundw
        case rel => exact ⟨k + 1, by omega, by go_num, s2, by rw [hmin1]; exact EN.out⟩
        case measure => simp [intOf]; omega
      · have hmin : min k c.bg.toNat = c.bg.toNat := by omega
        have hmin1 : min (k + 1) c.bg.toNat = c.bg.toNat := by omega
        rw [hmin] at hp E hfew
        rw [if_neg (by omega)] at hp
        have HP := Lib.hid (hp wr (E.lies (g := gx) (s := s) (x := (xR e tag (ran c.bg.toNat))) (by simp)))
        have cc := E.C.cells
        have hcl := E.C.lt
        clear hp hput hmin hfew
        go_wp2_with (first | (refine wpList_load_row rfl 24 _ rfl w.heap.size rfl _ (ccW c) (0, 0) _ (by exact E.C) Try.underlying24 rfl (by kernel_rfl) ?_) | (refine wpList_load_row rfl 63 _ rfl (gx) rfl _ (wc s) (0, 0) _ (by exact HX.out) Try.underlying63 rfl (by kernel_rfl) ?_))
        refine HP.out.mono ?_
        rintro r w2 ⟨s2, rfl, L2, hb2⟩
        have F := (E.keep hb2).keep (boxed_below w2 s2)
        have G : Env w c ((w2.heap.size, s2, xR e tag (ran c.bg.toNat)) :: [(gx, s, xR e tag (ran c.bg.toNat))]) ((w2.alloc (.cells (wc wz) 63)).setRow w2.heap.size (wc s2)) := Env.box E hb2 L2.lies
        have Z2 := Bk.new w2 (wc wz) 63
        have hz2 : w2.heap.size < ((w2.alloc (.cells (wc wz) 63)).setRow w2.heap.size (wc s2)).heap.size := by simp
        have LL := (L2.keep (boxed_below w2 s2))
        have hgxl := HX.out.lt
        have hl2 := (reads_len L2.lies.hl)
        rw [xR_hl] at hl2
        have eh : (wc s2)[17]? = some (.slice s2.hl.ad 0 s2.hl.cap) := by rw [e17 s2, hl2]; rfl
        clear HP cc hl2 e17 hb2 L2
        go_wp2_with (first | (refine wpList_alloc_wz rfl rfl ?_) | (refine wpList_store_row rfl 63 _ _ rfl (w2.heap.size) (wc s2) rfl rfl _ _ (by exact Z2) (by kernel_rfl) (by kernel_rfl) (by kernel_rfl) ?_))
        obtain ⟨u2, hu2⟩ : ∃ u, u = (w2.alloc (.cells (wc wz) 63)).setRow w2.heap.size (wc s2) := ⟨_, rfl⟩
        rw [← hu2] at F G LL hz2 ⊢
        obtain ⟨gy, hgy⟩ : ∃ g, g = w2.heap.size := ⟨_, rfl⟩
        rw [← hgy] at G hz2 ⊢
        clear hu2 hgy Z2
        have BY := (G.bk (g := gy) (s := s2) (x := (xR e tag (ran c.bg.toNat))) (by simp))
        have BX := (F.bk (g := gx) (s := s) (x := (xR e tag (ran c.bg.toNat))) (by simp))
        have LX := (F.lies (g := gx) (s := s) (x := (xR e tag (ran c.bg.toNat))) (by simp))
        have yy := BY.cells
        have cc := F.C.cells
        have hcl := F.C.lt
        obtain ⟨nc, hnc⟩ : ∃ nc : Int, nc = ((c.bg.toNat : Nat) : Int) := ⟨_, rfl⟩
        have CN : ∀ n : Gr u2, Calls Try.prog 42 #[wv s2] n.1 fun r w'' => r = .returned (.int .i64 nc) ∧ ∃ m : Gr u2, w'' = m.1 := fun n => by
          have := bagCount s2 _ (xR_few e tag (ran c.bg.toNat) (m := 900) (by rw [ran_len]; omega)) n.1 (LL.lies.keep n.2)
          rw [xR_count, ran_len, ← hnc] at this
          exact grown_of this
        have CM : ∀ n : Gr u2, Calls Try.prog 42 #[wv s] n.1 fun r w'' => r = .returned (.int .i64 nc) ∧ ∃ m : Gr u2, w'' = m.1 := fun n => by
          have := bagCount s _ (xR_few e tag (ran c.bg.toNat) (m := 900) (by rw [ran_len]; omega)) n.1 (LX.keep n.2)
          rw [xR_count, ran_len, ← hnc] at this
          exact grown_of this
        have HCN := Lib.hid CN
        have HCM := Lib.hid CM
        have hd : decide ((k : Int) < c.bg) = false := by simpa using hkb
        clear CN CM hnc
        go_wp2
        refine wp_region_grown (by kernel_rfl) (by kernel_rfl) ?_
        have hg := @gcell
        go_big_quiet_step (fail)
        go_big_quiet_step (fail)
        go_big_quiet_step (fail)
        go_big_quiet_step (fail)
        go_big_quiet_step (fail)
        go_big_quiet_step (fail)
        go_big_quiet_step (fail)
        go_big_quiet_step (fail)
        go_big_quiet_step (fail)
        go_big_quiet_step (fail)
        go_big_quiet_step (fail)
        go_big_quiet_step (fail)
        go_big_quiet_step (fail)
        go_big_quiet_step (fail)
        go_big_quiet_step (fail)
        go_big_quiet_step (fail)
        go_big_quiet_step (fail)
        go_big_quiet_step (fail)
        go_big_quiet_step (fail)
        go_big_quiet_step (fail)
        (refine wpQuiet_load_row_w rfl 63 _ rfl (gy) rfl (wc s2) 63 _ (by rintro _ ⟨n, rfl⟩; exact Bk.keep BY n.2) Try.underlying63 rfl (by kernel_rfl) ?_; simp only [Act.put, List.setIfInBounds_toArray, List.set_cons_succ, List.set_cons_zero])
        go_big_quiet_step (exact HCN.out _)
        (refine wpQuiet_load_row_w rfl 63 _ rfl (gx) rfl (wc s) 63 _ (by rintro _ ⟨n, rfl⟩; exact Bk.keep BX n.2) Try.underlying63 rfl (by kernel_rfl) ?_; simp only [Act.put, List.setIfInBounds_toArray, List.set_cons_succ, List.set_cons_zero])
        go_big_quiet_step (exact HCM.out _)
        repeat (go_big_quiet_step (fail))
        refine wpQuiet_nil ?_
        rintro u3 ⟨⟨_, hb3⟩, rfl⟩
        clear hg yy cc HCN HCM
        have BY3 := BY.keep hb3
        have F3 := F.keep hb3
        have L3 := LL.keep hb3
        have BX3 := (F3.bk (g := gx) (s := s) (x := (xR e tag (ran c.bg.toNat))) (by simp))
        have EN := Lib.hid (F3.update hgx L3.lies (noB_far L3 (by omega)))
        clear F G E F3
        go_wp2_with (first | (refine wpList_load_row rfl 63 _ rfl (gy) rfl _ (wc s2) (0, 0) _ (by exact BY3) Try.underlying63 rfl (by kernel_rfl) ?_) | (refine wpList_store_row rfl 63 _ _ rfl (gx) (wc s2) rfl rfl _ _ (by exact BX3) (by kernel_rfl) (by kernel_rfl) (by kernel_rfl) ?_))
        go_roundw
        case rel => exact ⟨k + 1, by omega, by go_num, s2, by rw [hmin1]; exact EN.out⟩
        case measure => simp [intOf]; omega
    · obtain rfl : k = q := by omega
      have hw := E.below
      clear E
      go_wp2
      go_ret
      exact ⟨rfl, hw⟩
end Go.Proofs.Ytkplkhcboobfaaa.Wo

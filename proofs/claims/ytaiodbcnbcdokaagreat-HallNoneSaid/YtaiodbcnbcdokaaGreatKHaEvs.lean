/- Part HaEvs. -/
import Derived.Test.YtaiodbcnbcdokaaGreatKHaNew
set_option linter.unusedVariables false
set_option linter.unusedSimpArgs false
set_option linter.unusedSectionVars false
set_option maxRecDepth 100000
set_option maxHeartbeats 16000000
section
namespace Go.Proofs.YtaiodbcnbcdokaaGreat.Me
open Go Go.RowKit Gro Own Wd Ap Go.Proofs.YtaiodbcnbcdokaaGreat.Pl
section
variable {base : Nat} {w : World} {g gl cap : Nat} {c : Cfg} {a : Acc} {L : List Int}
theorem aC.reads (M : aC base w g c a gl cap L) : Reads w .u64 (.slice (some ⟨gl, 0, none⟩) L.length cap) L := Reads.of_own M.W rfl
theorem all_in (M : aC base w g c a gl cap L) (hm : L.length ≤ 1000) : Calls Tryz.prog 65 #[.pointer (some ⟨g, 0, none⟩)] w fun e w' => ∃ y : Sl, e = .returned y.v ∧ w'.ownsRow w.heap.size 22 1 y.v L.length (L.map (.int .u64)) ∧ Below w.heap.size w w' := by
 have x := M.B.cells
 have hr := M.reads
 go_enter Tryz.func65, Tryz.ntmps65
 go_wp2_with fail
 refine (clone (v := ⟨some ⟨gl, 0, none⟩, L.length, cap⟩) hm hr).mono ?_
 rintro e w1 ⟨y, rfl, hy, hb1⟩
 go_wp2
 go_ret
 exact ⟨y, rfl, hy, hb1⟩
end
end Go.Proofs.YtaiodbcnbcdokaaGreat.Me
end
section
namespace Go.Proofs.YtaiodbcnbcdokaaGreat.Ha
open Go Go.RowKit Go.ChangeMaps Gro Own Wd Ap Go.Proofs.YtaiodbcnbcdokaaGreat.Pl Wo Me Shp Opn Opw Scw
theorem find_nil (k : Int) (w : World) : Calls Tryz.prog 60 #[.pointer none, .int .i64 k] w fun e w' => e = .returned (.pointer none) ∧ w' = w := by
 go_enter Tryz.func60, Tryz.ntmps60
 exact qa1g
theorem tick_nil (w : World) : Calls Tryz.prog 26 #[.pointer none] w fun e w' => e = .returned (.int .i64 0) ∧ w' = w := by
 go_enter Tryz.func26, Tryz.ntmps26
 exact qa1g
theorem words_nil (w : World) : Calls Tryz.prog 28 #[.pointer none] w fun e w' => e = .returned (.slice none 0 0) ∧ w' = w := by
 go_enter Tryz.func28, Tryz.ntmps28
 exact qa1g
theorem events_nil (w : World) : Calls Tryz.prog 25 #[.pointer none] w fun e w' => e = .returned (.slice none 0 0) ∧ w' = w := by
 go_enter Tryz.func25, Tryz.ntmps25
 exact qa1g
theorem left_none (h : Option Addr) (k : Int) (w : World) (hf : Calls Tryz.prog 60 #[.pointer h, .int .i64 k] w fun e w' => e = .returned (.pointer none) ∧ w' = w) : Calls Tryz.prog 27 #[.pointer h, .int .i64 k] w fun e w' => e = .returned (.int .i64 0) ∧ w' = w := by
 have HF := Lib.hid hf
 clear hf
 go_enter Tryz.func27, Tryz.ntmps27
 exact qa1h
theorem told_none (h : Option Addr) (k : Int) (w : World) (hf : Calls Tryz.prog 60 #[.pointer h, .int .i64 k] w fun e w' => e = .returned (.pointer none) ∧ w' = w) : Calls Tryz.prog 29 #[.pointer h, .int .i64 k] w fun e w' => e = .returned (.slice none 0 0) ∧ w' = w := by
 have HF := Lib.hid hf
 clear hf
 go_enter Tryz.func29, Tryz.ntmps29
 exact qa1h
theorem build_wz (w : World) : (Instr.build 46 #[]).run Tryz.prog w = .ok (wv wz) w := run_build w _ _ _ ah
theorem work_none (h : Option Addr) (k : Int) (w : World) (hf : ∀ w, Calls Tryz.prog 60 #[.pointer h, .int .i64 k] w fun e w' => e = .returned (.pointer none) ∧ w' = w) : Calls Tryz.prog 31 #[.pointer h, .int .i64 k] w fun e w' => e = .returned (wv wz) ∧ Below w.heap.size w w' := by
 have HF := Lib.hid hf
 have X0 := Bk.new w (wc wz) 46
 have b0 : Below w.heap.size w (w.alloc (.cells (wc wz) 46)) := (Below.refl _ _).alloc (Nat.le_refl _) _
 obtain ⟨w1, hw1⟩ : ∃ q, q = w.alloc (.cells (wc wz) 46) := ⟨_, rfl⟩
 rw [← hw1] at X0 b0
 obtain ⟨w2, hw2⟩ : ∃ q, q = w1.setRow w.heap.size (wc wz) := ⟨_, rfl⟩
 have X2 : Bk w2 w.heap.size (wc wz) 46 := by rw [hw2]; exact X0.setRow _
 have b2 : Below w.heap.size w w2 := qa7t
 have HX0 := Lib.hid X0
 have HX2 := Lib.hid X2
 have HB2 := Lib.hid b2
 have HW1 := Lib.hid hw1
 have HW2 := Lib.hid hw2
 clear hf X0 b0 hw1 hw2 X2 b2
 have bz := fun w => build_wz w
 go_enter Tryz.func31, Tryz.ntmps31
 go_wp2_with (first | (refine au rfl rfl ?_; rw [← HW1.out]) | fail)
 refine (HF.out w1).mono ?_
 exact qa1i
section
variable {S : Nat → Prop} {w : World} {g : HG} {c : Cfg} {R : HR} {H : HD}
theorem find_out (h : HA S w g c R H) (k : Int) (n8 : H.ws.length ≤ 8) (hk : ¬ (0 ≤ k ∧ k < (H.ws.length : Int))) : Calls Tryz.prog 60 #[.pointer (some ⟨g.h, 0, none⟩), .int .i64 k] w fun e w' => e = .returned (.pointer none) ∧ w' = w := by
 have q := hFind h k (by rw [h.ls.len]; exact n8)
 unfold findV at q
 rw [h.ls.len, if_neg hk] at q
 exact q
theorem find_in (h : HA S w g c R H) (i : Nat) (n8 : H.ws.length ≤ 8) (hi : i < H.ws.length) : Calls Tryz.prog 60 #[.pointer (some ⟨g.h, 0, none⟩), .int .i64 (i : Int)] w fun e w' => e = .returned (.pointer (some ⟨g.w, 36 * i, none⟩)) ∧ w' = w := by
 have q := hFind h i (by rw [h.ls.len]; exact n8)
 unfold findV at q
 rw [h.ls.len, if_pos aj, Int.toNat_natCast] at q
 exact q
theorem hTickV (h : HA S w g c R H) : Calls Tryz.prog 26 #[.pointer (some ⟨g.h, 0, none⟩)] w fun e w' => e = .returned (.int .i64 H.tk) ∧ w' = w := by
 have x3 : w.cell? ⟨g.h, 3, none⟩ = some (.int .i64 (H.tk : Int)) := qa76
 have l := h.mu.box.lt
 obtain ⟨t, ht⟩ : ∃ t, t = H.tk := ⟨_, rfl⟩
 rw [← ht] at x3 ⊢
 clear ht h
 go_enter Tryz.func26, Tryz.ntmps26
 exact qa1g
theorem hWords (h : HA S w g c R H) (hm : H.L.length ≤ 1000) : Calls Tryz.prog 28 #[.pointer (some ⟨g.h, 0, none⟩)] w fun e w' => ∃ y : Sl, e = .returned y.v ∧ w'.ownsRow w.heap.size UTy 1 y.v H.L.length (H.L.map (.int .u64)) ∧ Below w.heap.size w w' := by
 have x0 : w.cell? ⟨g.h, 0, none⟩ = some (.pointer (some ⟨g.m, 0, none⟩)) := qa76
 have l := h.mu.box.lt
 have HAL := Lib.hid (all_in h.mu.mem hm)
 clear h
 go_enter Tryz.func28, Tryz.ntmps28
 go_wp2_with fail
 refine HAL.out.mono ?_
 rintro e w2 ⟨y, rfl, O2, hb2⟩
 go_wp2_with fail
 go_ret
 exact ⟨y, rfl, O2, hb2⟩
theorem hTold (h : HA S w g c R H) (n8 : H.ws.length ≤ 8) (i : Nat) (hi : i < H.ws.length) (ht : H.ws[i].told.length ≤ 1000) : Calls Tryz.prog 29 #[.pointer (some ⟨g.h, 0, none⟩), .int .i64 (i : Int)] w fun e w' => ∃ y : Sl, e = .returned y.v ∧ w'.ownsRow w.heap.size UTy 1 y.v H.ws[i].told.length (H.ws[i].told.map (.int .u64)) ∧ Below w.heap.size w w' := by
 have hi' : i < R.rs.length := by rw [h.ls.len]; exact hi
 have x35 := (h.mu.row.cells (36 * i + 35)).trans (jw R.rs i 35 hi' aj)
 have l := h.mu.row.lt
 change _ = some (Value.slice R.rs[i].td.ad R.rs[i].td.len R.rs[i].td.cap) at x35
 have HCL := Lib.hid (Me.clone (v := R.rs[i].td) (L := H.ws[i].told) ht (w := w) (bD.reads (t := 22) (h.mu.td i hi' hi)))
 have jV := find_in h i n8 hi
 obtain ⟨y, hy⟩ : ∃ y, y = R.rs[i].td := ⟨_, rfl⟩
 rw [← hy] at x35 HCL
 obtain ⟨q, hq⟩ : ∃ q, q = 36 * i := ⟨_, rfl⟩
 rw [← hq] at x35 jV
 have HFD := Lib.hid jV
 obtain ⟨ad, ln, cp⟩ := y
 simp only [Sl.v] at x35 HCL
 clear h hy hq jV
 go_enter Tryz.func29, Tryz.ntmps29
 go_wp2_with fail
 refine HFD.out.mono ?_
 rintro e w2 ⟨rfl, rfl⟩
 go_wp2_with fail
 refine HCL.out.mono ?_
 rintro e w3 ⟨y3, rfl, O3, hb3⟩
 go_wp2_with fail
 go_ret
 exact ⟨y3, rfl, O3, hb3⟩
theorem hLeft (h : HA S w g c R H) (n8 : H.ws.length ≤ 8) (i : Nat) (hi : i < H.ws.length) (hp : H.ws[i].prog.length ≤ 1000) (hb : H.ws[i].bg ≤ 1000) : Calls Tryz.prog 27 #[.pointer (some ⟨g.h, 0, none⟩), .int .i64 (i : Int)] w fun e w' => e = .returned (.int .i64 ((H.ws[i].prog.length : Int) - H.ws[i].bg)) ∧ Below w.heap.size w w' := by
 have hi' : i < R.rs.length := by rw [h.ls.len]; exact hi
 have A0 := h.ls.wk i hi' hi
 have x0 := (h.mu.row.cells (36 * i + 0)).trans (jw R.rs i 0 hi' aj)
 have x1 := (h.mu.row.cells (36 * i + 1)).trans (jw R.rs i 1 hi' aj)
 have l := h.mu.row.lt
 change _ = some (Value.slice R.rs[i].pg.ad R.rs[i].pg.len R.rs[i].pg.cap) at x0
 change _ = some (Value.int .i64 R.rs[i].bg) at x1
 have epl : R.rs[i].pg.len = H.ws[i].prog.length := by
  obtain ⟨ad, cap, he, _⟩ := A0.pg.1
  exact qa0
 rw [epl, Nat.add_zero] at x0
 rw [A0.bg] at x1
 have jV := find_in h i n8 hi
 obtain ⟨ad, had⟩ : ∃ y, y = R.rs[i].pg.ad := ⟨_, rfl⟩
 obtain ⟨cp, hcp⟩ : ∃ y, y = R.rs[i].pg.cap := ⟨_, rfl⟩
 obtain ⟨pl, hpl⟩ : ∃ y, y = H.ws[i].prog.length := ⟨_, rfl⟩
 obtain ⟨bg, hbg⟩ : ∃ y, y = H.ws[i].bg := ⟨_, rfl⟩
 rw [← had, ← hcp, ← hpl] at x0
 rw [← hbg] at x1
 rw [← hpl] at hp
 rw [← hbg] at hb
 rw [← hpl, ← hbg]
 obtain ⟨q, hq⟩ : ∃ q, q = 36 * i := ⟨_, rfl⟩
 rw [← hq] at x0 x1 jV
 have HFD := Lib.hid jV
 have hw1 : IntKind.i64.wrap ((pl : Int) - (bg : Int)) = (pl : Int) - (bg : Int) := IntWalk.i64_in _ aj
 clear h A0 epl had hcp hpl hbg hq jV
 go_enter Tryz.func27, Tryz.ntmps27
 go_wp2_with fail
 refine HFD.out.mono ?_
 rintro e w2 ⟨rfl, rfl⟩
 go_wp2_with fail
 go_quiet (fail)
 go_wp2_with fail
 go_ret
 exact ⟨rfl, bdN (Below.refl _ _) _⟩
theorem hWork (h : HA S w g c R H) (n8 : H.ws.length ≤ 8) (i : Nat) (hi : i < H.ws.length) (hx : Few 1000 H.ws[i].st) : Calls Tryz.prog 31 #[.pointer (some ⟨g.h, 0, none⟩), .int .i64 (i : Int)] w fun e w' => ∃ s', e = .returned (wv s') ∧ dI w.heap.size w' s' H.ws[i].st ∧ Below w.heap.size w w' := by
 have hi' : i < R.rs.length := by rw [h.ls.len]; exact hi
 have X0 := Bk.new w (wc wz) 46
 have b0 : Below w.heap.size w (w.alloc (.cells (wc wz) 46)) := (Below.refl _ _).alloc (Nat.le_refl _) _
 obtain ⟨w1, hw1⟩ : ∃ q, q = w.alloc (.cells (wc wz) 46) := ⟨_, rfl⟩
 rw [← hw1] at X0 b0
 have h1 := h.keep b0
 have jV := find_in h1 i n8 hi
 have HRG0 := ws_range h1.mu.row hi'
 have HCW := Lib.hid (aW R.rs[i].s H.ws[i].st hx w1 (h1.ls.wk i hi' hi).st.lies)
 obtain ⟨q, hq⟩ : ∃ q, q = 36 * i := ⟨_, rfl⟩
 rw [← hq] at jV HRG0
 have HFD := Lib.hid jV
 have HRG := Lib.hid HRG0
 obtain ⟨s, hs⟩ : ∃ s, s = R.rs[i].s := ⟨_, rfl⟩
 rw [← hs] at HRG HCW
 have HX0 := Lib.hid X0
 have HB0 := Lib.hid b0
 have HW1 := Lib.hid hw1
 clear h h1 hq hs jV HRG0 X0 b0 hw1
 go_enter Tryz.func31, Tryz.ntmps31
 go_wp2_with (first | (refine au rfl rfl ?_; rw [← HW1.out]) | fail)
 refine HFD.out.mono ?_
 rintro e w2 ⟨rfl, rfl⟩
 go_wp2_with (first | (refine wpList_load_mid rfl 46 _ rfl g.w (q + 2) rfl (wc s).toList _ qa77 Tryz.underlying46 rfl ah ?_) | fail)
 refine HCW.out.mono ?_
 rintro e w3 ⟨s3, rfl, A3, hb3⟩
 have X3 := HX0.out.keep hb3
 obtain ⟨w4, hw4⟩ : ∃ u, u = w3.setRow w.heap.size (wc s3) := ⟨_, rfl⟩
 have X4 : Bk w4 w.heap.size (wc s3) 46 := by rw [hw4]; exact X3.setRow _
 have b3 := HB0.out.trans (hb3.mono HB0.out.size)
 have b4 : Below w.heap.size w w4 := by rw [hw4]; exact below_setRow b3 (Nat.le_refl _) _
 have A4 : dI w.heap.size w4 s3 H.ws[i].st := by
  have lt : w.heap.size < w2.heap.size := HX0.out.lt
  have k := A3.setRow (g := w.heap.size) lt (wc s3)
  rw [← hw4] at k
  exact k.base aj
 have HX3 := Lib.hid X3
 have HX4 := Lib.hid X4
 have HW4 := Lib.hid hw4
 have HB4 := Lib.hid b4
 have HA4 := Lib.hid A4
 clear X3 X4 hw4 b3 b4 A4 hb3 A3
 go_wp2_with (first | (refine wpList_store_row rfl 46 _ _ rfl w.heap.size (wc s3) rfl rfl _ _ (by exact HX3.out) ah ah ah ?_; rw [← HW4.out]) | fail)
 refine bodyPost_ret (v := wv s3) ?_ rfl ⟨s3, rfl, HA4.out, HB4.out⟩
 exact results_cell_row (p := 4) (ty := 46) Tryz.results31 _ _ w.heap.size 46 _ (0, 0) _ rfl HX4.out Tryz.underlying46 rfl ah
end
end Go.Proofs.YtaiodbcnbcdokaaGreat.Ha
end
section
namespace Go.Proofs.YtaiodbcnbcdokaaGreat.Ha
open Go Go.RowKit Go.ChangeMaps Gro Own Wd Ap Go.Proofs.YtaiodbcnbcdokaaGreat.Pl Wo Me Shp Opn Opw Scw
section
variable {S : Nat → Prop} {w : World} {g : HG} {c : Cfg} {R : HR} {H : HD}
theorem Fr.reads {M : Nat → Prop} {w w' : World} {k : IntKind} {v : Value} {l : List Int} (f : Fr M w w') (h : Reads w k v l) (hv : l = [] ∨ ∀ b, v.ownBlock = some b → ¬ M b) : Reads w' k v l := by
 obtain ⟨ad, cap, rfl, h1, h2, h3⟩ := h
 refine ⟨ad, cap, rfl, h1, h2, ?_⟩
 rcases h3 with h3 | ⟨b, off, rfl, hlt, hc⟩
 ·exact .inl h3
 ·rcases hv with hv | hv
  ·exact .inl hv
  ·exact .inr ⟨b, off, rfl, Nat.lt_of_lt_of_le hlt f.size, fun i hi => (World.cell?_of_block (f.block b hlt (hv b rfl))).trans (hc i hi)⟩
end
theorem run_nil (v : Value) (ks : List Int) (w : World) (RK : Reads w .i64 v ks) : Calls Tryz.prog 24 #[.pointer none, v] w fun e w' => e = .returned (.tuple #[]) ∧ w' = w := by
 have HK0 := Lib.hid RK
 have hkl : ks.length ≤ 9223372036854775807 := by
  obtain ⟨_, _, he, h1, h2, _⟩ := RK
  unfold maxLen at h2
  omega
 obtain ⟨ad, cap, rfl, _⟩ := RK
 go_enter Tryz.func24, Tryz.ntmps24
 go_wp2_with fail
 go_loopw [8] (fun i wr => ∃ n : Nat, n ≤ ks.length ∧ i = .int .i64 (n : Int) ∧ RowKit.Hid (wr = w)) (fun i _ => ks.length - (intOf i).toNat)
 case atStart => exact ⟨0, Nat.zero_le _, rfl, Lib.hid rfl⟩
 case round =>
  obtain ⟨n, hn, rfl, HE⟩ := hrel
  obtain ⟨w6, hw6⟩ : ∃ q, q = wr := ⟨_, rfl⟩
  subst hw6
  by_cases hlt : n < ks.length
  ·have RK6 : Reads w6 .i64 (.slice ad ks.length cap) ks := by rw [HE.out]; exact HK0.out
   obtain ⟨b, off, e1, q1⟩ := Ap.reads_at (x := ⟨ad, ks.length, cap⟩) RK6 hlt
   simp only at e1
   subst e1
   obtain ⟨k, hk⟩ : ∃ k, k = ks[n] := ⟨_, rfl⟩
   rw [← hk] at q1
   clear hk RK6
   have HPK := Lib.hid (hPick_nil k w6)
   go_wp2_with fail
   refine HPK.out.mono ?_
   rintro e w7 ⟨rfl, rfl⟩
   go_wp2
   go_roundw
   case rel => exact ⟨n + 1, by omega, by go_num, HE⟩
   case measure => simp [intOf]; omega
  ·obtain rfl : n = ks.length := by omega
   go_wp2
   go_end0
   exact ⟨rfl, HE.out⟩
end Go.Proofs.YtaiodbcnbcdokaaGreat.Ha
end
section
namespace Go.Proofs.YtaiodbcnbcdokaaGreat.Ha
open Go Go.RowKit Go.ChangeMaps Gro Own Wd Ap Go.Proofs.YtaiodbcnbcdokaaGreat.Pl Wo Me Shp Opn Opw Scw
theorem evC_all (es : List Ev) : ∀ l ∈ es.map fun e => (ec e).toList, l.length = 20 := fun l hl => by
 obtain ⟨e, _, rfl⟩ := List.mem_map.1 hl
 rfl
theorem evC_len (es : List Ev) : (evC es).length = es.length * 20 := by
 have := flat_len (n := 20) _ (evC_all es)
 unfold evC
 rw [this, List.length_map, Nat.mul_comm]
theorem evC_at (es : List Ev) (i j : Nat) (hi : i < es.length) (hj : j < 20) : (evC es)[20 * i + j]? = (ec es[i]).toList[j]? := by
 unfold evC
 rw [flat_at (n := 20) _ i j qa4g (evC_all es) hj, List.getElem_map]
theorem evC_rd (es : List Ev) (i : Nat) (hi : i < es.length) (y : Sl) : (evC es).set (20 * i + 13) y.v = evC (es.set i { es[i] with rd := y }) := by
 have h := spl_flat (n := 20) (es.map fun e => (ec e).toList) i 13 [y.v] qa4g (evC_all es) aF
 have hlt : 20 * i + 13 < (evC es).length := by rw [evC_len]; omega
 have e1 : spl (evC es) (20 * i + 13) [y.v] = (evC es).set (20 * i + 13) y.v := by
  unfold spl
  rw [List.set_eq_take_append_cons_drop, if_pos hlt]
  rfl
 rw [← e1]
 unfold evC
 rw [h, List.map_set, List.getElem_map]
 rfl
theorem own_rd {w : World} {base : Nat} {g cap n : Nat} {es : List Ev} (h : w.ownsRow base ETy 20 (.slice (some ⟨g, 0, none⟩) n cap) n (evC es)) (hn : es.length = n) (i : Nat) (hi : i < es.length) (y : Sl) :
  (w.setCell ⟨g, 20 * i + 13, none⟩ y.v).ownsRow base ETy 20 (.slice (some ⟨g, 0, none⟩) n cap) n (evC (es.set i { es[i] with rd := y })) := by
 refine ⟨by rw [evC_len, List.length_set, hn], ?_⟩
 rcases h.2 with ⟨e1, _⟩ | ⟨g9, cap9, cur, e1, h1, h2, h3, h4, h5, h6⟩
 ·simp at e1
 ·simp only [Value.slice.injEq, Option.some.injEq, Addr.mk.injEq] at e1
  obtain ⟨⟨rfl, _⟩, _, rfl⟩ := e1
  refine .inr ⟨g, cap, cur.setIfInBounds (20 * i + 13) y.v, rfl, h1, ?_, h3, h4, by simpa using h5, ?_⟩
  ·exact Bk.setCell (w := w) (g := g) (cs := cur) (t := ETy) h2 _ _
  ·rw [Array.toList_setIfInBounds, List.take_set, h6, evC_rd es i hi y]
theorem src_ev {w : World} {base : Nat} {v : Value} {es : List Ev} (h : w.ownsRow base ETy 20 v es.length (evC es)) : SrcC w v es.length (evC es) := by
 rcases h.2 with ⟨rfl, h0⟩ | ⟨g, cap, cur, rfl, hge, hh, h1, _⟩
 ·exact ⟨none, 0, by rw [h0], by omega, .inl h0⟩
 ·refine ⟨_, cap, rfl, h1, ?_⟩
  by_cases h0 : es.length = 0
  ·exact .inl h0
  ·obtain ⟨g2, cap2, e1, _, _, _, _, hc⟩ := eG h aj
   simp only [Value.slice.injEq, Option.some.injEq, Addr.mk.injEq] at e1
   obtain ⟨⟨rfl, _⟩, _⟩ := e1
   refine .inr ⟨g, 0, rfl, fun j u hu => ?_⟩
   rw [Nat.zero_add, hc j (List.getElem?_eq_some_iff.1 hu).1, hu]
theorem SrcC.keep {w w' : World} {v : Value} {m : Nat} {news : List Value} (h : SrcC w v m news) (hb : Below w.heap.size w w') : SrcC w' v m news := by
 obtain ⟨ad, cap, rfl, h1, h3⟩ := h
 refine ⟨ad, cap, rfl, h1, ?_⟩
 rcases h3 with h3 | ⟨b, off, rfl, hc⟩
 ·exact .inl h3
 ·refine .inr ⟨b, off, rfl, fun j u hu => ?_⟩
  have q := hc j u hu
  have hlt : b < w.heap.size := by
   by_cases z : b < w.heap.size
   ·exact z
   ·simp [World.cell?, Array.getElem?_eq_none (Nat.le_of_not_lt z)] at q
  exact (hb.cell (p := ⟨b, off + j, none⟩) hlt).trans q
theorem cloneE_some (a : Addr) (n cap : Nat) (es : List Ev) (hL : es.length ≤ 100000) (w : World) (hr : SrcC w (.slice (some a) n cap) es.length (evC es)) : Calls Tryz.prog 63 #[.slice (some a) n cap] w fun e w' => ∃ y : Sl, e = .returned y.v ∧ w'.ownsRow w.heap.size ETy 20 y.v es.length (evC es) ∧ Below w.heap.size w w' := by
 have hq := fun w => Lib.run_eql_slice_nil (P := Tryz.prog) w 50 ETy (some a) n cap 0 0 Tryz.underlying50
 obtain ⟨gs, hgs⟩ : ∃ q, q = w.heap.size := ⟨_, rfl⟩
 have ho : (w.alloc (.cells #[] ETy)).ownsRow gs ETy 20 (.slice (some ⟨gs, 0, none⟩) 0 0) 0 [] := qa80
 have hb1 : Below w.heap.size w (w.alloc (.cells #[] ETy)) := (Below.refl w.heap.size w).alloc (Nat.le_refl _) _
 have hr2 := hr.keep hb1
 have hbs : gs ≤ (w.alloc (.cells #[] ETy)).heap.size := by rw [hgs]; simp
 obtain ⟨w1, hw1⟩ : ∃ q, q = w.alloc (.cells #[] ETy) := ⟨_, rfl⟩
 rw [← hw1] at ho hb1 hr2 hbs
 have HW1 := Lib.hid hw1
 have HGS := Lib.hid hgs
 have HO := Lib.hid ho
 have HR2 := Lib.hid hr2
 have HB1 := Lib.hid hb1
 have HBS := Lib.hid hbs
 have HM : RowKit.Hid (∀ u ∈ evC es, u.oneCell' = true) := Lib.hid (fun u hu => by
  unfold evC at hu
  obtain ⟨x, hx, hu⟩ := List.mem_flatten.1 hu
  obtain ⟨o, _, rfl⟩ := List.mem_map.1 hx
  exact ec_one o u hu)
 clear hw1 hgs ho hb1 hr2 hbs hr
 go_enter Tryz.func63, Tryz.ntmps63
 go_wp2_with (at_builtin; rw [← HW1.out, ← HGS.out]; refine append_ms elemEv rfl _ _ rfl gs _ 0 [] rfl (by exact HO.out) _ es.length (evC es) rfl (by exact HR2.out) (evC_len es) HM.out aj HBS.out ?_; intro v3 w3 h3 hb3)
 exact qa1e
theorem cloneE {v : Sl} {es : List Ev} (hL : es.length ≤ 100000) {w : World} (hr : SrcC w v.v es.length (evC es)) : Calls Tryz.prog 63 #[v.v] w fun e w' => ∃ y : Sl, e = .returned y.v ∧ w'.ownsRow w.heap.size ETy 20 y.v es.length (evC es) ∧ Below w.heap.size w w' := by
 obtain ⟨ad, n, cap⟩ := v
 cases ad with
 | none =>
  have hl : es = [] := by
   obtain ⟨ad, cap, he, _, h3⟩ := hr
   simp only [Sl.v, Value.slice.injEq] at he
   rcases h3 with h3 | ⟨b, off, rfl, _⟩
   ·exact List.length_eq_zero_iff.1 h3
   ·exact absurd he.1 aF
  subst hl
  have hq := fun w => Lib.run_eql_slice_nil (P := Tryz.prog) w 50 ETy none n cap 0 0 Tryz.underlying50
  clear hr
  show Calls Tryz.prog _ #[.slice none n cap] w _
  go_enter Tryz.func63, Tryz.ntmps63
  go_wp2
  go_ret
  exact ⟨aG, rfl, World.ownsRow_nil _ _ _ _, Below.refl _ _⟩
 | some a => exact cloneE_some a n cap es hL w hr
section
variable {S : Nat → Prop} {w : World} {g : HG} {c : Cfg} {R : HR} {H : HD}
structure EvR (B : Nat) (w : World) (y : Sl) (es : List Ev) (ps : List PE) : Prop where
 own : w.ownsRow B ETy 20 y.v es.length (evC es)
 len : es.length = ps.length
 ev : ∀ i (h : i < es.length) (h' : i < ps.length), EvA (fun b => B ≤ b) w es[i] ps[i]
theorem hEvents (h : HA S w g c R H) (hn : H.ev.length ≤ 80000) (hr : ∀ i (q : i < H.ev.length), H.ev[i].ws.length ≤ 1000) :
  Calls Tryz.prog 25 #[.pointer (some ⟨g.h, 0, none⟩)] w fun e w' => ∃ y es, e = .returned y.v ∧ EvR w.heap.size w' y es H.ev ∧ Below w.heap.size w w' := by
 have x2 : w.cell? ⟨g.h, 2, none⟩ = some (.slice R.ev.ad R.ev.len R.ev.cap) := qa76
 have lh := h.mu.box.lt
 have hel := h.ls.evl
 have HCL := Lib.hid (cloneE (v := R.ev) (es := R.es) aj (w := w) (src_ev h.mu.ev))
 have HH := Lib.hid h
 have HR := Lib.hid hr
 clear h hr
 go_enter Tryz.func25, Tryz.ntmps25
 go_wp2_with fail
 refine HCL.out.mono ?_
 rintro e w2 ⟨y, rfl, O2, hb2⟩
 clear x2
 have hyl : y.len = R.es.length := (gI O2).elim fun y2 h2 => by
  obtain ⟨e1, e2⟩ := h2
  have : y = y2 := by cases y; cases y2; simp only [Sl.v, Value.slice.injEq] at e1; simp [e1]
  rw [this, e2]
 obtain ⟨ya, yl, yc⟩ := y
 obtain rfl : yl = R.es.length := hyl
 simp only [Sl.v]
 obtain ⟨n, hne⟩ : ∃ n, n = R.es.length := ⟨_, rfl⟩
 by_cases h0 : n = 0
 ·have hes : R.es = [] := List.length_eq_zero_iff.1 aj
  have hev : H.ev = [] := List.length_eq_zero_iff.1 aj
  have O3 := Lib.hid O2
  have HB2 := Lib.hid hb2
  rw [← hne, h0]
  clear O2 hb2
  go_wp2_with fail
  refine wp_loop_rounds 1 ?_
  rw [rounds_succ]
  go_wp2
  go_ret
  refine ⟨⟨ya, 0, yc⟩, [], rfl, ⟨?_, by rw [hev]; rfl, fun i q => absurd q (Nat.not_lt_zero i)⟩, HB2.out⟩
  have := O3.out
  rw [hes] at this
  exact this
 ·obtain ⟨g7, cap, e1, hge, hlt7, hc1, hc2, hcc⟩ := eG O2 aj
  simp only [Sl.v, Value.slice.injEq] at e1
  obtain ⟨rfl, _, rfl⟩ := e1
  rw [← hne]
  have hcm : n ≤ 100000 := aj
  have O3 : RowKit.Hid (w2.ownsRow w.heap.size ETy 20 (.slice (some ⟨g7, 0, none⟩) n yc) n (evC R.es)) := Lib.hid (by rw [hne]; exact O2)
  have HB2 := Lib.hid hb2
  have HNE := Lib.hid hne
  have HGE := Lib.hid hge
  have HN1 : RowKit.Hid (n = H.ev.length) := Lib.hid aj
  clear O2 hb2 hne hc1 hc2 hcc
  go_wp2_with fail
  go_loopw [14] (fun i wr => ∃ k : Nat, k ≤ n ∧ i = .int .i64 (k : Int) ∧ ∃ es : List Ev, RowKit.Hid (es.length = n) ∧ RowKit.Hid (wr.ownsRow w.heap.size ETy 20 (.slice (some ⟨g7, 0, none⟩) n yc) n (evC es)) ∧ RowKit.Hid (Below w.heap.size w wr) ∧ RowKit.Hid (∀ j (q : j < es.length) (q' : j < H.ev.length), EvA (fun b => (w.heap.size ≤ b ∧ b ≠ g7) ∨ (k ≤ j ∧ b < w.heap.size)) wr es[j] H.ev[j])) (fun i _ => n - (intOf i).toNat)
  case atStart =>
   refine ⟨0, Nat.zero_le _, rfl, R.es, Lib.hid HNE.out.symm, O3, HB2, Lib.hid (fun j q q' => ?_)⟩
   have := (HH.out.ls.evw j q q').agr (Agr.below HB2.out)
   exact this.mono fun b _ q => .inr ⟨Nat.zero_le _, HH.out.lt b q.1⟩
  case round =>
   obtain ⟨k, hk, rfl, es, HL, HO, HW, HE⟩ := hrel
   obtain ⟨w6, hw6⟩ : ∃ q, q = wr := ⟨_, rfl⟩
   subst hw6
   by_cases hlt : k < n
   ·have hkl : k < es.length := by have := HL.out; omega
    have hkh : k < H.ev.length := by have := HN1.out; omega
    have EK := HE.out k hkl hkh
    have oc := eG HO.out aj
    obtain ⟨g8, cap8, e8, _, lt8, c1, c2, cc⟩ := oc
    simp only [Value.slice.injEq, Option.some.injEq, Addr.mk.injEq] at e8
    obtain ⟨⟨e8, _⟩, _, e9⟩ := e8
    subst e8
    subst e9
    have x13 := (cc (20 * k + 13) (by rw [evC_len, HL.out]; omega)).trans (evC_at es k 13 hkl aj)
    change _ = some (Value.slice es[k].rd.ad es[k].rd.len es[k].rd.cap) at x13
    obtain ⟨rd, hrd⟩ : ∃ y, y = es[k].rd := ⟨_, rfl⟩
    have HCR := Lib.hid (Me.clone (v := rd) (L := H.ev[k].ws) (HR.out k hkh) (w := w6) (by rw [hrd]; exact EK.rd.1))
    rw [← hrd] at x13
    have HRD := Lib.hid hrd
    have hmk : k * 20 = 20 * k := Nat.mul_comm _ _
    clear cc hrd EK
    obtain ⟨ra, rl, rc⟩ := rd
    simp only [Sl.v] at x13 HCR
    go_wp2_with fail
    refine HCR.out.mono ?_
    rintro e w7 ⟨z, rfl, O7, hb7⟩
    have OW7 := dO (y := ⟨some ⟨g7, 0, none⟩, n, yc⟩) HO.out (Agr.below hb7 (P := fun _ => True)) (fun _ _ => trivial)
    have x7 : w7.cell? ⟨g7, 20 * k + 13, none⟩ = some (.slice ra rl rc) := (hb7.cell (p := ⟨g7, 20 * k + 13, none⟩) lt8).trans x13
    have fz : ∃ cur, w7.heap[g7]? = some (.cells cur ETy (0, 0)) := by
     rcases OW7.2 with ⟨e1, _⟩ | ⟨g9, cap9, cur, e1, _, h9, _⟩
     ·simp [Sl.v] at e1
     ·simp only [Sl.v, Value.slice.injEq, Option.some.injEq, Addr.mk.injEq] at e1
      obtain ⟨⟨rfl, _⟩, _⟩ := e1
      exact ⟨cur, h9⟩
    obtain ⟨cur, hcur⟩ := fz
    have f7 := Bk.frozen (w := w7) (g := g7) (cs := cur) (t := ETy) hcur
    have l7 : g7 < w7.heap.size := Bk.lt (w := w7) (g := g7) (cs := cur) (t := ETy) hcur
    obtain ⟨w8, hw8⟩ : ∃ u, u = w7.setCell ⟨g7, 20 * k + 13, none⟩ (.slice z.ad z.len z.cap) := ⟨_, rfl⟩
    have OW8 : w8.ownsRow w.heap.size ETy 20 (.slice (some ⟨g7, 0, none⟩) n yc) n (evC (es.set k { es[k] with rd := z })) := by rw [hw8]; exact own_rd OW7 HL.out k hkl z
    have B8 : Below w.heap.size w w8 := by rw [hw8]; exact (HW.out.trans (hb7.mono HW.out.size)).setCell (p := ⟨g7, 20 * k + 13, none⟩) (by exact HGE.out) _
    have hsz7 := hb7.size
    have E8 : ∀ j (q : j < (es.set k { es[k] with rd := z }).length) (q' : j < H.ev.length), EvA (fun b => (w.heap.size ≤ b ∧ b ≠ g7) ∨ (k + 1 ≤ j ∧ b < w.heap.size)) w8 (es.set k { es[k] with rd := z })[j] H.ev[j] := fun j q q' => by
     have q2 : j < es.length := qa64
     by_cases jk : k = j
     ·subst jk
      rw [List.getElem_set_self]
      have old := HE.out k hkl hkh
      refine ⟨by rw [old.eq], ?_⟩
      have o7 : bD w6.heap.size w7 .u64 UTy z H.ev[k].ws := O7
      have o8 : bD w6.heap.size w8 .u64 UTy z H.ev[k].ws := by rw [hw8]; exact o7.setCell lt8 _ _
      refine ⟨o8.reads, .inr fun d hd => .inl ?_⟩
      have s6 := HW.out.size
      rcases o8.2 with ⟨e1, _⟩ | ⟨g9, cap9, cur9, e1, e2, _⟩
      ·simp only [Sl.v, Value.slice.injEq] at e1; rw [e1.1] at hd; cases hd
      ·simp only [Sl.v, Value.slice.injEq] at e1; rw [e1.1] at hd; cases hd
       show w.heap.size ≤ g9 ∧ g9 ≠ g7
       omega
     ·rw [List.getElem_set_ne aj]
      have old := HE.out j q2 q'
      have a : Agr (fun b => b ≠ g7) w6 w8 := by rw [hw8]; exact (Agr.below hb7).trans (Agr.cell (fun z => z rfl))
      -- the words lie elsewhere
      have key : RdP (fun b => ((w.heap.size ≤ b ∧ b ≠ g7) ∨ (k ≤ j ∧ b < w.heap.size)) ∧ b ≠ g7) w6 .u64 es[j].rd H.ev[j].ws := old.rd.mono fun b _ z => ⟨z, by
       have := HGE.out
       rcases z with z | z
       ·exact z.2
       ·omega⟩
      exact ⟨old.eq, (gQ key (a.mono fun b _ q => q.2)).mono fun b _ q => by
       rcases q.1 with z1 | z1
       ·exact .inl z1
       ·exact .inr ⟨by omega, z1.2⟩⟩
    have HO8 := Lib.hid OW8
    have HB8 := Lib.hid B8
    have HE8 := Lib.hid E8
    clear OW7 hcur OW8 B8 E8 O7 hb7 x13 hsz7
    go_wp2_with fail
    rw [← hw8]
    go_wp2
    go_roundw
    case rel => exact ⟨k + 1, by omega, by go_num, _, Lib.hid (by rw [List.length_set]; exact HL.out), HO8, HB8, HE8⟩
    case measure => simp [intOf]; omega
   ·obtain rfl : k = n := by omega
    go_wp2
    go_ret
    have hl := HL.out
    have hn1 := HN1.out
    refine ⟨⟨some ⟨g7, 0, none⟩, k, yc⟩, es, rfl, ⟨by rw [hl]; exact HO.out, by omega, fun j q q' => (HE.out j q q').mono fun b _ z => ?_⟩, HW.out⟩
    rcases z with z | z
    ·exact z.1
    ·omega
end
end Go.Proofs.YtaiodbcnbcdokaaGreat.Ha
end

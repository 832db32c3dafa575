/- The law EntryKills (made by genek2.py). -/
import Derived.Test.YtblkfbbdeodpjaaEkNum
import Derived.Test.YtblkfbbdeodpjaaEntryAwake
import Derived.Test.YtblkfbbdeodpjaaWorkRows
import Derived.Test.YtblkfbbdeodpjaaSts
import Derived.Test.YtblkfbbdeodpjaaMemFirstWalk
namespace Go.Proofs.Ytblkfbbdeodpjaa.Me
open Go Go.RowKit Go.Proofs.Ytblkfbbdeodpjaa.Gro Go.Proofs.Ytblkfbbdeodpjaa.Own Go.Proofs.Ytblkfbbdeodpjaa.Wd Go.Proofs.Ytblkfbbdeodpjaa.Ap Go.Proofs.Ytblkfbbdeodpjaa.Pl Go.Proofs.Ytblkfbbdeodpjaa.Wo
set_option linter.unusedVariables false
set_option linter.unusedSimpArgs false
structure Kb (w0 : World) (c : Cfg) (gc g gl cp ga : Nat) (a : Acc) (L : List Int) (cs : Array Value) (w : World) : Prop where
  C : Bk w gc (ccM c) 24
  M : MemAt w0.heap.size w g c a gl cp L
  A : Bk w ga cs 46
  hb : Below w0.heap.size w0 w
  o1 : w0.heap.size ≤ gc
  o2 : gc < g
  o3 : gc < gl
  o4 : g < ga
  o5 : gl < ga
section
variable {w0 w u : World} {c : Cfg} {gc g gl cp ga : Nat} {a a' : Acc} {L L' : List Int} {cs : Array Value}
theorem Kb.keep (h : Kb w0 c gc g gl cp ga a L cs w) (hb : Below w.heap.size w u) : Kb w0 c gc g gl cp ga a L cs u :=
  ⟨h.C.keep hb, h.M.keep hb, h.A.keep hb, h.hb.trans (hb.mono h.hb.size), h.o1, h.o2, h.o3, h.o4, h.o5⟩
theorem Kb.touch (h : Kb w0 c gc g gl cp ga a L cs w) (M' : MemAt w0.heap.size u g c a' gl cp L') (T : Touch g gl w u) : Kb w0 c gc g gl cp ga a' L' cs u :=
  have := h.o1
  have := h.o2
  have := h.o3
  have := h.o4
  have := h.o5
  ⟨T.bk h.C (by omega) (by omega), M', T.bk h.A (by omega) (by omega), h.hb.trans (T.below (base := w0.heap.size) (by omega) (by omega) h.hb.size), h.o1, h.o2, h.o3, h.o4, h.o5⟩
/-- A cell of a block apart. -/
theorem Kb.far (h : Kb w0 c gc g gl cp ga a L cs w) {b : Nat} (hb : ga < b) (j : Nat) (v : Value) : Kb w0 c gc g gl cp ga a L cs (w.setCell ⟨b, j, none⟩ v) :=
  have := h.o1
  have := h.o2
  have := h.o3
  have := h.o4
  have := h.o5
  ⟨h.C.setCell_far (a := ⟨b, j, none⟩) (by simp; omega) v, h.M.apart (g' := b) (gl' := b) ((Touch.refl b b w).setCell (.inl rfl) v) (by omega) (by omega) (by omega) (by omega), h.A.setCell_far (a := ⟨b, j, none⟩) (by simp; omega) v, h.hb.setCell (p := ⟨b, j, none⟩) (by show w0.heap.size ≤ b; omega) v, h.o1, h.o2, h.o3, h.o4, h.o5⟩
theorem Kb.farRow (h : Kb w0 c gc g gl cp ga a L cs w) {b : Nat} (hb : ga < b) (vs : Array Value) : Kb w0 c gc g gl cp ga a L cs (w.setRow b vs) :=
  have := h.o1
  have := h.o2
  have := h.o3
  have := h.o4
  have := h.o5
  ⟨h.C.setRow_far (by omega) _, h.M.apart (g' := b) (gl' := b) ((Touch.refl b b w).setRow _) (by omega) (by omega) (by omega) (by omega), h.A.setRow_far (by omega) _, below_setRow h.hb (by omega) _, h.o1, h.o2, h.o3, h.o4, h.o5⟩
theorem Kb.setA (h : Kb w0 c gc g gl cp ga a L cs w) (cs' : Array Value) : Kb w0 c gc g gl cp ga a L cs' (w.setRow ga cs') :=
  have := h.o1
  have := h.o2
  have := h.o3
  have := h.o4
  have := h.o5
  ⟨h.C.setRow_far (by omega) _, h.M.apart (g' := ga) (gl' := ga) ((Touch.refl ga ga w).setRow _) (by omega) (by omega) (by omega) (by omega), h.A.setRow _, below_setRow h.hb (by omega) _, h.o1, h.o2, h.o3, h.o4, h.o5⟩
end
/-- A state whose lists are empty: it lies wherever one looks. -/
def Ems (s : Wk) : Prop := ∀ w : World, Lies w s { zS with p := s.p }
theorem reads_ems {w w' : World} {k : IntKind} {v : Value} (h : Reads w k v []) : Reads w' k v [] := by
  obtain ⟨ad, cap, e, h1, h2, _⟩ := h
  exact ⟨ad, cap, e, h1, h2, .inl rfl⟩
theorem Ems.of {B : Nat} {w : World} {s : Wk} {p p' : Pl} (A : Anew B w s { ({ zS with p := p } : St) with p := p' }) : Ems s ∧ s.p = p' :=
  ⟨fun w' => ⟨rfl, reads_ems A.rk.reads, reads_ems A.l0.reads, reads_ems A.l1.reads, reads_ems A.l2.reads, reads_ems A.hl.reads, reads_ems A.rd.reads⟩, A.p⟩
theorem Ems.plain {s : Wk} (h : Ems s) (p : Pl) : Ems { s with p := p } := fun w => liesPlain (h w) p
theorem ems_z (p : Pl) : Ems { wz with p := p } := fun w => ⟨rfl, Reads.nil _ _, Reads.nil _ _, Reads.nil _ _, Reads.nil _ _, Reads.nil _ _, Reads.nil _ _⟩
theorem few_ek (p : Pl) : Few 1000 { zS with p := p } := ⟨Nat.zero_le _, Nat.zero_le _, Nat.zero_le _, Nat.zero_le _, Nat.zero_le _, Nat.zero_le _⟩
theorem ekp_map (xs : List Wk) (k : Nat) (h : k < xs.length) : ekp (xs.map (·.p)) k = xs[k].p := by
  unfold ekp
  rw [List.getD_eq_getElem?_getD, List.getElem?_map, List.getElem?_eq_getElem h]
  rfl
theorem ek_fill {α : Type} (x y : α) (k m : Nat) : (List.replicate k x ++ List.replicate (m + 1) y).set k x = List.replicate (k + 1) x ++ List.replicate m y := by
  rw [List.set_append_right _ _ (by simp), List.length_replicate, Nat.sub_self, List.replicate_succ, List.set_cons_zero, List.replicate_succ', List.append_assoc]
  rfl
def ekG : Bool → Int
  | true => 1
  | false => 0
def s42 : Wk := { wz with p := { pz with ln := 42, t := 65537 } }
set_option maxRecDepth 100000 in
set_option maxHeartbeats 16000000 in
theorem ek_long (n0 n1 : Int) (hn0 : 0 ≤ n0 ∧ n0 < 256) (hn1 : 0 ≤ n1 ∧ n1 < 256) (ad : Option Addr) (n cap : Nat) (hlong : 300 < n) (hmax : n ≤ 9223372036854775807) (w : World) : Calls Try.prog 11 #[.int .u8 n0, .int .u8 n1, .slice ad n cap] w fun e w' => e = .returned (.bool true) ∧ Below w.heap.size w w' := by
  obtain ⟨N, hN⟩ : ∃ N : Nat, (N : Int) = 2 + n0 % 5 := ⟨(2 + n0 % 5).toNat, by omega⟩
  obtain ⟨la, hla⟩ : ∃ la, la = 1 + n1 % 3 := ⟨_, rfl⟩
  have hN8 : 2 ≤ N ∧ N ≤ 6 := by omega
  have hl8 : 1 ≤ la ∧ la ≤ 3 := by omega
  have HNN := Lib.hid (show 2 + n0 % 5 = (N : Int) by omega)
  have HLA := Lib.hid (show 1 + n1 % 3 = la by omega)
  have hbc : ∀ w, (Instr.build 24 #[(0, .int .i64 (N : Int)), (1, .int .i64 1), (2, .int .i64 4), (3, .int .i64 1), (4, .int .i64 1), (6, .int .i64 1), (7, .int .u64 la)]).run Try.prog w = .ok (cv (cEk N la)) w := fun w => run_build w _ _ _ (by kernel_rfl)
  clear hN hla
  go_enter Try.func11, Try.ntmps11
  go_wp2_with fail
  refine (awake11 _).mono ?_
  rintro e w1 ⟨rfl, hb1⟩
  have C1 := Bk.new w1 (ccM (cEk N la)) 24
  have hw1 : Below w.heap.size w (w1.alloc (.cells (ccM (cEk N la)) 24)) := hb1.alloc hb1.size _
  have sz1 := hb1.size
  have d1 : decide ((300 : Int) < (n : Int)) = true := by simp; omega
  go_wp2_with (first | (rw [HNN.out]) | (rw [HLA.out]))
  go_ret
  exact ⟨rfl, hw1⟩
set_option maxRecDepth 100000 in
set_option maxHeartbeats 16000000 in
theorem ek_nil (n0 n1 : Int) (hn0 : 0 ≤ n0 ∧ n0 < 256) (hn1 : 0 ≤ n1 ∧ n1 < 256) (ad : Option Addr) (cap : Nat) (w : World) : Calls Try.prog 11 #[.int .u8 n0, .int .u8 n1, .slice ad 0 cap] w fun e w' => e = .returned (.bool true) ∧ Below w.heap.size w w' := by
  obtain ⟨N, hN⟩ : ∃ N : Nat, (N : Int) = 2 + n0 % 5 := ⟨(2 + n0 % 5).toNat, by omega⟩
  obtain ⟨la, hla⟩ : ∃ la, la = 1 + n1 % 3 := ⟨_, rfl⟩
  have hN8 : 2 ≤ N ∧ N ≤ 6 := by omega
  have hl8 : 1 ≤ la ∧ la ≤ 3 := by omega
  have HNN := Lib.hid (show 2 + n0 % 5 = (N : Int) by omega)
  have HLA := Lib.hid (show 1 + n1 % 3 = la by omega)
  have hbc : ∀ w, (Instr.build 24 #[(0, .int .i64 (N : Int)), (1, .int .i64 1), (2, .int .i64 4), (3, .int .i64 1), (4, .int .i64 1), (6, .int .i64 1), (7, .int .u64 la)]).run Try.prog w = .ok (cv (cEk N la)) w := fun w => run_build w _ _ _ (by kernel_rfl)
  clear hN hla
  have hn := newMem_ok (cEk N la) (cEk_wf hN8 hl8) (chk_ok.1 (cEk_chk hN8 hl8))
  have HN := Lib.hid hn
  have HE0 := Lib.hid (ekR_end hN8 hl8)
  have HKP := Lib.hid (fun k => ekR_keeps hN8 hl8 k)
  have HWY := Lib.hid (fun k (hk : k < 5) => ekR_way hN8 hl8 hk)
  have HWF := Lib.hid (cEk_wf hN8 hl8)
  have hbx : ∀ w, (Instr.build 46 #[(0, .int .i64 20), (7, .int .i64 2)]).run Try.prog w = .ok (wv ({ wz with p := ekP0 } : Wk)) w := fun w => run_build w _ _ _ (by kernel_rfl)
  have hb42 : ∀ w, (Instr.build 46 #[(0, .int .i64 42), (19, .int .u64 65537)]).run Try.prog w = .ok (wv s42) w := fun w => run_build w _ _ _ (by kernel_rfl)
  have hb20 : ∀ w, (Instr.build 46 #[(0, .int .i64 20), (7, .int .i64 3), (19, .int .u64 65537)]).run Try.prog w = .ok (wv ({ wz with p := { pz with ln := 20, b := 3, t := 65537 } } : Wk)) w := fun w => run_build w _ _ _ (by kernel_rfl)
  have hbz : ∀ w, (Instr.build 46 #[]).run Try.prog w = .ok (wv ({ wz with p := pz } : Wk)) w := fun w => run_build w _ _ _ (by kernel_rfl)
  clear hn
  go_enter Try.func11, Try.ntmps11
  go_wp2_with fail
  refine (awake11 _).mono ?_
  rintro e w1 ⟨rfl, hb1⟩
  have C1 := Bk.new w1 (ccM (cEk N la)) 24
  have hw1 : Below w.heap.size w (w1.alloc (.cells (ccM (cEk N la)) 24)) := hb1.alloc hb1.size _
  have sz1 := hb1.size
  go_wp2_with (first | (rw [HNN.out]) | (rw [HLA.out]) | (refine wpList_load_row rfl 24 _ rfl (w1.heap.size) rfl _ (ccM (cEk N la)) (0, 0) _ (by exact C1) Try.underlying24 rfl (by kernel_rfl) ?_))
  refine (HN.out _).mono ?_
  rintro e w2 ⟨g, gl, cp, rfl, M2, hb2⟩
  have g0 := M2.g0
  have gl0 := M2.gl0
  have lm2 := M2.lt
  rw [World.size_alloc] at g0 gl0
  have C2 := C1.keep hb2
  have hw2 := hw1.trans (hb2.mono (by rw [World.size_alloc]; omega))
  have lw2 := hw2.size
  have Z3 := Bk.new w2 (wc wz) 46
  have X3 := boxed_bk w2 ({ wz with p := ekP0 } : Wk)
  have bb3 := boxed_below w2 ({ wz with p := ekP0 } : Wk)
  have E3 : Kb w (cEk N la) w1.heap.size g gl cp w2.heap.size a0 (firstL (cEk N la)) (wc ({ wz with p := ekP0 } : Wk)) ((w2.alloc (.cells (wc wz) 46)).setRow w2.heap.size (wc ({ wz with p := ekP0 } : Wk))) :=
    ⟨C2.keep bb3, (M2.base (by rw [World.size_alloc]; omega)).keep bb3, X3, hw2.trans (bb3.mono lw2), sz1, by omega, by omega, by omega, by omega⟩
  obtain ⟨w3, hw3⟩ : ∃ u, u = (w2.alloc (.cells (wc wz) 46)).setRow w2.heap.size (wc ({ wz with p := ekP0 } : Wk)) := ⟨_, rfl⟩
  rw [← hw3] at E3
  clear bb3 X3 M2 hb2 hw1 hw2 C1 C2
  go_wp2_with (first | ((with_reducible refine wpList_alloc_wz rfl rfl ?_)) | (refine wpList_store_row rfl 46 _ _ rfl (w2.heap.size) (wc ({ wz with p := ekP0 } : Wk)) rfl rfl _ _ (by exact Z3) (by kernel_rfl) (by kernel_rfl) (by kernel_rfl) ?_; rw [← hw3]; clear hw3 Z3))
  generalize hgx : w2.heap.size = gx at *
  generalize w1.heap.size = gc at *
  clear g0 gl0 lm2 sz1 lw2 hgx
  have hwy0 : (ekR (cEk N la) 0).way = 0 := rfl
  go_loopw [11, 12] (fun wy ii wr => ∃ (k : Nat) (s : Wk), k ≤ 5 ∧ wy = .int .i64 (ekR (cEk N la) k).way ∧ ii = .int .i64 (k : Int) ∧ Ems s ∧ s.p = (ekR (cEk N la) k).p ∧ Kb w (cEk N la) gc g gl cp gx (ekR (cEk N la) k).a (ekR (cEk N la) k).L (wc s) wr) (fun _ ii _ => 5 - (intOf ii).toNat)
  case atStart => exact ⟨0, { wz with p := ekP0 }, by omega, rfl, rfl, ems_z _, rfl, E3⟩
  case round =>
    clear E3
    obtain ⟨k, s, hk, rfl, rfl, hem, hsp, E⟩ := hrel
    by_cases hlt : k < 5
    · have hd : decide ((k : Int) < 5) = true := by simp; omega
      have hsum : IntKind.i64.wrap ((k : Int) + 1) = (k : Int) + 1 := IntWalk.i64_in _ (by omega)
      have hwy := HWY.out k hlt
      obtain ⟨hkl, hkw, hkp⟩ := HKP.out k
      have hs := entryStepAny E.M HWF.out (by omega) hkw s { zS with p := s.p } (few_ek _) (hem wr) (by rw [hsp]; exact hkp)
      have e1 : (entryLn (cEk N la) (ekR (cEk N la) k).a (ekR (cEk N la) k).L s.p).fin = ekR (cEk N la) (k + 1) := by rw [hsp]; rfl
      rw [show ({ zS with p := s.p } : St).p = s.p from rfl, e1] at hs
      have HS := Lib.hid hs
      obtain ⟨r, hr⟩ : ∃ r, r = ekR (cEk N la) (k + 1) := ⟨_, rfl⟩
      rw [← hr] at HS
      have HR := Lib.hid hr
      rw [hwy]
      clear hs e1 hkl hkw hkp hwy hwy0 hr
      go_wp2_with (refine wpList_load_row rfl 46 _ rfl (gx) rfl _ (wc s) (0, 0) _ (by exact E.A) Try.underlying46 rfl (by kernel_rfl) ?_)
      refine HS.out.mono ?_
      rintro e u1 ⟨s2, rfl, A2, M2, T2⟩
      obtain ⟨hem2, hp2⟩ := Ems.of A2
      have X2 := T2.bk E.A (by have := E.o4; omega) (by have := E.o5; omega)
      have E2 := (E.touch M2 T2).setA (wc s2)
      obtain ⟨u2, hu2⟩ : ∃ u, u = u1.setRow gx (wc s2) := ⟨_, rfl⟩
      rw [← hu2] at E2
      clear HS A2 M2 T2 E
      go_wp2_with (refine wpList_store_row rfl 46 _ _ rfl (gx) (wc s2) rfl rfl _ _ (by exact X2) (by kernel_rfl) (by kernel_rfl) (by kernel_rfl) ?_; rw [← hu2]; clear hu2 X2)
      go_roundw
      case rel => exact ⟨k + 1, s2, by omega, by rw [← HR.out], by go_num, hem2, by rw [← HR.out]; exact hp2, by rw [← HR.out]; exact E2⟩
      case measure => simp [intOf]; omega
    · obtain rfl : k = 5 := by omega
      obtain ⟨hwy5, ht5, hEI⟩ := HE0.out
      have xt : wr.cell? ⟨gx, 30, none⟩ = some (.int .u64 65537) := by rw [E.A.cells, show (wc s)[30]? = some (.int .u64 s.p.t) from rfl, hsp, ht5]
      rw [hwy5]
      have HEI := Lib.hid hEI
      have cx := E.C.cells
      have A4 := Bk.new wr (wcs (List.replicate N wz)) 46
      have bA : Below wr.heap.size wr (wr.alloc (.cells (wcs (List.replicate N wz)) 46)) := (Below.refl _ _).alloc (Nat.le_refl _) _
      have E4' := E.keep bA
      have lgx := E.A.lt
      have o4 := E.o4
      have o5 := E.o5
      have E4 : Kb w (cEk N la) gc g gl cp wr.heap.size (ekR (cEk N la) 5).a (ekR (cEk N la) 5).L (wcs (List.replicate N wz)) (wr.alloc (.cells (wcs (List.replicate N wz)) 46)) := ⟨E4'.C, E4'.M, A4, E4'.hb, E4'.o1, E4'.o2, E4'.o3, by omega, by omega⟩
      generalize (ekR (cEk N la) 5).a = a5 at *
      generalize (ekR (cEk N la) 5).L = L5 at *
      clear hwy5 ht5 hEI hsp E4' bA A4 HKP HWY HE0 HN hwy0
      go_wp2_with (refine make_works Try.underlying55 rfl _ _ rfl N rfl rfl (by omega) ?_)
      obtain ⟨wq, hwq⟩ : ∃ u, u = wr.alloc (.cells (wcs (List.replicate N wz)) 46) := ⟨_, rfl⟩
      rw [← hwq] at E4 ⊢
      generalize wr.heap.size = ga at *
      clear hwq xt cx E hem o4 o5 lgx hk hlt
      go_loopw [15] (fun ii wr => ∃ (k m : Nat), k + m = N ∧ ii = .int .i64 (k : Int) ∧ Kb w (cEk N la) gc g gl cp ga a5 L5 (wcs (List.replicate k s42 ++ List.replicate m wz)) wr) (fun ii _ => N - (intOf ii).toNat)
      case atStart => exact ⟨0, N, by omega, rfl, E4⟩
      case round =>
        clear E4
        obtain ⟨k, m, hkm, rfl, E⟩ := hrel
        cases m with
        | succ m =>
          have hkN : k < N := by omega
          have hd : decide (k < N) = true := by simp [hkN]
          have hsum : IntKind.i64.wrap ((k : Int) + 1) = (k : Int) + 1 := IntWalk.i64_in _ (by omega)
          have E2 := E.setA (wcs (List.replicate (k + 1) s42 ++ List.replicate m wz))
          have hset := wcs_set (xs := List.replicate k s42 ++ List.replicate (m + 1) wz) (k := k) (by simp) s42
          rw [ek_fill] at hset
          have hrow : k * 33 + 33 ≤ (wcs (List.replicate k s42 ++ List.replicate (m + 1) wz)).size := by rw [wcs_size]; simp; omega
          obtain ⟨u2, hu2⟩ : ∃ u, u = wr.setRow ga (wcs (List.replicate (k + 1) s42 ++ List.replicate m wz)) := ⟨_, rfl⟩
          rw [← hu2] at E2
          have HKM := Lib.hid hkm
          have HU2 := Lib.hid hu2
          have HSET := Lib.hid hset
          have HROW := Lib.hid hrow
          have EA := E.A
          clear hkm hu2 hset hrow E
          go_wp2_with ((with_reducible refine Sub.wpList_store_sub rfl 46 _ _ rfl ga (k * 33) (wc s42) ?_ ?_ 46 (wcs (List.replicate k s42 ++ List.replicate (m + 1) wz)) (wcs (List.replicate (k + 1) s42 ++ List.replicate m wz)) ?_ ?_ ?_ ?_ ?_ ?_); exact rfl; exact rfl; exact EA; kernel_rfl; exact HROW.out; kernel_rfl; exact HSET.out; rw [← HU2.out]; clear HU2 EA)
          go_roundw
          case rel => exact ⟨k + 1, m, by have := HKM.out; omega, by go_num, E2⟩
          case measure => have := HKM.out; simp [intOf]; omega
        | zero =>
          obtain rfl : N = k := by omega
          rw [List.replicate_zero, List.append_nil] at E
          have HST : EkI N false L5 ((List.replicate N s42).map (·.p)) := by rw [List.map_replicate]; exact HEI.out
          have HST := Lib.hid HST
          clear hkm HEI
          go_wp2
          refine wp_loop_rounds 1 ?_
          rw [rounds_succ]
          go_wp2
          go_ret
          exact ⟨rfl, E.hb⟩
set_option maxRecDepth 100000 in
set_option maxHeartbeats 16000000 in
theorem ek_main (n0 n1 : Int) (hn0 : 0 ≤ n0 ∧ n0 < 256) (hn1 : 0 ≤ n1 ∧ n1 < 256) (bp op cap : Nat) (pk : List Int) (hpk : ∀ x ∈ pk, 0 ≤ x ∧ x < 256) (hsh : pk.length ≤ 300) (w : World) (hbp : bp < w.heap.size) (hc : ∀ i (hi : i < pk.length), w.cell? ⟨bp, op + i, none⟩ = some (.int .u8 pk[i])) : Calls Try.prog 11 #[.int .u8 n0, .int .u8 n1, .slice (some ⟨bp, op, none⟩) pk.length cap] w fun e w' => e = .returned (.bool true) ∧ Below w.heap.size w w' := by
  obtain ⟨N, hN⟩ : ∃ N : Nat, (N : Int) = 2 + n0 % 5 := ⟨(2 + n0 % 5).toNat, by omega⟩
  obtain ⟨la, hla⟩ : ∃ la, la = 1 + n1 % 3 := ⟨_, rfl⟩
  have hN8 : 2 ≤ N ∧ N ≤ 6 := by omega
  have hl8 : 1 ≤ la ∧ la ≤ 3 := by omega
  have HNN := Lib.hid (show 2 + n0 % 5 = (N : Int) by omega)
  have HLA := Lib.hid (show 1 + n1 % 3 = la by omega)
  have hbc : ∀ w, (Instr.build 24 #[(0, .int .i64 (N : Int)), (1, .int .i64 1), (2, .int .i64 4), (3, .int .i64 1), (4, .int .i64 1), (6, .int .i64 1), (7, .int .u64 la)]).run Try.prog w = .ok (cv (cEk N la)) w := fun w => run_build w _ _ _ (by kernel_rfl)
  clear hN hla
  have hn := newMem_ok (cEk N la) (cEk_wf hN8 hl8) (chk_ok.1 (cEk_chk hN8 hl8))
  have HN := Lib.hid hn
  have HE0 := Lib.hid (ekR_end hN8 hl8)
  have HKP := Lib.hid (fun k => ekR_keeps hN8 hl8 k)
  have HWY := Lib.hid (fun k (hk : k < 5) => ekR_way hN8 hl8 hk)
  have HWF := Lib.hid (cEk_wf hN8 hl8)
  have hbx : ∀ w, (Instr.build 46 #[(0, .int .i64 20), (7, .int .i64 2)]).run Try.prog w = .ok (wv ({ wz with p := ekP0 } : Wk)) w := fun w => run_build w _ _ _ (by kernel_rfl)
  have hb42 : ∀ w, (Instr.build 46 #[(0, .int .i64 42), (19, .int .u64 65537)]).run Try.prog w = .ok (wv s42) w := fun w => run_build w _ _ _ (by kernel_rfl)
  have hb20 : ∀ w, (Instr.build 46 #[(0, .int .i64 20), (7, .int .i64 3), (19, .int .u64 65537)]).run Try.prog w = .ok (wv ({ wz with p := { pz with ln := 20, b := 3, t := 65537 } } : Wk)) w := fun w => run_build w _ _ _ (by kernel_rfl)
  have hbz : ∀ w, (Instr.build 46 #[]).run Try.prog w = .ok (wv ({ wz with p := pz } : Wk)) w := fun w => run_build w _ _ _ (by kernel_rfl)
  have HC := Lib.hid hc
  have HPK := Lib.hid hpk
  clear hn hc hpk
  go_enter Try.func11, Try.ntmps11
  go_wp2_with fail
  refine (awake11 _).mono ?_
  rintro e w1 ⟨rfl, hb1⟩
  have C1 := Bk.new w1 (ccM (cEk N la)) 24
  have hw1 : Below w.heap.size w (w1.alloc (.cells (ccM (cEk N la)) 24)) := hb1.alloc hb1.size _
  have sz1 := hb1.size
  have d1 : decide ((300 : Int) < (pk.length : Int)) = false := by simp; omega
  go_wp2_with (first | (rw [HNN.out]) | (rw [HLA.out]) | (refine wpList_load_row rfl 24 _ rfl (w1.heap.size) rfl _ (ccM (cEk N la)) (0, 0) _ (by exact C1) Try.underlying24 rfl (by kernel_rfl) ?_))
  refine (HN.out _).mono ?_
  rintro e w2 ⟨g, gl, cp, rfl, M2, hb2⟩
  have g0 := M2.g0
  have gl0 := M2.gl0
  have lm2 := M2.lt
  rw [World.size_alloc] at g0 gl0
  have C2 := C1.keep hb2
  have hw2 := hw1.trans (hb2.mono (by rw [World.size_alloc]; omega))
  have lw2 := hw2.size
  have Z3 := Bk.new w2 (wc wz) 46
  have X3 := boxed_bk w2 ({ wz with p := ekP0 } : Wk)
  have bb3 := boxed_below w2 ({ wz with p := ekP0 } : Wk)
  have E3 : Kb w (cEk N la) w1.heap.size g gl cp w2.heap.size a0 (firstL (cEk N la)) (wc ({ wz with p := ekP0 } : Wk)) ((w2.alloc (.cells (wc wz) 46)).setRow w2.heap.size (wc ({ wz with p := ekP0 } : Wk))) :=
    ⟨C2.keep bb3, (M2.base (by rw [World.size_alloc]; omega)).keep bb3, X3, hw2.trans (bb3.mono lw2), sz1, by omega, by omega, by omega, by omega⟩
  obtain ⟨w3, hw3⟩ : ∃ u, u = (w2.alloc (.cells (wc wz) 46)).setRow w2.heap.size (wc ({ wz with p := ekP0 } : Wk)) := ⟨_, rfl⟩
  rw [← hw3] at E3
  clear bb3 X3 M2 hb2 hw1 hw2 C1 C2
  go_wp2_with (first | ((with_reducible refine wpList_alloc_wz rfl rfl ?_)) | (refine wpList_store_row rfl 46 _ _ rfl (w2.heap.size) (wc ({ wz with p := ekP0 } : Wk)) rfl rfl _ _ (by exact Z3) (by kernel_rfl) (by kernel_rfl) (by kernel_rfl) ?_; rw [← hw3]; clear hw3 Z3))
  generalize hgx : w2.heap.size = gx at *
  generalize w1.heap.size = gc at *
  clear g0 gl0 lm2 sz1 lw2 hgx
  have hwy0 : (ekR (cEk N la) 0).way = 0 := rfl
  go_loopw [11, 12] (fun wy ii wr => ∃ (k : Nat) (s : Wk), k ≤ 5 ∧ wy = .int .i64 (ekR (cEk N la) k).way ∧ ii = .int .i64 (k : Int) ∧ Ems s ∧ s.p = (ekR (cEk N la) k).p ∧ Kb w (cEk N la) gc g gl cp gx (ekR (cEk N la) k).a (ekR (cEk N la) k).L (wc s) wr) (fun _ ii _ => 5 - (intOf ii).toNat)
  case atStart => exact ⟨0, { wz with p := ekP0 }, by omega, rfl, rfl, ems_z _, rfl, E3⟩
  case round =>
    clear E3
    obtain ⟨k, s, hk, rfl, rfl, hem, hsp, E⟩ := hrel
    by_cases hlt : k < 5
    · have hd : decide ((k : Int) < 5) = true := by simp; omega
      have hsum : IntKind.i64.wrap ((k : Int) + 1) = (k : Int) + 1 := IntWalk.i64_in _ (by omega)
      have hwy := HWY.out k hlt
      obtain ⟨hkl, hkw, hkp⟩ := HKP.out k
      have hs := entryStepAny E.M HWF.out (by omega) hkw s { zS with p := s.p } (few_ek _) (hem wr) (by rw [hsp]; exact hkp)
      have e1 : (entryLn (cEk N la) (ekR (cEk N la) k).a (ekR (cEk N la) k).L s.p).fin = ekR (cEk N la) (k + 1) := by rw [hsp]; rfl
      rw [show ({ zS with p := s.p } : St).p = s.p from rfl, e1] at hs
      have HS := Lib.hid hs
      obtain ⟨r, hr⟩ : ∃ r, r = ekR (cEk N la) (k + 1) := ⟨_, rfl⟩
      rw [← hr] at HS
      have HR := Lib.hid hr
      rw [hwy]
      clear hs e1 hkl hkw hkp hwy hwy0 hr
      go_wp2_with (refine wpList_load_row rfl 46 _ rfl (gx) rfl _ (wc s) (0, 0) _ (by exact E.A) Try.underlying46 rfl (by kernel_rfl) ?_)
      refine HS.out.mono ?_
      rintro e u1 ⟨s2, rfl, A2, M2, T2⟩
      obtain ⟨hem2, hp2⟩ := Ems.of A2
      have X2 := T2.bk E.A (by have := E.o4; omega) (by have := E.o5; omega)
      have E2 := (E.touch M2 T2).setA (wc s2)
      obtain ⟨u2, hu2⟩ : ∃ u, u = u1.setRow gx (wc s2) := ⟨_, rfl⟩
      rw [← hu2] at E2
      clear HS A2 M2 T2 E
      go_wp2_with (refine wpList_store_row rfl 46 _ _ rfl (gx) (wc s2) rfl rfl _ _ (by exact X2) (by kernel_rfl) (by kernel_rfl) (by kernel_rfl) ?_; rw [← hu2]; clear hu2 X2)
      go_roundw
      case rel => exact ⟨k + 1, s2, by omega, by rw [← HR.out], by go_num, hem2, by rw [← HR.out]; exact hp2, by rw [← HR.out]; exact E2⟩
      case measure => simp [intOf]; omega
    · obtain rfl : k = 5 := by omega
      obtain ⟨hwy5, ht5, hEI⟩ := HE0.out
      have xt : wr.cell? ⟨gx, 30, none⟩ = some (.int .u64 65537) := by rw [E.A.cells, show (wc s)[30]? = some (.int .u64 s.p.t) from rfl, hsp, ht5]
      rw [hwy5]
      have HEI := Lib.hid hEI
      have cx := E.C.cells
      have A4 := Bk.new wr (wcs (List.replicate N wz)) 46
      have bA : Below wr.heap.size wr (wr.alloc (.cells (wcs (List.replicate N wz)) 46)) := (Below.refl _ _).alloc (Nat.le_refl _) _
      have E4' := E.keep bA
      have lgx := E.A.lt
      have o4 := E.o4
      have o5 := E.o5
      have E4 : Kb w (cEk N la) gc g gl cp wr.heap.size (ekR (cEk N la) 5).a (ekR (cEk N la) 5).L (wcs (List.replicate N wz)) (wr.alloc (.cells (wcs (List.replicate N wz)) 46)) := ⟨E4'.C, E4'.M, A4, E4'.hb, E4'.o1, E4'.o2, E4'.o3, by omega, by omega⟩
      generalize (ekR (cEk N la) 5).a = a5 at *
      generalize (ekR (cEk N la) 5).L = L5 at *
      clear hwy5 ht5 hEI hsp E4' bA A4 HKP HWY HE0 HN hwy0
      go_wp2_with (refine make_works Try.underlying55 rfl _ _ rfl N rfl rfl (by omega) ?_)
      obtain ⟨wq, hwq⟩ : ∃ u, u = wr.alloc (.cells (wcs (List.replicate N wz)) 46) := ⟨_, rfl⟩
      rw [← hwq] at E4 ⊢
      generalize wr.heap.size = ga at *
      clear hwq xt cx E hem o4 o5 lgx hk hlt
      go_loopw [15] (fun ii wr => ∃ (k m : Nat), k + m = N ∧ ii = .int .i64 (k : Int) ∧ Kb w (cEk N la) gc g gl cp ga a5 L5 (wcs (List.replicate k s42 ++ List.replicate m wz)) wr) (fun ii _ => N - (intOf ii).toNat)
      case atStart => exact ⟨0, N, by omega, rfl, E4⟩
      case round =>
        clear E4
        obtain ⟨k, m, hkm, rfl, E⟩ := hrel
        cases m with
        | succ m =>
          have hkN : k < N := by omega
          have hd : decide (k < N) = true := by simp [hkN]
          have hsum : IntKind.i64.wrap ((k : Int) + 1) = (k : Int) + 1 := IntWalk.i64_in _ (by omega)
          have E2 := E.setA (wcs (List.replicate (k + 1) s42 ++ List.replicate m wz))
          have hset := wcs_set (xs := List.replicate k s42 ++ List.replicate (m + 1) wz) (k := k) (by simp) s42
          rw [ek_fill] at hset
          have hrow : k * 33 + 33 ≤ (wcs (List.replicate k s42 ++ List.replicate (m + 1) wz)).size := by rw [wcs_size]; simp; omega
          obtain ⟨u2, hu2⟩ : ∃ u, u = wr.setRow ga (wcs (List.replicate (k + 1) s42 ++ List.replicate m wz)) := ⟨_, rfl⟩
          rw [← hu2] at E2
          have HKM := Lib.hid hkm
          have HU2 := Lib.hid hu2
          have HSET := Lib.hid hset
          have HROW := Lib.hid hrow
          have EA := E.A
          clear hkm hu2 hset hrow E
          go_wp2_with ((with_reducible refine Sub.wpList_store_sub rfl 46 _ _ rfl ga (k * 33) (wc s42) ?_ ?_ 46 (wcs (List.replicate k s42 ++ List.replicate (m + 1) wz)) (wcs (List.replicate (k + 1) s42 ++ List.replicate m wz)) ?_ ?_ ?_ ?_ ?_ ?_); exact rfl; exact rfl; exact EA; kernel_rfl; exact HROW.out; kernel_rfl; exact HSET.out; rw [← HU2.out]; clear HU2 EA)
          go_roundw
          case rel => exact ⟨k + 1, m, by have := HKM.out; omega, by go_num, E2⟩
          case measure => have := HKM.out; simp [intOf]; omega
        | zero =>
          obtain rfl : N = k := by omega
          rw [List.replicate_zero, List.append_nil] at E
          have HST : EkI N false L5 ((List.replicate N s42).map (·.p)) := by rw [List.map_replicate]; exact HEI.out
          have HST := Lib.hid HST
          clear hkm HEI
          go_wp2
          go_loopw [16, 17, 18] (fun gg dd ii wr => ∃ (k : Nat) (L : List Int) (xs : List Wk) (a : Acc) (d : Bool), gg = .int .i64 (ekG d) ∧ dd = .bool d ∧ ii = .int .i64 (k : Int) ∧ k ≤ pk.length ∧ EkI N d L (xs.map (·.p)) ∧ (∀ s ∈ xs, Ems s) ∧ Kb w (cEk N la) gc g gl cp ga a L (wcs xs) wr) (fun _ _ ii _ => pk.length - (intOf ii).toNat)
          case atStart => exact ⟨0, L5, List.replicate N s42, a5, false, rfl, rfl, rfl, by omega, HST.out, fun s hs => by rw [(List.mem_replicate.1 hs).2]; exact ems_z _, E⟩
          case round =>
            clear E HST
            obtain ⟨k, L, xs, a, d, rfl, rfl, rfl, hk, HI, HE, E⟩ := hrel
            by_cases hlt : k < pk.length
            · have hdk : decide ((k : Int) < (pk.length : Int)) = true := by simp; omega
              have hcp := (E.hb.cell (p := ⟨bp, op + k, none⟩) hbp).trans (HC.out k hlt)
              obtain ⟨pv, hpv⟩ : ∃ x, x = pk[k] := ⟨_, rfl⟩
              have hpr : 0 ≤ pv ∧ pv < 256 := by rw [hpv]; exact HPK.out _ (List.getElem_mem hlt)
              rw [← hpv] at hcp
              have lbp : bp < wr.heap.size := Nat.lt_of_lt_of_le hbp E.hb.size
              have lgc : gc < wr.heap.size := E.C.lt
              have cx := E.C.cells
              have hN0 : ((N : Int) == 0) = false := by simp; omega
              obtain ⟨wn, hwn⟩ : ∃ m : Nat, (m : Int) = pv % (N : Int) := ⟨(pv % (N : Int)).toNat, by have := Int.emod_nonneg pv (show (N : Int) ≠ 0 by omega); omega⟩
              have hwN : wn < N := by have := Int.emod_lt_of_pos pv (show (0 : Int) < (N : Int) by omega); omega
              have HWT := Lib.hid hwn.symm
              have HWT2 := Lib.hid (show pv.tmod (N : Int) = (wn : Int) by rw [Int.tmod_eq_emod_of_nonneg hpr.1]; exact hwn.symm)
              have hxl : xs.length = N := by have := HI.nP; simpa using this
              clear hpv hwn
              go_wp2
              refine wp_region_grown (by kernel_rfl) (by kernel_rfl) ?_
              have hg := @gcell
              repeat (go_big_quiet_step (fail))
              refine wpQuiet_nil ?_
              rintro w7 ⟨⟨_, hb7⟩, rfl⟩
              clear hg
              have E7 := E.keep hb7
              clear E hcp cx lbp lgc hb7 hN0
              try rw [HWT2.out]
              try rw [HWT.out]
              have hx0 : wn < xs.length := by omega
              have HXL := Lib.hid hxl
              clear hxl
              obtain ⟨s0, hs0⟩ : ∃ s, s = xs[wn] := ⟨_, rfl⟩
              have HRG := wcs_range E7.A hx0
              rw [← hs0] at HRG
              have hcl : w7.cell? ⟨ga, wn * 33, none⟩ = some (.int .i64 s0.p.ln) := by
                have := wcs_cell E7.A hx0 (j := 0) (by omega)
                rw [← hs0] at this
                exact this
              have hp0 : ekp (xs.map (·.p)) wn = s0.p := by rw [ekp_map _ _ hx0, hs0]
              have hE0 : Ems s0 := hs0 ▸ HE _ (List.getElem_mem hx0)
              have hq0 := HI.pr wn hwN
              rw [hp0] at hq0
              have hsumk : IntKind.i64.wrap ((k : Int) + 1) = (k : Int) + 1 := IntWalk.i64_in _ (by omega)
              have hll := HI.len
              by_cases hl0 : s0.p.ln = 0
              · have t0 : (s0.p.ln == 0) = true := by simp [hl0]
                clear hl0 hs0 HRG hp0 hE0 hq0
                clear hll
                go_wp2
                go_roundw
                case rel => exact ⟨k + 1, L, xs, a, d, rfl, rfl, by go_num, by omega, HI, HE, E7⟩
                case measure => simp [intOf]; omega
              · have t0 : (s0.p.ln == 0) = false := by simp [hl0]
                have HK := ek_pick (la := la) (a := a) hN8 hl8 HI hwN hp0 hl0
                have hs := entryStepAny E7.M HWF.out (by omega) HI.wr s0 { zS with p := s0.p } (few_ek _) (hE0 w7) hq0
                obtain ⟨r, hr⟩ : ∃ r, r = (entryLn (cEk N la) a L s0.p).fin := ⟨_, rfl⟩
                rw [show ({ zS with p := s0.p } : St).p = s0.p from rfl, ← hr] at hs
                rw [← hr] at HK
                have HS := Lib.hid hs
                obtain ⟨d', q, hEI, hok, hcase⟩ := HK
                have HEE := Lib.hid HE
                clear hs hr hs0 hp0 hE0 hq0 hl0 HE HI hll
                have hll := hEI.len
                have hlv := ek_live hN8 hl8 hEI
                obtain ⟨I, hI⟩ : ∃ I, lvI (cEk N la) r.L 65537 = I := ⟨_, rfl⟩
                have HLV : RowKit.Hid (∀ (v : Sl) w', Reads w' .u64 v.v r.L → Calls Try.prog 42 #[cv (cEk N la), v.v, .int .u64 65537] w' (LvRet (.tuple #[.int .i64 I, .bool (!d')]) w')) := Lib.hid (fun v w' hr => by
                  have := eLive (cEk N la) HWF.out (v := v) hr hEI.wr 65537 (by decide)
                  unfold LvPost at this
                  rwa [hI, hlv] at this)
                have HM := Lib.hid (show r.L.length ≤ 1000 by omega)
                have HEI := Lib.hid hEI
                clear hI hlv hll hEI
                have hrow : wn * 33 + 33 ≤ (wcs xs).size := by rw [wcs_size]; omega
                have HROW := Lib.hid hrow
                clear hrow
                rcases hcase with hcase | hcase | hcase | hcase | hcase | hcase | hcase
                · obtain ⟨hwy, rfl, rfl, h41, h42⟩ := hcase
                  have t42 : (s0.p.ln == 42) = false := by simp [h42]
                  have t41 : (s0.p.ln == 41) = false := by simp [h41]
                  have hgd : decide ((1 : Int) < ekG d') = false := by cases d' <;> rfl
                  by_cases h43 : s0.p.ln = 43
                  · have t43 : (s0.p.ln == 43) = true := by simp [h43]
                    have t25 : (s0.p.ln == 25) = false := by simp [h43]
                    clear h43 h42 h41
                    go_wp2_with (first | (refine wpList_load_mid rfl 46 _ rfl ga (wn * 33) rfl (wc s0).toList _ (by exact HRG) Try.underlying46 rfl (by kernel_rfl) ?_))
                    refine HS.out.mono ?_
                    rintro e u9 ⟨s2, rfl, A9, M9, T9⟩
                    obtain ⟨hem, hp2⟩ := Ems.of A9
                    have E9 := E7.touch M9 T9
                    have Z10 := Bk.new u9 (wc wz) 46
                    have Y10 := boxed_bk u9 s2
                    have bb10 := boxed_below u9 s2
                    have E10 := E9.keep bb10
                    have lga : ga < u9.heap.size := E9.A.lt
                    obtain ⟨w10, hw10⟩ : ∃ u, u = (u9.alloc (.cells (wc wz) 46)).setRow u9.heap.size (wc s2) := ⟨_, rfl⟩
                    rw [← hw10] at Y10 E10
                    have HW10 := Lib.hid hw10
                    clear hw10 bb10 A9 M9 T9 E9 HS E7 hcl HRG t0
                    have E12 := E10.setA (wcs (xs.set wn s2))
                    have EA := E10.A
                    obtain ⟨w12, hw12⟩ : ∃ u, u = w10.setRow ga (wcs (xs.set wn s2)) := ⟨_, rfl⟩
                    rw [← hw12] at E12
                    have HW12 := Lib.hid hw12
                    have hES : Ems s2 := hem
                    have hEP : (s2).p = r.p := hp2
                    have HES := Lib.hid hES
                    have HEP := Lib.hid hEP
                    clear hw12 E10 hES hEP hem hp2
                    go_wp2_with (first | ((with_reducible refine wpList_alloc_wz rfl rfl ?_)) | (refine wpList_store_row rfl 46 _ _ rfl (u9.heap.size) (wc s2) rfl rfl _ _ (by exact Z10) (by kernel_rfl) (by kernel_rfl) (by kernel_rfl) ?_; rw [← HW10.out]; clear HW10 Z10) | (refine wpList_load_row rfl 46 _ rfl (u9.heap.size) rfl _ (wc s2) (0, 0) _ (by exact Y10) Try.underlying46 rfl (by kernel_rfl) ?_) | ((with_reducible refine Sub.wpList_store_sub rfl 46 _ _ rfl ga (wn * 33) (wc s2) ?_ ?_ 46 (wcs xs) (wcs (xs.set wn s2)) ?_ ?_ ?_ ?_ ?_ ?_); exact rfl; exact rfl; exact EA; kernel_rfl; exact HROW.out; kernel_rfl; exact wcs_set hx0 s2; rw [← HW12.out]; clear HW12 EA))
                    have hS0 : Below w12.heap.size w12 w12.drew := Below.drew (Below.refl _ _)
                    refine wp_region_held_drew (S := fun w' => Below w12.heap.size w12 w') (by kernel_rfl) hS0 (fun hHeld => ?_)
                    clear hS0
                    generalize w12.drew = z0 at *
                    refine wpAnyH_take (i := 0) (oi := _) (v := cv (cEk N la)) rfl (by kernel_rfl) (by kernel_rfl) (by kernel_rfl) (fun _ _ _ h => h) (Or.inl ⟨by rfl, fun w' hSw => by have xx := (E12.C.keep hSw).cells; go_simp⟩) hHeld ?_
                    try simp only [Act.put, List.getElem_toArray, List.getElem_cons_succ, List.getElem_cons_zero, List.setIfInBounds_toArray, List.set_cons_succ, List.set_cons_zero]
                    refine wpAnyH_take (i := 1) (oi := _) (v := .pointer (some ⟨g, 0, none⟩)) rfl (by kernel_rfl) (by kernel_rfl) (by kernel_rfl) (fun _ _ _ h => h) (Or.inl ⟨by rfl, fun w' hSw => by go_simp⟩) hHeld ?_
                    try simp only [Act.put, List.getElem_toArray, List.getElem_cons_succ, List.getElem_cons_zero, List.setIfInBounds_toArray, List.set_cons_succ, List.set_cons_zero]
                    refine wpAnyH_take (i := 3) (oi := _) (v := .int .u64 65537) rfl (by kernel_rfl) (by kernel_rfl) (by kernel_rfl) (fun _ _ _ h => h) (Or.inl ⟨by rfl, fun w' hSw => by go_simp⟩) hHeld ?_
                    try simp only [Act.put, List.getElem_toArray, List.getElem_cons_succ, List.getElem_cons_zero, List.setIfInBounds_toArray, List.set_cons_succ, List.set_cons_zero]
                    refine wpAnyH_ready (rs := [2]) (by kernel_rfl) (by simp) ?_
                    refine AllReadyH.cons (o := _) rfl (fun K hK => ?_) AllReadyH.nil
                    go_simp
                    refine (all_in (E12.M.keep hHeld) HM.out).mono ?_
                    rintro e z1 ⟨ya, rfl, hya, hb⟩
                    have hHeld' := hHeld.trans (hb.mono hHeld.size)
                    refine hK.out _ _ hHeld' (fun hHeld => ?_)
                    clear hK K hHeld'
                    try simp only [Act.put, List.getElem_toArray, List.getElem_cons_succ, List.getElem_cons_zero, List.setIfInBounds_toArray, List.set_cons_succ, List.set_cons_zero]
                    have rd1 := Reads.of_own hya rfl
                    clear hb hya
                    have HIN := Lib.hid (HLV.out _ _ rd1)
                    clear rd1
                    refine wpAnyH_ready (rs := [4]) (by kernel_rfl) (by simp) ?_
                    refine AllReadyH.cons (o := _) rfl (fun K hK => ?_) AllReadyH.nil
                    go_simp
                    refine (HIN.out).mono ?_
                    rintro e z2 ⟨rfl, hb⟩
                    have hHeld' := hHeld.trans (hb.mono hHeld.size)
                    refine hK.out _ _ hHeld' (fun hHeld => ?_)
                    clear hK K hHeld' HIN
                    try simp only [Act.put, List.getElem_toArray, List.getElem_cons_succ, List.getElem_cons_zero, List.setIfInBounds_toArray, List.set_cons_succ, List.set_cons_zero]
                    clear hb
                    refine wpAnyH_take (i := 5) (oi := _) (v := .tuple #[.int .i64 I, .bool (!d')]) rfl (by kernel_rfl) (by kernel_rfl) (by kernel_rfl) (fun _ _ _ h => h) (Or.inl ⟨by rfl, fun w' hSw => by go_simp⟩) hHeld ?_
                    try simp only [Act.put, List.getElem_toArray, List.getElem_cons_succ, List.getElem_cons_zero, List.setIfInBounds_toArray, List.set_cons_succ, List.set_cons_zero]
                    refine wpAnyH_take (i := 6) (oi := _) (v := .int .i64 I) rfl (by kernel_rfl) (by kernel_rfl) (by kernel_rfl) (fun _ _ _ h => h) (Or.inl ⟨by rfl, fun w' hSw => by go_simp⟩) hHeld ?_
                    try simp only [Act.put, List.getElem_toArray, List.getElem_cons_succ, List.getElem_cons_zero, List.setIfInBounds_toArray, List.set_cons_succ, List.set_cons_zero]
                    refine wpAnyH_take (i := 7) (oi := _) (v := .bool (!d')) rfl (by kernel_rfl) (by kernel_rfl) (by kernel_rfl) (fun _ _ _ h => h) (Or.inl ⟨by rfl, fun w' hSw => by go_simp⟩) hHeld ?_
                    try simp only [Act.put, List.getElem_toArray, List.getElem_cons_succ, List.getElem_cons_zero, List.setIfInBounds_toArray, List.set_cons_succ, List.set_cons_zero]
                    refine wpAnyH_take (i := 8) (oi := _) (v := .int .i64 I) rfl (by kernel_rfl) (by kernel_rfl) (by kernel_rfl) (fun _ _ _ h => h) (Or.inl ⟨by rfl, fun w' hSw => by go_simp⟩) hHeld ?_
                    try simp only [Act.put, List.getElem_toArray, List.getElem_cons_succ, List.getElem_cons_zero, List.setIfInBounds_toArray, List.set_cons_succ, List.set_cons_zero]
                    refine wpAnyH_take (i := 9) (oi := _) (v := .bool (!d')) rfl (by kernel_rfl) (by kernel_rfl) (by kernel_rfl) (fun _ _ _ h => h) (Or.inl ⟨by rfl, fun w' hSw => by go_simp⟩) hHeld ?_
                    try simp only [Act.put, List.getElem_toArray, List.getElem_cons_succ, List.getElem_cons_zero, List.setIfInBounds_toArray, List.set_cons_succ, List.set_cons_zero]
                    refine wpAnyH_done (by kernel_rfl) ?_ _
                    have E13 := E12.keep hHeld
                    clear hHeld E12
                    have tdd : ((!d') == d') = false := by cases d' <;> rfl
                    go_wp2
                    go_roundw
                    case rel => exact ⟨k + 1, r.L, xs.set wn s2, r.a, d', rfl, rfl, by go_num, by omega, by rw [List.map_set, HEP.out]; exact HEI.out, fun s hs => by
                        rcases List.mem_or_eq_of_mem_set hs with q | rfl
                        · exact HEE.out s q
                        · exact HES.out, E13⟩
                    case measure => simp [intOf]; omega
                  · by_cases h25 : s0.p.ln = 25
                    · have t43 : (s0.p.ln == 43) = false := by simp [h43]
                      have t25 : (s0.p.ln == 25) = true := by simp [h25]
                      clear h43 h42 h41 h25
                      go_wp2_with (first | (refine wpList_load_mid rfl 46 _ rfl ga (wn * 33) rfl (wc s0).toList _ (by exact HRG) Try.underlying46 rfl (by kernel_rfl) ?_))
                      refine HS.out.mono ?_
                      rintro e u9 ⟨s2, rfl, A9, M9, T9⟩
                      obtain ⟨hem, hp2⟩ := Ems.of A9
                      have E9 := E7.touch M9 T9
                      have Z10 := Bk.new u9 (wc wz) 46
                      have Y10 := boxed_bk u9 s2
                      have bb10 := boxed_below u9 s2
                      have E10 := E9.keep bb10
                      have lga : ga < u9.heap.size := E9.A.lt
                      obtain ⟨w10, hw10⟩ : ∃ u, u = (u9.alloc (.cells (wc wz) 46)).setRow u9.heap.size (wc s2) := ⟨_, rfl⟩
                      rw [← hw10] at Y10 E10
                      have HW10 := Lib.hid hw10
                      clear hw10 bb10 A9 M9 T9 E9 HS E7 hcl HRG t0
                      have E12 := E10.setA (wcs (xs.set wn s2))
                      have EA := E10.A
                      obtain ⟨w12, hw12⟩ : ∃ u, u = w10.setRow ga (wcs (xs.set wn s2)) := ⟨_, rfl⟩
                      rw [← hw12] at E12
                      have HW12 := Lib.hid hw12
                      have hES : Ems s2 := hem
                      have hEP : (s2).p = r.p := hp2
                      have HES := Lib.hid hES
                      have HEP := Lib.hid hEP
                      clear hw12 E10 hES hEP hem hp2
                      go_wp2_with (first | ((with_reducible refine wpList_alloc_wz rfl rfl ?_)) | (refine wpList_store_row rfl 46 _ _ rfl (u9.heap.size) (wc s2) rfl rfl _ _ (by exact Z10) (by kernel_rfl) (by kernel_rfl) (by kernel_rfl) ?_; rw [← HW10.out]; clear HW10 Z10) | (refine wpList_load_row rfl 46 _ rfl (u9.heap.size) rfl _ (wc s2) (0, 0) _ (by exact Y10) Try.underlying46 rfl (by kernel_rfl) ?_) | ((with_reducible refine Sub.wpList_store_sub rfl 46 _ _ rfl ga (wn * 33) (wc s2) ?_ ?_ 46 (wcs xs) (wcs (xs.set wn s2)) ?_ ?_ ?_ ?_ ?_ ?_); exact rfl; exact rfl; exact EA; kernel_rfl; exact HROW.out; kernel_rfl; exact wcs_set hx0 s2; rw [← HW12.out]; clear HW12 EA))
                      have hS0 : Below w12.heap.size w12 w12.drew := Below.drew (Below.refl _ _)
                      refine wp_region_held_drew (S := fun w' => Below w12.heap.size w12 w') (by kernel_rfl) hS0 (fun hHeld => ?_)
                      clear hS0
                      generalize w12.drew = z0 at *
                      refine wpAnyH_take (i := 0) (oi := _) (v := cv (cEk N la)) rfl (by kernel_rfl) (by kernel_rfl) (by kernel_rfl) (fun _ _ _ h => h) (Or.inl ⟨by rfl, fun w' hSw => by have xx := (E12.C.keep hSw).cells; go_simp⟩) hHeld ?_
                      try simp only [Act.put, List.getElem_toArray, List.getElem_cons_succ, List.getElem_cons_zero, List.setIfInBounds_toArray, List.set_cons_succ, List.set_cons_zero]
                      refine wpAnyH_take (i := 1) (oi := _) (v := .pointer (some ⟨g, 0, none⟩)) rfl (by kernel_rfl) (by kernel_rfl) (by kernel_rfl) (fun _ _ _ h => h) (Or.inl ⟨by rfl, fun w' hSw => by go_simp⟩) hHeld ?_
                      try simp only [Act.put, List.getElem_toArray, List.getElem_cons_succ, List.getElem_cons_zero, List.setIfInBounds_toArray, List.set_cons_succ, List.set_cons_zero]
                      refine wpAnyH_take (i := 3) (oi := _) (v := .int .u64 65537) rfl (by kernel_rfl) (by kernel_rfl) (by kernel_rfl) (fun _ _ _ h => h) (Or.inl ⟨by rfl, fun w' hSw => by go_simp⟩) hHeld ?_
                      try simp only [Act.put, List.getElem_toArray, List.getElem_cons_succ, List.getElem_cons_zero, List.setIfInBounds_toArray, List.set_cons_succ, List.set_cons_zero]
                      refine wpAnyH_ready (rs := [2]) (by kernel_rfl) (by simp) ?_
                      refine AllReadyH.cons (o := _) rfl (fun K hK => ?_) AllReadyH.nil
                      go_simp
                      refine (all_in (E12.M.keep hHeld) HM.out).mono ?_
                      rintro e z1 ⟨ya, rfl, hya, hb⟩
                      have hHeld' := hHeld.trans (hb.mono hHeld.size)
                      refine hK.out _ _ hHeld' (fun hHeld => ?_)
                      clear hK K hHeld'
                      try simp only [Act.put, List.getElem_toArray, List.getElem_cons_succ, List.getElem_cons_zero, List.setIfInBounds_toArray, List.set_cons_succ, List.set_cons_zero]
                      have rd1 := Reads.of_own hya rfl
                      clear hb hya
                      have HIN := Lib.hid (HLV.out _ _ rd1)
                      clear rd1
                      refine wpAnyH_ready (rs := [4]) (by kernel_rfl) (by simp) ?_
                      refine AllReadyH.cons (o := _) rfl (fun K hK => ?_) AllReadyH.nil
                      go_simp
                      refine (HIN.out).mono ?_
                      rintro e z2 ⟨rfl, hb⟩
                      have hHeld' := hHeld.trans (hb.mono hHeld.size)
                      refine hK.out _ _ hHeld' (fun hHeld => ?_)
                      clear hK K hHeld' HIN
                      try simp only [Act.put, List.getElem_toArray, List.getElem_cons_succ, List.getElem_cons_zero, List.setIfInBounds_toArray, List.set_cons_succ, List.set_cons_zero]
                      clear hb
                      refine wpAnyH_take (i := 5) (oi := _) (v := .tuple #[.int .i64 I, .bool (!d')]) rfl (by kernel_rfl) (by kernel_rfl) (by kernel_rfl) (fun _ _ _ h => h) (Or.inl ⟨by rfl, fun w' hSw => by go_simp⟩) hHeld ?_
                      try simp only [Act.put, List.getElem_toArray, List.getElem_cons_succ, List.getElem_cons_zero, List.setIfInBounds_toArray, List.set_cons_succ, List.set_cons_zero]
                      refine wpAnyH_take (i := 6) (oi := _) (v := .int .i64 I) rfl (by kernel_rfl) (by kernel_rfl) (by kernel_rfl) (fun _ _ _ h => h) (Or.inl ⟨by rfl, fun w' hSw => by go_simp⟩) hHeld ?_
                      try simp only [Act.put, List.getElem_toArray, List.getElem_cons_succ, List.getElem_cons_zero, List.setIfInBounds_toArray, List.set_cons_succ, List.set_cons_zero]
                      refine wpAnyH_take (i := 7) (oi := _) (v := .bool (!d')) rfl (by kernel_rfl) (by kernel_rfl) (by kernel_rfl) (fun _ _ _ h => h) (Or.inl ⟨by rfl, fun w' hSw => by go_simp⟩) hHeld ?_
                      try simp only [Act.put, List.getElem_toArray, List.getElem_cons_succ, List.getElem_cons_zero, List.setIfInBounds_toArray, List.set_cons_succ, List.set_cons_zero]
                      refine wpAnyH_take (i := 8) (oi := _) (v := .int .i64 I) rfl (by kernel_rfl) (by kernel_rfl) (by kernel_rfl) (fun _ _ _ h => h) (Or.inl ⟨by rfl, fun w' hSw => by go_simp⟩) hHeld ?_
                      try simp only [Act.put, List.getElem_toArray, List.getElem_cons_succ, List.getElem_cons_zero, List.setIfInBounds_toArray, List.set_cons_succ, List.set_cons_zero]
                      refine wpAnyH_take (i := 9) (oi := _) (v := .bool (!d')) rfl (by kernel_rfl) (by kernel_rfl) (by kernel_rfl) (fun _ _ _ h => h) (Or.inl ⟨by rfl, fun w' hSw => by go_simp⟩) hHeld ?_
                      try simp only [Act.put, List.getElem_toArray, List.getElem_cons_succ, List.getElem_cons_zero, List.setIfInBounds_toArray, List.set_cons_succ, List.set_cons_zero]
                      refine wpAnyH_done (by kernel_rfl) ?_ _
                      have E13 := E12.keep hHeld
                      clear hHeld E12
                      have tdd : ((!d') == d') = false := by cases d' <;> rfl
                      go_wp2
                      go_roundw
                      case rel => exact ⟨k + 1, r.L, xs.set wn s2, r.a, d', rfl, rfl, by go_num, by omega, by rw [List.map_set, HEP.out]; exact HEI.out, fun s hs => by
                          rcases List.mem_or_eq_of_mem_set hs with q | rfl
                          · exact HEE.out s q
                          · exact HES.out, E13⟩
                      case measure => simp [intOf]; omega
                    · have t43 : (s0.p.ln == 43) = false := by simp [h43]
                      have t25 : (s0.p.ln == 25) = false := by simp [h25]
                      clear h43 h42 h41 h25
                      go_wp2_with (first | (refine wpList_load_mid rfl 46 _ rfl ga (wn * 33) rfl (wc s0).toList _ (by exact HRG) Try.underlying46 rfl (by kernel_rfl) ?_))
                      refine HS.out.mono ?_
                      rintro e u9 ⟨s2, rfl, A9, M9, T9⟩
                      obtain ⟨hem, hp2⟩ := Ems.of A9
                      have E9 := E7.touch M9 T9
                      have Z10 := Bk.new u9 (wc wz) 46
                      have Y10 := boxed_bk u9 s2
                      have bb10 := boxed_below u9 s2
                      have E10 := E9.keep bb10
                      have lga : ga < u9.heap.size := E9.A.lt
                      obtain ⟨w10, hw10⟩ : ∃ u, u = (u9.alloc (.cells (wc wz) 46)).setRow u9.heap.size (wc s2) := ⟨_, rfl⟩
                      rw [← hw10] at Y10 E10
                      have HW10 := Lib.hid hw10
                      clear hw10 bb10 A9 M9 T9 E9 HS E7 hcl HRG t0
                      have E12 := E10.setA (wcs (xs.set wn s2))
                      have EA := E10.A
                      obtain ⟨w12, hw12⟩ : ∃ u, u = w10.setRow ga (wcs (xs.set wn s2)) := ⟨_, rfl⟩
                      rw [← hw12] at E12
                      have HW12 := Lib.hid hw12
                      have hES : Ems s2 := hem
                      have hEP : (s2).p = r.p := hp2
                      have HES := Lib.hid hES
                      have HEP := Lib.hid hEP
                      clear hw12 E10 hES hEP hem hp2
                      go_wp2_with (first | ((with_reducible refine wpList_alloc_wz rfl rfl ?_)) | (refine wpList_store_row rfl 46 _ _ rfl (u9.heap.size) (wc s2) rfl rfl _ _ (by exact Z10) (by kernel_rfl) (by kernel_rfl) (by kernel_rfl) ?_; rw [← HW10.out]; clear HW10 Z10) | (refine wpList_load_row rfl 46 _ rfl (u9.heap.size) rfl _ (wc s2) (0, 0) _ (by exact Y10) Try.underlying46 rfl (by kernel_rfl) ?_) | ((with_reducible refine Sub.wpList_store_sub rfl 46 _ _ rfl ga (wn * 33) (wc s2) ?_ ?_ 46 (wcs xs) (wcs (xs.set wn s2)) ?_ ?_ ?_ ?_ ?_ ?_); exact rfl; exact rfl; exact EA; kernel_rfl; exact HROW.out; kernel_rfl; exact wcs_set hx0 s2; rw [← HW12.out]; clear HW12 EA))
                      have hS0 : Below w12.heap.size w12 w12.drew := Below.drew (Below.refl _ _)
                      refine wp_region_held_drew (S := fun w' => Below w12.heap.size w12 w') (by kernel_rfl) hS0 (fun hHeld => ?_)
                      clear hS0
                      generalize w12.drew = z0 at *
                      refine wpAnyH_take (i := 0) (oi := _) (v := cv (cEk N la)) rfl (by kernel_rfl) (by kernel_rfl) (by kernel_rfl) (fun _ _ _ h => h) (Or.inl ⟨by rfl, fun w' hSw => by have xx := (E12.C.keep hSw).cells; go_simp⟩) hHeld ?_
                      try simp only [Act.put, List.getElem_toArray, List.getElem_cons_succ, List.getElem_cons_zero, List.setIfInBounds_toArray, List.set_cons_succ, List.set_cons_zero]
                      refine wpAnyH_take (i := 1) (oi := _) (v := .pointer (some ⟨g, 0, none⟩)) rfl (by kernel_rfl) (by kernel_rfl) (by kernel_rfl) (fun _ _ _ h => h) (Or.inl ⟨by rfl, fun w' hSw => by go_simp⟩) hHeld ?_
                      try simp only [Act.put, List.getElem_toArray, List.getElem_cons_succ, List.getElem_cons_zero, List.setIfInBounds_toArray, List.set_cons_succ, List.set_cons_zero]
                      refine wpAnyH_take (i := 3) (oi := _) (v := .int .u64 65537) rfl (by kernel_rfl) (by kernel_rfl) (by kernel_rfl) (fun _ _ _ h => h) (Or.inl ⟨by rfl, fun w' hSw => by go_simp⟩) hHeld ?_
                      try simp only [Act.put, List.getElem_toArray, List.getElem_cons_succ, List.getElem_cons_zero, List.setIfInBounds_toArray, List.set_cons_succ, List.set_cons_zero]
                      refine wpAnyH_ready (rs := [2]) (by kernel_rfl) (by simp) ?_
                      refine AllReadyH.cons (o := _) rfl (fun K hK => ?_) AllReadyH.nil
                      go_simp
                      refine (all_in (E12.M.keep hHeld) HM.out).mono ?_
                      rintro e z1 ⟨ya, rfl, hya, hb⟩
                      have hHeld' := hHeld.trans (hb.mono hHeld.size)
                      refine hK.out _ _ hHeld' (fun hHeld => ?_)
                      clear hK K hHeld'
                      try simp only [Act.put, List.getElem_toArray, List.getElem_cons_succ, List.getElem_cons_zero, List.setIfInBounds_toArray, List.set_cons_succ, List.set_cons_zero]
                      have rd1 := Reads.of_own hya rfl
                      clear hb hya
                      have HIN := Lib.hid (HLV.out _ _ rd1)
                      clear rd1
                      refine wpAnyH_ready (rs := [4]) (by kernel_rfl) (by simp) ?_
                      refine AllReadyH.cons (o := _) rfl (fun K hK => ?_) AllReadyH.nil
                      go_simp
                      refine (HIN.out).mono ?_
                      rintro e z2 ⟨rfl, hb⟩
                      have hHeld' := hHeld.trans (hb.mono hHeld.size)
                      refine hK.out _ _ hHeld' (fun hHeld => ?_)
                      clear hK K hHeld' HIN
                      try simp only [Act.put, List.getElem_toArray, List.getElem_cons_succ, List.getElem_cons_zero, List.setIfInBounds_toArray, List.set_cons_succ, List.set_cons_zero]
                      clear hb
                      refine wpAnyH_take (i := 5) (oi := _) (v := .tuple #[.int .i64 I, .bool (!d')]) rfl (by kernel_rfl) (by kernel_rfl) (by kernel_rfl) (fun _ _ _ h => h) (Or.inl ⟨by rfl, fun w' hSw => by go_simp⟩) hHeld ?_
                      try simp only [Act.put, List.getElem_toArray, List.getElem_cons_succ, List.getElem_cons_zero, List.setIfInBounds_toArray, List.set_cons_succ, List.set_cons_zero]
                      refine wpAnyH_take (i := 6) (oi := _) (v := .int .i64 I) rfl (by kernel_rfl) (by kernel_rfl) (by kernel_rfl) (fun _ _ _ h => h) (Or.inl ⟨by rfl, fun w' hSw => by go_simp⟩) hHeld ?_
                      try simp only [Act.put, List.getElem_toArray, List.getElem_cons_succ, List.getElem_cons_zero, List.setIfInBounds_toArray, List.set_cons_succ, List.set_cons_zero]
                      refine wpAnyH_take (i := 7) (oi := _) (v := .bool (!d')) rfl (by kernel_rfl) (by kernel_rfl) (by kernel_rfl) (fun _ _ _ h => h) (Or.inl ⟨by rfl, fun w' hSw => by go_simp⟩) hHeld ?_
                      try simp only [Act.put, List.getElem_toArray, List.getElem_cons_succ, List.getElem_cons_zero, List.setIfInBounds_toArray, List.set_cons_succ, List.set_cons_zero]
                      refine wpAnyH_take (i := 8) (oi := _) (v := .int .i64 I) rfl (by kernel_rfl) (by kernel_rfl) (by kernel_rfl) (fun _ _ _ h => h) (Or.inl ⟨by rfl, fun w' hSw => by go_simp⟩) hHeld ?_
                      try simp only [Act.put, List.getElem_toArray, List.getElem_cons_succ, List.getElem_cons_zero, List.setIfInBounds_toArray, List.set_cons_succ, List.set_cons_zero]
                      refine wpAnyH_take (i := 9) (oi := _) (v := .bool (!d')) rfl (by kernel_rfl) (by kernel_rfl) (by kernel_rfl) (fun _ _ _ h => h) (Or.inl ⟨by rfl, fun w' hSw => by go_simp⟩) hHeld ?_
                      try simp only [Act.put, List.getElem_toArray, List.getElem_cons_succ, List.getElem_cons_zero, List.setIfInBounds_toArray, List.set_cons_succ, List.set_cons_zero]
                      refine wpAnyH_done (by kernel_rfl) ?_ _
                      have E13 := E12.keep hHeld
                      clear hHeld E12
                      have tdd : ((!d') == d') = false := by cases d' <;> rfl
                      go_wp2
                      go_roundw
                      case rel => exact ⟨k + 1, r.L, xs.set wn s2, r.a, d', rfl, rfl, by go_num, by omega, by rw [List.map_set, HEP.out]; exact HEI.out, fun s hs => by
                          rcases List.mem_or_eq_of_mem_set hs with q | rfl
                          · exact HEE.out s q
                          · exact HES.out, E13⟩
                      case measure => simp [intOf]; omega
                · obtain ⟨hwy, rfl, rfl, hl⟩ := hcase
                  have hgd : decide ((1 : Int) < ekG d') = false := by cases d' <;> rfl
                  rcases hl with hl | hl
                  · have t43 : (s0.p.ln == 43) = false := by simp [hl]
                    have t42 : (s0.p.ln == 42) = true := by simp [hl]
                    have t25 : (s0.p.ln == 25) = false := by simp [hl]
                    have t41 : (s0.p.ln == 41) = false := by simp [hl]
                    clear hl
                    go_wp2_with (first | (refine wpList_load_mid rfl 46 _ rfl ga (wn * 33) rfl (wc s0).toList _ (by exact HRG) Try.underlying46 rfl (by kernel_rfl) ?_))
                    refine HS.out.mono ?_
                    rintro e u9 ⟨s2, rfl, A9, M9, T9⟩
                    obtain ⟨hem, hp2⟩ := Ems.of A9
                    have E9 := E7.touch M9 T9
                    have Z10 := Bk.new u9 (wc wz) 46
                    have Y10 := boxed_bk u9 s2
                    have bb10 := boxed_below u9 s2
                    have E10 := E9.keep bb10
                    have lga : ga < u9.heap.size := E9.A.lt
                    obtain ⟨w10, hw10⟩ : ∃ u, u = (u9.alloc (.cells (wc wz) 46)).setRow u9.heap.size (wc s2) := ⟨_, rfl⟩
                    rw [← hw10] at Y10 E10
                    have HW10 := Lib.hid hw10
                    clear hw10 bb10 A9 M9 T9 E9 HS E7 hcl HRG t0
                    obtain ⟨sf, hsf⟩ : ∃ t : Wk, t = ({ wz with p := pz } : Wk) := ⟨_, rfl⟩
                    have E11 := E10.farRow lga (wc ({ wz with p := pz } : Wk))
                    have Y11 : Bk (w10.setRow u9.heap.size (wc ({ wz with p := pz } : Wk))) u9.heap.size (wc sf) 46 := by rw [hsf]; exact Y10.setRow (wc ({ wz with p := pz } : Wk))
                    obtain ⟨w11, hw11⟩ : ∃ u, u = w10.setRow u9.heap.size (wc ({ wz with p := pz } : Wk)) := ⟨_, rfl⟩
                    rw [← hw11] at E11 Y11
                    have HW11 := Lib.hid hw11
                    clear hw11 E10
                    have E12 := E11.setA (wcs (xs.set wn sf))
                    have EA := E11.A
                    obtain ⟨w12, hw12⟩ : ∃ u, u = w11.setRow ga (wcs (xs.set wn sf)) := ⟨_, rfl⟩
                    rw [← hw12] at E12
                    have HW12 := Lib.hid hw12
                    have hES : Ems sf := by rw [hsf]; exact ems_z _
                    have hEP : (sf).p = pz := by rw [hsf]
                    have HES := Lib.hid hES
                    have HEP := Lib.hid hEP
                    clear hw12 E11 hES hEP hem hsf hp2
                    go_wp2_with (first | ((with_reducible refine wpList_alloc_wz rfl rfl ?_)) | (refine wpList_store_row rfl 46 _ _ rfl (u9.heap.size) (wc s2) rfl rfl _ _ (by exact Z10) (by kernel_rfl) (by kernel_rfl) (by kernel_rfl) ?_; rw [← HW10.out]; clear HW10 Z10) | (refine wpList_store_row rfl 46 _ _ rfl (u9.heap.size) (wc ({ wz with p := pz } : Wk)) rfl rfl _ _ (by exact Y10) (by kernel_rfl) (by kernel_rfl) (by kernel_rfl) ?_; rw [← HW11.out]; clear HW11 Y10) | (refine wpList_load_row rfl 46 _ rfl (u9.heap.size) rfl _ (wc sf) (0, 0) _ (by exact Y11) Try.underlying46 rfl (by kernel_rfl) ?_) | ((with_reducible refine Sub.wpList_store_sub rfl 46 _ _ rfl ga (wn * 33) (wc sf) ?_ ?_ 46 (wcs xs) (wcs (xs.set wn sf)) ?_ ?_ ?_ ?_ ?_ ?_); exact rfl; exact rfl; exact EA; kernel_rfl; exact HROW.out; kernel_rfl; exact wcs_set hx0 sf; rw [← HW12.out]; clear HW12 EA))
                    have hS0 : Below w12.heap.size w12 w12.drew := Below.drew (Below.refl _ _)
                    refine wp_region_held_drew (S := fun w' => Below w12.heap.size w12 w') (by kernel_rfl) hS0 (fun hHeld => ?_)
                    clear hS0
                    generalize w12.drew = z0 at *
                    refine wpAnyH_take (i := 0) (oi := _) (v := cv (cEk N la)) rfl (by kernel_rfl) (by kernel_rfl) (by kernel_rfl) (fun _ _ _ h => h) (Or.inl ⟨by rfl, fun w' hSw => by have xx := (E12.C.keep hSw).cells; go_simp⟩) hHeld ?_
                    try simp only [Act.put, List.getElem_toArray, List.getElem_cons_succ, List.getElem_cons_zero, List.setIfInBounds_toArray, List.set_cons_succ, List.set_cons_zero]
                    refine wpAnyH_take (i := 1) (oi := _) (v := .pointer (some ⟨g, 0, none⟩)) rfl (by kernel_rfl) (by kernel_rfl) (by kernel_rfl) (fun _ _ _ h => h) (Or.inl ⟨by rfl, fun w' hSw => by go_simp⟩) hHeld ?_
                    try simp only [Act.put, List.getElem_toArray, List.getElem_cons_succ, List.getElem_cons_zero, List.setIfInBounds_toArray, List.set_cons_succ, List.set_cons_zero]
                    refine wpAnyH_take (i := 3) (oi := _) (v := .int .u64 65537) rfl (by kernel_rfl) (by kernel_rfl) (by kernel_rfl) (fun _ _ _ h => h) (Or.inl ⟨by rfl, fun w' hSw => by go_simp⟩) hHeld ?_
                    try simp only [Act.put, List.getElem_toArray, List.getElem_cons_succ, List.getElem_cons_zero, List.setIfInBounds_toArray, List.set_cons_succ, List.set_cons_zero]
                    refine wpAnyH_ready (rs := [2]) (by kernel_rfl) (by simp) ?_
                    refine AllReadyH.cons (o := _) rfl (fun K hK => ?_) AllReadyH.nil
                    go_simp
                    refine (all_in (E12.M.keep hHeld) HM.out).mono ?_
                    rintro e z1 ⟨ya, rfl, hya, hb⟩
                    have hHeld' := hHeld.trans (hb.mono hHeld.size)
                    refine hK.out _ _ hHeld' (fun hHeld => ?_)
                    clear hK K hHeld'
                    try simp only [Act.put, List.getElem_toArray, List.getElem_cons_succ, List.getElem_cons_zero, List.setIfInBounds_toArray, List.set_cons_succ, List.set_cons_zero]
                    have rd1 := Reads.of_own hya rfl
                    clear hb hya
                    have HIN := Lib.hid (HLV.out _ _ rd1)
                    clear rd1
                    refine wpAnyH_ready (rs := [4]) (by kernel_rfl) (by simp) ?_
                    refine AllReadyH.cons (o := _) rfl (fun K hK => ?_) AllReadyH.nil
                    go_simp
                    refine (HIN.out).mono ?_
                    rintro e z2 ⟨rfl, hb⟩
                    have hHeld' := hHeld.trans (hb.mono hHeld.size)
                    refine hK.out _ _ hHeld' (fun hHeld => ?_)
                    clear hK K hHeld' HIN
                    try simp only [Act.put, List.getElem_toArray, List.getElem_cons_succ, List.getElem_cons_zero, List.setIfInBounds_toArray, List.set_cons_succ, List.set_cons_zero]
                    clear hb
                    refine wpAnyH_take (i := 5) (oi := _) (v := .tuple #[.int .i64 I, .bool (!d')]) rfl (by kernel_rfl) (by kernel_rfl) (by kernel_rfl) (fun _ _ _ h => h) (Or.inl ⟨by rfl, fun w' hSw => by go_simp⟩) hHeld ?_
                    try simp only [Act.put, List.getElem_toArray, List.getElem_cons_succ, List.getElem_cons_zero, List.setIfInBounds_toArray, List.set_cons_succ, List.set_cons_zero]
                    refine wpAnyH_take (i := 6) (oi := _) (v := .int .i64 I) rfl (by kernel_rfl) (by kernel_rfl) (by kernel_rfl) (fun _ _ _ h => h) (Or.inl ⟨by rfl, fun w' hSw => by go_simp⟩) hHeld ?_
                    try simp only [Act.put, List.getElem_toArray, List.getElem_cons_succ, List.getElem_cons_zero, List.setIfInBounds_toArray, List.set_cons_succ, List.set_cons_zero]
                    refine wpAnyH_take (i := 7) (oi := _) (v := .bool (!d')) rfl (by kernel_rfl) (by kernel_rfl) (by kernel_rfl) (fun _ _ _ h => h) (Or.inl ⟨by rfl, fun w' hSw => by go_simp⟩) hHeld ?_
                    try simp only [Act.put, List.getElem_toArray, List.getElem_cons_succ, List.getElem_cons_zero, List.setIfInBounds_toArray, List.set_cons_succ, List.set_cons_zero]
                    refine wpAnyH_take (i := 8) (oi := _) (v := .int .i64 I) rfl (by kernel_rfl) (by kernel_rfl) (by kernel_rfl) (fun _ _ _ h => h) (Or.inl ⟨by rfl, fun w' hSw => by go_simp⟩) hHeld ?_
                    try simp only [Act.put, List.getElem_toArray, List.getElem_cons_succ, List.getElem_cons_zero, List.setIfInBounds_toArray, List.set_cons_succ, List.set_cons_zero]
                    refine wpAnyH_take (i := 9) (oi := _) (v := .bool (!d')) rfl (by kernel_rfl) (by kernel_rfl) (by kernel_rfl) (fun _ _ _ h => h) (Or.inl ⟨by rfl, fun w' hSw => by go_simp⟩) hHeld ?_
                    try simp only [Act.put, List.getElem_toArray, List.getElem_cons_succ, List.getElem_cons_zero, List.setIfInBounds_toArray, List.set_cons_succ, List.set_cons_zero]
                    refine wpAnyH_done (by kernel_rfl) ?_ _
                    have E13 := E12.keep hHeld
                    clear hHeld E12
                    have tdd : ((!d') == d') = false := by cases d' <;> rfl
                    go_wp2
                    go_roundw
                    case rel => exact ⟨k + 1, r.L, xs.set wn sf, r.a, d', rfl, rfl, by go_num, by omega, by rw [List.map_set, HEP.out]; exact HEI.out, fun s hs => by
                        rcases List.mem_or_eq_of_mem_set hs with q | rfl
                        · exact HEE.out s q
                        · exact HES.out, E13⟩
                    case measure => simp [intOf]; omega
                  · have t43 : (s0.p.ln == 43) = false := by simp [hl]
                    have t42 : (s0.p.ln == 42) = false := by simp [hl]
                    have t25 : (s0.p.ln == 25) = false := by simp [hl]
                    have t41 : (s0.p.ln == 41) = false := by simp [hl]
                    clear hl
                    go_wp2_with (first | (refine wpList_load_mid rfl 46 _ rfl ga (wn * 33) rfl (wc s0).toList _ (by exact HRG) Try.underlying46 rfl (by kernel_rfl) ?_))
                    refine HS.out.mono ?_
                    rintro e u9 ⟨s2, rfl, A9, M9, T9⟩
                    obtain ⟨hem, hp2⟩ := Ems.of A9
                    have E9 := E7.touch M9 T9
                    have Z10 := Bk.new u9 (wc wz) 46
                    have Y10 := boxed_bk u9 s2
                    have bb10 := boxed_below u9 s2
                    have E10 := E9.keep bb10
                    have lga : ga < u9.heap.size := E9.A.lt
                    obtain ⟨w10, hw10⟩ : ∃ u, u = (u9.alloc (.cells (wc wz) 46)).setRow u9.heap.size (wc s2) := ⟨_, rfl⟩
                    rw [← hw10] at Y10 E10
                    have HW10 := Lib.hid hw10
                    clear hw10 bb10 A9 M9 T9 E9 HS E7 hcl HRG t0
                    obtain ⟨sf, hsf⟩ : ∃ t : Wk, t = ({ wz with p := pz } : Wk) := ⟨_, rfl⟩
                    have E11 := E10.farRow lga (wc ({ wz with p := pz } : Wk))
                    have Y11 : Bk (w10.setRow u9.heap.size (wc ({ wz with p := pz } : Wk))) u9.heap.size (wc sf) 46 := by rw [hsf]; exact Y10.setRow (wc ({ wz with p := pz } : Wk))
                    obtain ⟨w11, hw11⟩ : ∃ u, u = w10.setRow u9.heap.size (wc ({ wz with p := pz } : Wk)) := ⟨_, rfl⟩
                    rw [← hw11] at E11 Y11
                    have HW11 := Lib.hid hw11
                    clear hw11 E10
                    have E12 := E11.setA (wcs (xs.set wn sf))
                    have EA := E11.A
                    obtain ⟨w12, hw12⟩ : ∃ u, u = w11.setRow ga (wcs (xs.set wn sf)) := ⟨_, rfl⟩
                    rw [← hw12] at E12
                    have HW12 := Lib.hid hw12
                    have hES : Ems sf := by rw [hsf]; exact ems_z _
                    have hEP : (sf).p = pz := by rw [hsf]
                    have HES := Lib.hid hES
                    have HEP := Lib.hid hEP
                    clear hw12 E11 hES hEP hem hsf hp2
                    go_wp2_with (first | ((with_reducible refine wpList_alloc_wz rfl rfl ?_)) | (refine wpList_store_row rfl 46 _ _ rfl (u9.heap.size) (wc s2) rfl rfl _ _ (by exact Z10) (by kernel_rfl) (by kernel_rfl) (by kernel_rfl) ?_; rw [← HW10.out]; clear HW10 Z10) | (refine wpList_store_row rfl 46 _ _ rfl (u9.heap.size) (wc ({ wz with p := pz } : Wk)) rfl rfl _ _ (by exact Y10) (by kernel_rfl) (by kernel_rfl) (by kernel_rfl) ?_; rw [← HW11.out]; clear HW11 Y10) | (refine wpList_load_row rfl 46 _ rfl (u9.heap.size) rfl _ (wc sf) (0, 0) _ (by exact Y11) Try.underlying46 rfl (by kernel_rfl) ?_) | ((with_reducible refine Sub.wpList_store_sub rfl 46 _ _ rfl ga (wn * 33) (wc sf) ?_ ?_ 46 (wcs xs) (wcs (xs.set wn sf)) ?_ ?_ ?_ ?_ ?_ ?_); exact rfl; exact rfl; exact EA; kernel_rfl; exact HROW.out; kernel_rfl; exact wcs_set hx0 sf; rw [← HW12.out]; clear HW12 EA))
                    have hS0 : Below w12.heap.size w12 w12.drew := Below.drew (Below.refl _ _)
                    refine wp_region_held_drew (S := fun w' => Below w12.heap.size w12 w') (by kernel_rfl) hS0 (fun hHeld => ?_)
                    clear hS0
                    generalize w12.drew = z0 at *
                    refine wpAnyH_take (i := 0) (oi := _) (v := cv (cEk N la)) rfl (by kernel_rfl) (by kernel_rfl) (by kernel_rfl) (fun _ _ _ h => h) (Or.inl ⟨by rfl, fun w' hSw => by have xx := (E12.C.keep hSw).cells; go_simp⟩) hHeld ?_
                    try simp only [Act.put, List.getElem_toArray, List.getElem_cons_succ, List.getElem_cons_zero, List.setIfInBounds_toArray, List.set_cons_succ, List.set_cons_zero]
                    refine wpAnyH_take (i := 1) (oi := _) (v := .pointer (some ⟨g, 0, none⟩)) rfl (by kernel_rfl) (by kernel_rfl) (by kernel_rfl) (fun _ _ _ h => h) (Or.inl ⟨by rfl, fun w' hSw => by go_simp⟩) hHeld ?_
                    try simp only [Act.put, List.getElem_toArray, List.getElem_cons_succ, List.getElem_cons_zero, List.setIfInBounds_toArray, List.set_cons_succ, List.set_cons_zero]
                    refine wpAnyH_take (i := 3) (oi := _) (v := .int .u64 65537) rfl (by kernel_rfl) (by kernel_rfl) (by kernel_rfl) (fun _ _ _ h => h) (Or.inl ⟨by rfl, fun w' hSw => by go_simp⟩) hHeld ?_
                    try simp only [Act.put, List.getElem_toArray, List.getElem_cons_succ, List.getElem_cons_zero, List.setIfInBounds_toArray, List.set_cons_succ, List.set_cons_zero]
                    refine wpAnyH_ready (rs := [2]) (by kernel_rfl) (by simp) ?_
                    refine AllReadyH.cons (o := _) rfl (fun K hK => ?_) AllReadyH.nil
                    go_simp
                    refine (all_in (E12.M.keep hHeld) HM.out).mono ?_
                    rintro e z1 ⟨ya, rfl, hya, hb⟩
                    have hHeld' := hHeld.trans (hb.mono hHeld.size)
                    refine hK.out _ _ hHeld' (fun hHeld => ?_)
                    clear hK K hHeld'
                    try simp only [Act.put, List.getElem_toArray, List.getElem_cons_succ, List.getElem_cons_zero, List.setIfInBounds_toArray, List.set_cons_succ, List.set_cons_zero]
                    have rd1 := Reads.of_own hya rfl
                    clear hb hya
                    have HIN := Lib.hid (HLV.out _ _ rd1)
                    clear rd1
                    refine wpAnyH_ready (rs := [4]) (by kernel_rfl) (by simp) ?_
                    refine AllReadyH.cons (o := _) rfl (fun K hK => ?_) AllReadyH.nil
                    go_simp
                    refine (HIN.out).mono ?_
                    rintro e z2 ⟨rfl, hb⟩
                    have hHeld' := hHeld.trans (hb.mono hHeld.size)
                    refine hK.out _ _ hHeld' (fun hHeld => ?_)
                    clear hK K hHeld' HIN
                    try simp only [Act.put, List.getElem_toArray, List.getElem_cons_succ, List.getElem_cons_zero, List.setIfInBounds_toArray, List.set_cons_succ, List.set_cons_zero]
                    clear hb
                    refine wpAnyH_take (i := 5) (oi := _) (v := .tuple #[.int .i64 I, .bool (!d')]) rfl (by kernel_rfl) (by kernel_rfl) (by kernel_rfl) (fun _ _ _ h => h) (Or.inl ⟨by rfl, fun w' hSw => by go_simp⟩) hHeld ?_
                    try simp only [Act.put, List.getElem_toArray, List.getElem_cons_succ, List.getElem_cons_zero, List.setIfInBounds_toArray, List.set_cons_succ, List.set_cons_zero]
                    refine wpAnyH_take (i := 6) (oi := _) (v := .int .i64 I) rfl (by kernel_rfl) (by kernel_rfl) (by kernel_rfl) (fun _ _ _ h => h) (Or.inl ⟨by rfl, fun w' hSw => by go_simp⟩) hHeld ?_
                    try simp only [Act.put, List.getElem_toArray, List.getElem_cons_succ, List.getElem_cons_zero, List.setIfInBounds_toArray, List.set_cons_succ, List.set_cons_zero]
                    refine wpAnyH_take (i := 7) (oi := _) (v := .bool (!d')) rfl (by kernel_rfl) (by kernel_rfl) (by kernel_rfl) (fun _ _ _ h => h) (Or.inl ⟨by rfl, fun w' hSw => by go_simp⟩) hHeld ?_
                    try simp only [Act.put, List.getElem_toArray, List.getElem_cons_succ, List.getElem_cons_zero, List.setIfInBounds_toArray, List.set_cons_succ, List.set_cons_zero]
                    refine wpAnyH_take (i := 8) (oi := _) (v := .int .i64 I) rfl (by kernel_rfl) (by kernel_rfl) (by kernel_rfl) (fun _ _ _ h => h) (Or.inl ⟨by rfl, fun w' hSw => by go_simp⟩) hHeld ?_
                    try simp only [Act.put, List.getElem_toArray, List.getElem_cons_succ, List.getElem_cons_zero, List.setIfInBounds_toArray, List.set_cons_succ, List.set_cons_zero]
                    refine wpAnyH_take (i := 9) (oi := _) (v := .bool (!d')) rfl (by kernel_rfl) (by kernel_rfl) (by kernel_rfl) (fun _ _ _ h => h) (Or.inl ⟨by rfl, fun w' hSw => by go_simp⟩) hHeld ?_
                    try simp only [Act.put, List.getElem_toArray, List.getElem_cons_succ, List.getElem_cons_zero, List.setIfInBounds_toArray, List.set_cons_succ, List.set_cons_zero]
                    refine wpAnyH_done (by kernel_rfl) ?_ _
                    have E13 := E12.keep hHeld
                    clear hHeld E12
                    have tdd : ((!d') == d') = false := by cases d' <;> rfl
                    go_wp2
                    go_roundw
                    case rel => exact ⟨k + 1, r.L, xs.set wn sf, r.a, d', rfl, rfl, by go_num, by omega, by rw [List.map_set, HEP.out]; exact HEI.out, fun s hs => by
                        rcases List.mem_or_eq_of_mem_set hs with q | rfl
                        · exact HEE.out s q
                        · exact HES.out, E13⟩
                    case measure => simp [intOf]; omega
                · obtain ⟨hwy, hl, rfl, rfl, rfl⟩ := hcase
                  have t43 : (s0.p.ln == 43) = false := by simp [hl]
                  have t42 : (s0.p.ln == 42) = true := by simp [hl]
                  have t25 : (s0.p.ln == 25) = false := by simp [hl]
                  have t41 : (s0.p.ln == 41) = false := by simp [hl]
                  clear hl
                  go_wp2_with (first | (refine wpList_load_mid rfl 46 _ rfl ga (wn * 33) rfl (wc s0).toList _ (by exact HRG) Try.underlying46 rfl (by kernel_rfl) ?_))
                  refine HS.out.mono ?_
                  rintro e u9 ⟨s2, rfl, A9, M9, T9⟩
                  obtain ⟨hem, hp2⟩ := Ems.of A9
                  have E9 := E7.touch M9 T9
                  have Z10 := Bk.new u9 (wc wz) 46
                  have Y10 := boxed_bk u9 s2
                  have bb10 := boxed_below u9 s2
                  have E10 := E9.keep bb10
                  have lga : ga < u9.heap.size := E9.A.lt
                  obtain ⟨w10, hw10⟩ : ∃ u, u = (u9.alloc (.cells (wc wz) 46)).setRow u9.heap.size (wc s2) := ⟨_, rfl⟩
                  rw [← hw10] at Y10 E10
                  have HW10 := Lib.hid hw10
                  clear hw10 bb10 A9 M9 T9 E9 HS E7 hcl HRG t0
                  obtain ⟨sf, hsf⟩ : ∃ t : Wk, t = ({ s2 with p := { s2.p with ln := 43 } } : Wk) := ⟨_, rfl⟩
                  have c10 : w10.cell? ⟨u9.heap.size, 0, none⟩ = some (.int .i64 s2.p.ln) := Y10.cells 0
                  have f10 : w10.frozen? ⟨u9.heap.size, 0, none⟩ = false := Y10.frozen 0
                  have E11 := E10.far lga 0 (.int .i64 43)
                  have Y11 : Bk (w10.setCell ⟨u9.heap.size, 0, none⟩ (.int .i64 43)) u9.heap.size (wc sf) 46 := by rw [hsf]; exact Y10.setCell 0 (.int .i64 43)
                  obtain ⟨w11, hw11⟩ : ∃ u, u = w10.setCell ⟨u9.heap.size, 0, none⟩ (.int .i64 43) := ⟨_, rfl⟩
                  rw [← hw11] at E11 Y11
                  have HW11 := Lib.hid hw11
                  clear hw11 E10 Y10
                  have E12 := E11.setA (wcs (xs.set wn sf))
                  have EA := E11.A
                  obtain ⟨w12, hw12⟩ : ∃ u, u = w11.setRow ga (wcs (xs.set wn sf)) := ⟨_, rfl⟩
                  rw [← hw12] at E12
                  have HW12 := Lib.hid hw12
                  have hES : Ems sf := by rw [hsf]; exact hem.plain _
                  have hEP : (sf).p = ({ r.p with ln := 43 } : Pl) := by rw [hsf, hp2]
                  have HES := Lib.hid hES
                  have HEP := Lib.hid hEP
                  clear hw12 E11 hES hEP hem hsf hp2
                  go_wp2_with (first | ((with_reducible refine wpList_alloc_wz rfl rfl ?_)) | (refine wpList_store_row rfl 46 _ _ rfl (u9.heap.size) (wc s2) rfl rfl _ _ (by exact Z10) (by kernel_rfl) (by kernel_rfl) (by kernel_rfl) ?_; rw [← HW10.out]; clear HW10 Z10) | (rw [← HW11.out]; clear HW11 c10 f10) | (refine wpList_load_row rfl 46 _ rfl (u9.heap.size) rfl _ (wc sf) (0, 0) _ (by exact Y11) Try.underlying46 rfl (by kernel_rfl) ?_) | ((with_reducible refine Sub.wpList_store_sub rfl 46 _ _ rfl ga (wn * 33) (wc sf) ?_ ?_ 46 (wcs xs) (wcs (xs.set wn sf)) ?_ ?_ ?_ ?_ ?_ ?_); exact rfl; exact rfl; exact EA; kernel_rfl; exact HROW.out; kernel_rfl; exact wcs_set hx0 sf; rw [← HW12.out]; clear HW12 EA))
                  have hS0 : Below w12.heap.size w12 w12.drew := Below.drew (Below.refl _ _)
                  refine wp_region_held_drew (S := fun w' => Below w12.heap.size w12 w') (by kernel_rfl) hS0 (fun hHeld => ?_)
                  clear hS0
                  generalize w12.drew = z0 at *
                  refine wpAnyH_take (i := 0) (oi := _) (v := cv (cEk N la)) rfl (by kernel_rfl) (by kernel_rfl) (by kernel_rfl) (fun _ _ _ h => h) (Or.inl ⟨by rfl, fun w' hSw => by have xx := (E12.C.keep hSw).cells; go_simp⟩) hHeld ?_
                  try simp only [Act.put, List.getElem_toArray, List.getElem_cons_succ, List.getElem_cons_zero, List.setIfInBounds_toArray, List.set_cons_succ, List.set_cons_zero]
                  refine wpAnyH_take (i := 1) (oi := _) (v := .pointer (some ⟨g, 0, none⟩)) rfl (by kernel_rfl) (by kernel_rfl) (by kernel_rfl) (fun _ _ _ h => h) (Or.inl ⟨by rfl, fun w' hSw => by go_simp⟩) hHeld ?_
                  try simp only [Act.put, List.getElem_toArray, List.getElem_cons_succ, List.getElem_cons_zero, List.setIfInBounds_toArray, List.set_cons_succ, List.set_cons_zero]
                  refine wpAnyH_take (i := 3) (oi := _) (v := .int .u64 65537) rfl (by kernel_rfl) (by kernel_rfl) (by kernel_rfl) (fun _ _ _ h => h) (Or.inl ⟨by rfl, fun w' hSw => by go_simp⟩) hHeld ?_
                  try simp only [Act.put, List.getElem_toArray, List.getElem_cons_succ, List.getElem_cons_zero, List.setIfInBounds_toArray, List.set_cons_succ, List.set_cons_zero]
                  refine wpAnyH_ready (rs := [2]) (by kernel_rfl) (by simp) ?_
                  refine AllReadyH.cons (o := _) rfl (fun K hK => ?_) AllReadyH.nil
                  go_simp
                  refine (all_in (E12.M.keep hHeld) HM.out).mono ?_
                  rintro e z1 ⟨ya, rfl, hya, hb⟩
                  have hHeld' := hHeld.trans (hb.mono hHeld.size)
                  refine hK.out _ _ hHeld' (fun hHeld => ?_)
                  clear hK K hHeld'
                  try simp only [Act.put, List.getElem_toArray, List.getElem_cons_succ, List.getElem_cons_zero, List.setIfInBounds_toArray, List.set_cons_succ, List.set_cons_zero]
                  have rd1 := Reads.of_own hya rfl
                  clear hb hya
                  have HIN := Lib.hid (HLV.out _ _ rd1)
                  clear rd1
                  refine wpAnyH_ready (rs := [4]) (by kernel_rfl) (by simp) ?_
                  refine AllReadyH.cons (o := _) rfl (fun K hK => ?_) AllReadyH.nil
                  go_simp
                  refine (HIN.out).mono ?_
                  rintro e z2 ⟨rfl, hb⟩
                  have hHeld' := hHeld.trans (hb.mono hHeld.size)
                  refine hK.out _ _ hHeld' (fun hHeld => ?_)
                  clear hK K hHeld' HIN
                  try simp only [Act.put, List.getElem_toArray, List.getElem_cons_succ, List.getElem_cons_zero, List.setIfInBounds_toArray, List.set_cons_succ, List.set_cons_zero]
                  clear hb
                  refine wpAnyH_take (i := 5) (oi := _) (v := .tuple #[.int .i64 I, .bool (!false)]) rfl (by kernel_rfl) (by kernel_rfl) (by kernel_rfl) (fun _ _ _ h => h) (Or.inl ⟨by rfl, fun w' hSw => by go_simp⟩) hHeld ?_
                  try simp only [Act.put, List.getElem_toArray, List.getElem_cons_succ, List.getElem_cons_zero, List.setIfInBounds_toArray, List.set_cons_succ, List.set_cons_zero]
                  refine wpAnyH_take (i := 6) (oi := _) (v := .int .i64 I) rfl (by kernel_rfl) (by kernel_rfl) (by kernel_rfl) (fun _ _ _ h => h) (Or.inl ⟨by rfl, fun w' hSw => by go_simp⟩) hHeld ?_
                  try simp only [Act.put, List.getElem_toArray, List.getElem_cons_succ, List.getElem_cons_zero, List.setIfInBounds_toArray, List.set_cons_succ, List.set_cons_zero]
                  refine wpAnyH_take (i := 7) (oi := _) (v := .bool (!false)) rfl (by kernel_rfl) (by kernel_rfl) (by kernel_rfl) (fun _ _ _ h => h) (Or.inl ⟨by rfl, fun w' hSw => by go_simp⟩) hHeld ?_
                  try simp only [Act.put, List.getElem_toArray, List.getElem_cons_succ, List.getElem_cons_zero, List.setIfInBounds_toArray, List.set_cons_succ, List.set_cons_zero]
                  refine wpAnyH_take (i := 8) (oi := _) (v := .int .i64 I) rfl (by kernel_rfl) (by kernel_rfl) (by kernel_rfl) (fun _ _ _ h => h) (Or.inl ⟨by rfl, fun w' hSw => by go_simp⟩) hHeld ?_
                  try simp only [Act.put, List.getElem_toArray, List.getElem_cons_succ, List.getElem_cons_zero, List.setIfInBounds_toArray, List.set_cons_succ, List.set_cons_zero]
                  refine wpAnyH_take (i := 9) (oi := _) (v := .bool (!false)) rfl (by kernel_rfl) (by kernel_rfl) (by kernel_rfl) (fun _ _ _ h => h) (Or.inl ⟨by rfl, fun w' hSw => by go_simp⟩) hHeld ?_
                  try simp only [Act.put, List.getElem_toArray, List.getElem_cons_succ, List.getElem_cons_zero, List.setIfInBounds_toArray, List.set_cons_succ, List.set_cons_zero]
                  refine wpAnyH_done (by kernel_rfl) ?_ _
                  have E13 := E12.keep hHeld
                  clear hHeld E12
                  go_wp2
                  go_roundw
                  case rel => exact ⟨k + 1, r.L, xs.set wn sf, r.a, false, rfl, rfl, by go_num, by omega, by rw [List.map_set, HEP.out]; exact HEI.out, fun s hs => by
                      rcases List.mem_or_eq_of_mem_set hs with q | rfl
                      · exact HEE.out s q
                      · exact HES.out, E13⟩
                  case measure => simp [intOf]; omega
                · obtain ⟨hwy, hl, rfl, rfl, hi, rfl⟩ := hcase
                  have t43 : (s0.p.ln == 43) = true := by simp [hl]
                  have t42 : (s0.p.ln == 42) = false := by simp [hl]
                  have t25 : (s0.p.ln == 25) = false := by simp [hl]
                  have t41 : (s0.p.ln == 41) = false := by simp [hl]
                  clear hl
                  have hg0 : ekG false = 0 := rfl
                  have hw1 : wrap64 1 = 1 := by unfold wrap64; omega
                  go_wp2_with (first | (refine wpList_load_mid rfl 46 _ rfl ga (wn * 33) rfl (wc s0).toList _ (by exact HRG) Try.underlying46 rfl (by kernel_rfl) ?_))
                  refine HS.out.mono ?_
                  rintro e u9 ⟨s2, rfl, A9, M9, T9⟩
                  obtain ⟨hem, hp2⟩ := Ems.of A9
                  have E9 := E7.touch M9 T9
                  have Z10 := Bk.new u9 (wc wz) 46
                  have Y10 := boxed_bk u9 s2
                  have bb10 := boxed_below u9 s2
                  have E10 := E9.keep bb10
                  have lga : ga < u9.heap.size := E9.A.lt
                  obtain ⟨w10, hw10⟩ : ∃ u, u = (u9.alloc (.cells (wc wz) 46)).setRow u9.heap.size (wc s2) := ⟨_, rfl⟩
                  rw [← hw10] at Y10 E10
                  have HW10 := Lib.hid hw10
                  clear hw10 bb10 A9 M9 T9 E9 HS E7 hcl HRG t0
                  have gi : 0 < s2.p.i := by rw [hp2]; exact hi
                  have hgi : decide (0 < s2.p.i) = true := by simp [gi]
                  have c20 : w10.cell? ⟨u9.heap.size, 20, none⟩ = some (.int .i64 s2.p.i) := Y10.cells 20
                  obtain ⟨sf, hsf⟩ : ∃ t : Wk, t = ({ s2 with p := { s2.p with ln := 23 } } : Wk) := ⟨_, rfl⟩
                  have c10 : w10.cell? ⟨u9.heap.size, 0, none⟩ = some (.int .i64 s2.p.ln) := Y10.cells 0
                  have f10 : w10.frozen? ⟨u9.heap.size, 0, none⟩ = false := Y10.frozen 0
                  have E11 := E10.far lga 0 (.int .i64 23)
                  have Y11 : Bk (w10.setCell ⟨u9.heap.size, 0, none⟩ (.int .i64 23)) u9.heap.size (wc sf) 46 := by rw [hsf]; exact Y10.setCell 0 (.int .i64 23)
                  obtain ⟨w11, hw11⟩ : ∃ u, u = w10.setCell ⟨u9.heap.size, 0, none⟩ (.int .i64 23) := ⟨_, rfl⟩
                  rw [← hw11] at E11 Y11
                  have HW11 := Lib.hid hw11
                  clear hw11 E10 Y10
                  have E12 := E11.setA (wcs (xs.set wn sf))
                  have EA := E11.A
                  obtain ⟨w12, hw12⟩ : ∃ u, u = w11.setRow ga (wcs (xs.set wn sf)) := ⟨_, rfl⟩
                  rw [← hw12] at E12
                  have HW12 := Lib.hid hw12
                  have hES : Ems sf := by rw [hsf]; exact hem.plain _
                  have hEP : (sf).p = ({ r.p with ln := 23 } : Pl) := by rw [hsf, hp2]
                  have HES := Lib.hid hES
                  have HEP := Lib.hid hEP
                  clear hw12 E11 hES hEP hem hsf hp2
                  go_wp2_with (first | ((with_reducible refine wpList_alloc_wz rfl rfl ?_)) | (refine wpList_store_row rfl 46 _ _ rfl (u9.heap.size) (wc s2) rfl rfl _ _ (by exact Z10) (by kernel_rfl) (by kernel_rfl) (by kernel_rfl) ?_; rw [← HW10.out]; clear HW10 Z10) | (rw [← HW11.out]; clear HW11 c10 f10) | (refine wpList_load_row rfl 46 _ rfl (u9.heap.size) rfl _ (wc sf) (0, 0) _ (by exact Y11) Try.underlying46 rfl (by kernel_rfl) ?_) | ((with_reducible refine Sub.wpList_store_sub rfl 46 _ _ rfl ga (wn * 33) (wc sf) ?_ ?_ 46 (wcs xs) (wcs (xs.set wn sf)) ?_ ?_ ?_ ?_ ?_ ?_); exact rfl; exact rfl; exact EA; kernel_rfl; exact HROW.out; kernel_rfl; exact wcs_set hx0 sf; rw [← HW12.out]; clear HW12 EA))
                  have hS0 : Below w12.heap.size w12 w12.drew := Below.drew (Below.refl _ _)
                  refine wp_region_held_drew (S := fun w' => Below w12.heap.size w12 w') (by kernel_rfl) hS0 (fun hHeld => ?_)
                  clear hS0
                  generalize w12.drew = z0 at *
                  refine wpAnyH_take (i := 0) (oi := _) (v := cv (cEk N la)) rfl (by kernel_rfl) (by kernel_rfl) (by kernel_rfl) (fun _ _ _ h => h) (Or.inl ⟨by rfl, fun w' hSw => by have xx := (E12.C.keep hSw).cells; go_simp⟩) hHeld ?_
                  try simp only [Act.put, List.getElem_toArray, List.getElem_cons_succ, List.getElem_cons_zero, List.setIfInBounds_toArray, List.set_cons_succ, List.set_cons_zero]
                  refine wpAnyH_take (i := 1) (oi := _) (v := .pointer (some ⟨g, 0, none⟩)) rfl (by kernel_rfl) (by kernel_rfl) (by kernel_rfl) (fun _ _ _ h => h) (Or.inl ⟨by rfl, fun w' hSw => by go_simp⟩) hHeld ?_
                  try simp only [Act.put, List.getElem_toArray, List.getElem_cons_succ, List.getElem_cons_zero, List.setIfInBounds_toArray, List.set_cons_succ, List.set_cons_zero]
                  refine wpAnyH_take (i := 3) (oi := _) (v := .int .u64 65537) rfl (by kernel_rfl) (by kernel_rfl) (by kernel_rfl) (fun _ _ _ h => h) (Or.inl ⟨by rfl, fun w' hSw => by go_simp⟩) hHeld ?_
                  try simp only [Act.put, List.getElem_toArray, List.getElem_cons_succ, List.getElem_cons_zero, List.setIfInBounds_toArray, List.set_cons_succ, List.set_cons_zero]
                  refine wpAnyH_ready (rs := [2]) (by kernel_rfl) (by simp) ?_
                  refine AllReadyH.cons (o := _) rfl (fun K hK => ?_) AllReadyH.nil
                  go_simp
                  refine (all_in (E12.M.keep hHeld) HM.out).mono ?_
                  rintro e z1 ⟨ya, rfl, hya, hb⟩
                  have hHeld' := hHeld.trans (hb.mono hHeld.size)
                  refine hK.out _ _ hHeld' (fun hHeld => ?_)
                  clear hK K hHeld'
                  try simp only [Act.put, List.getElem_toArray, List.getElem_cons_succ, List.getElem_cons_zero, List.setIfInBounds_toArray, List.set_cons_succ, List.set_cons_zero]
                  have rd1 := Reads.of_own hya rfl
                  clear hb hya
                  have HIN := Lib.hid (HLV.out _ _ rd1)
                  clear rd1
                  refine wpAnyH_ready (rs := [4]) (by kernel_rfl) (by simp) ?_
                  refine AllReadyH.cons (o := _) rfl (fun K hK => ?_) AllReadyH.nil
                  go_simp
                  refine (HIN.out).mono ?_
                  rintro e z2 ⟨rfl, hb⟩
                  have hHeld' := hHeld.trans (hb.mono hHeld.size)
                  refine hK.out _ _ hHeld' (fun hHeld => ?_)
                  clear hK K hHeld' HIN
                  try simp only [Act.put, List.getElem_toArray, List.getElem_cons_succ, List.getElem_cons_zero, List.setIfInBounds_toArray, List.set_cons_succ, List.set_cons_zero]
                  clear hb
                  refine wpAnyH_take (i := 5) (oi := _) (v := .tuple #[.int .i64 I, .bool (!true)]) rfl (by kernel_rfl) (by kernel_rfl) (by kernel_rfl) (fun _ _ _ h => h) (Or.inl ⟨by rfl, fun w' hSw => by go_simp⟩) hHeld ?_
                  try simp only [Act.put, List.getElem_toArray, List.getElem_cons_succ, List.getElem_cons_zero, List.setIfInBounds_toArray, List.set_cons_succ, List.set_cons_zero]
                  refine wpAnyH_take (i := 6) (oi := _) (v := .int .i64 I) rfl (by kernel_rfl) (by kernel_rfl) (by kernel_rfl) (fun _ _ _ h => h) (Or.inl ⟨by rfl, fun w' hSw => by go_simp⟩) hHeld ?_
                  try simp only [Act.put, List.getElem_toArray, List.getElem_cons_succ, List.getElem_cons_zero, List.setIfInBounds_toArray, List.set_cons_succ, List.set_cons_zero]
                  refine wpAnyH_take (i := 7) (oi := _) (v := .bool (!true)) rfl (by kernel_rfl) (by kernel_rfl) (by kernel_rfl) (fun _ _ _ h => h) (Or.inl ⟨by rfl, fun w' hSw => by go_simp⟩) hHeld ?_
                  try simp only [Act.put, List.getElem_toArray, List.getElem_cons_succ, List.getElem_cons_zero, List.setIfInBounds_toArray, List.set_cons_succ, List.set_cons_zero]
                  refine wpAnyH_take (i := 8) (oi := _) (v := .int .i64 I) rfl (by kernel_rfl) (by kernel_rfl) (by kernel_rfl) (fun _ _ _ h => h) (Or.inl ⟨by rfl, fun w' hSw => by go_simp⟩) hHeld ?_
                  try simp only [Act.put, List.getElem_toArray, List.getElem_cons_succ, List.getElem_cons_zero, List.setIfInBounds_toArray, List.set_cons_succ, List.set_cons_zero]
                  refine wpAnyH_take (i := 9) (oi := _) (v := .bool (!true)) rfl (by kernel_rfl) (by kernel_rfl) (by kernel_rfl) (fun _ _ _ h => h) (Or.inl ⟨by rfl, fun w' hSw => by go_simp⟩) hHeld ?_
                  try simp only [Act.put, List.getElem_toArray, List.getElem_cons_succ, List.getElem_cons_zero, List.setIfInBounds_toArray, List.set_cons_succ, List.set_cons_zero]
                  refine wpAnyH_done (by kernel_rfl) ?_ _
                  have E13 := E12.keep hHeld
                  clear hHeld E12
                  go_wp2
                  go_roundw
                  case rel => exact ⟨k + 1, r.L, xs.set wn sf, r.a, true, rfl, rfl, by go_num, by omega, by rw [List.map_set, HEP.out]; exact HEI.out, fun s hs => by
                      rcases List.mem_or_eq_of_mem_set hs with q | rfl
                      · exact HEE.out s q
                      · exact HES.out, E13⟩
                  case measure => simp [intOf]; omega
                · obtain ⟨hwy, hl, rfl, rfl, hi, rfl⟩ := hcase
                  have t43 : (s0.p.ln == 43) = true := by simp [hl]
                  have t42 : (s0.p.ln == 42) = false := by simp [hl]
                  have t25 : (s0.p.ln == 25) = false := by simp [hl]
                  have t41 : (s0.p.ln == 41) = false := by simp [hl]
                  clear hl
                  have hg0 : ekG false = 0 := rfl
                  have hw1 : wrap64 1 = 1 := by unfold wrap64; omega
                  go_wp2_with (first | (refine wpList_load_mid rfl 46 _ rfl ga (wn * 33) rfl (wc s0).toList _ (by exact HRG) Try.underlying46 rfl (by kernel_rfl) ?_))
                  refine HS.out.mono ?_
                  rintro e u9 ⟨s2, rfl, A9, M9, T9⟩
                  obtain ⟨hem, hp2⟩ := Ems.of A9
                  have E9 := E7.touch M9 T9
                  have Z10 := Bk.new u9 (wc wz) 46
                  have Y10 := boxed_bk u9 s2
                  have bb10 := boxed_below u9 s2
                  have E10 := E9.keep bb10
                  have lga : ga < u9.heap.size := E9.A.lt
                  obtain ⟨w10, hw10⟩ : ∃ u, u = (u9.alloc (.cells (wc wz) 46)).setRow u9.heap.size (wc s2) := ⟨_, rfl⟩
                  rw [← hw10] at Y10 E10
                  have HW10 := Lib.hid hw10
                  clear hw10 bb10 A9 M9 T9 E9 HS E7 hcl HRG t0
                  have gi : ¬ 0 < s2.p.i := by rw [hp2]; omega
                  have hgi : decide (0 < s2.p.i) = false := by simp [gi]
                  have c20 : w10.cell? ⟨u9.heap.size, 20, none⟩ = some (.int .i64 s2.p.i) := Y10.cells 20
                  have E12 := E10.setA (wcs (xs.set wn s2))
                  have EA := E10.A
                  obtain ⟨w12, hw12⟩ : ∃ u, u = w10.setRow ga (wcs (xs.set wn s2)) := ⟨_, rfl⟩
                  rw [← hw12] at E12
                  have HW12 := Lib.hid hw12
                  have hES : Ems s2 := hem
                  have hEP : (s2).p = r.p := hp2
                  have HES := Lib.hid hES
                  have HEP := Lib.hid hEP
                  clear hw12 E10 hES hEP hem hp2
                  go_wp2_with (first | ((with_reducible refine wpList_alloc_wz rfl rfl ?_)) | (refine wpList_store_row rfl 46 _ _ rfl (u9.heap.size) (wc s2) rfl rfl _ _ (by exact Z10) (by kernel_rfl) (by kernel_rfl) (by kernel_rfl) ?_; rw [← HW10.out]; clear HW10 Z10) | (refine wpList_load_row rfl 46 _ rfl (u9.heap.size) rfl _ (wc s2) (0, 0) _ (by exact Y10) Try.underlying46 rfl (by kernel_rfl) ?_) | ((with_reducible refine Sub.wpList_store_sub rfl 46 _ _ rfl ga (wn * 33) (wc s2) ?_ ?_ 46 (wcs xs) (wcs (xs.set wn s2)) ?_ ?_ ?_ ?_ ?_ ?_); exact rfl; exact rfl; exact EA; kernel_rfl; exact HROW.out; kernel_rfl; exact wcs_set hx0 s2; rw [← HW12.out]; clear HW12 EA))
                  have hS0 : Below w12.heap.size w12 w12.drew := Below.drew (Below.refl _ _)
                  refine wp_region_held_drew (S := fun w' => Below w12.heap.size w12 w') (by kernel_rfl) hS0 (fun hHeld => ?_)
                  clear hS0
                  generalize w12.drew = z0 at *
                  refine wpAnyH_take (i := 0) (oi := _) (v := cv (cEk N la)) rfl (by kernel_rfl) (by kernel_rfl) (by kernel_rfl) (fun _ _ _ h => h) (Or.inl ⟨by rfl, fun w' hSw => by have xx := (E12.C.keep hSw).cells; go_simp⟩) hHeld ?_
                  try simp only [Act.put, List.getElem_toArray, List.getElem_cons_succ, List.getElem_cons_zero, List.setIfInBounds_toArray, List.set_cons_succ, List.set_cons_zero]
                  refine wpAnyH_take (i := 1) (oi := _) (v := .pointer (some ⟨g, 0, none⟩)) rfl (by kernel_rfl) (by kernel_rfl) (by kernel_rfl) (fun _ _ _ h => h) (Or.inl ⟨by rfl, fun w' hSw => by go_simp⟩) hHeld ?_
                  try simp only [Act.put, List.getElem_toArray, List.getElem_cons_succ, List.getElem_cons_zero, List.setIfInBounds_toArray, List.set_cons_succ, List.set_cons_zero]
                  refine wpAnyH_take (i := 3) (oi := _) (v := .int .u64 65537) rfl (by kernel_rfl) (by kernel_rfl) (by kernel_rfl) (fun _ _ _ h => h) (Or.inl ⟨by rfl, fun w' hSw => by go_simp⟩) hHeld ?_
                  try simp only [Act.put, List.getElem_toArray, List.getElem_cons_succ, List.getElem_cons_zero, List.setIfInBounds_toArray, List.set_cons_succ, List.set_cons_zero]
                  refine wpAnyH_ready (rs := [2]) (by kernel_rfl) (by simp) ?_
                  refine AllReadyH.cons (o := _) rfl (fun K hK => ?_) AllReadyH.nil
                  go_simp
                  refine (all_in (E12.M.keep hHeld) HM.out).mono ?_
                  rintro e z1 ⟨ya, rfl, hya, hb⟩
                  have hHeld' := hHeld.trans (hb.mono hHeld.size)
                  refine hK.out _ _ hHeld' (fun hHeld => ?_)
                  clear hK K hHeld'
                  try simp only [Act.put, List.getElem_toArray, List.getElem_cons_succ, List.getElem_cons_zero, List.setIfInBounds_toArray, List.set_cons_succ, List.set_cons_zero]
                  have rd1 := Reads.of_own hya rfl
                  clear hb hya
                  have HIN := Lib.hid (HLV.out _ _ rd1)
                  clear rd1
                  refine wpAnyH_ready (rs := [4]) (by kernel_rfl) (by simp) ?_
                  refine AllReadyH.cons (o := _) rfl (fun K hK => ?_) AllReadyH.nil
                  go_simp
                  refine (HIN.out).mono ?_
                  rintro e z2 ⟨rfl, hb⟩
                  have hHeld' := hHeld.trans (hb.mono hHeld.size)
                  refine hK.out _ _ hHeld' (fun hHeld => ?_)
                  clear hK K hHeld' HIN
                  try simp only [Act.put, List.getElem_toArray, List.getElem_cons_succ, List.getElem_cons_zero, List.setIfInBounds_toArray, List.set_cons_succ, List.set_cons_zero]
                  clear hb
                  refine wpAnyH_take (i := 5) (oi := _) (v := .tuple #[.int .i64 I, .bool (!true)]) rfl (by kernel_rfl) (by kernel_rfl) (by kernel_rfl) (fun _ _ _ h => h) (Or.inl ⟨by rfl, fun w' hSw => by go_simp⟩) hHeld ?_
                  try simp only [Act.put, List.getElem_toArray, List.getElem_cons_succ, List.getElem_cons_zero, List.setIfInBounds_toArray, List.set_cons_succ, List.set_cons_zero]
                  refine wpAnyH_take (i := 6) (oi := _) (v := .int .i64 I) rfl (by kernel_rfl) (by kernel_rfl) (by kernel_rfl) (fun _ _ _ h => h) (Or.inl ⟨by rfl, fun w' hSw => by go_simp⟩) hHeld ?_
                  try simp only [Act.put, List.getElem_toArray, List.getElem_cons_succ, List.getElem_cons_zero, List.setIfInBounds_toArray, List.set_cons_succ, List.set_cons_zero]
                  refine wpAnyH_take (i := 7) (oi := _) (v := .bool (!true)) rfl (by kernel_rfl) (by kernel_rfl) (by kernel_rfl) (fun _ _ _ h => h) (Or.inl ⟨by rfl, fun w' hSw => by go_simp⟩) hHeld ?_
                  try simp only [Act.put, List.getElem_toArray, List.getElem_cons_succ, List.getElem_cons_zero, List.setIfInBounds_toArray, List.set_cons_succ, List.set_cons_zero]
                  refine wpAnyH_take (i := 8) (oi := _) (v := .int .i64 I) rfl (by kernel_rfl) (by kernel_rfl) (by kernel_rfl) (fun _ _ _ h => h) (Or.inl ⟨by rfl, fun w' hSw => by go_simp⟩) hHeld ?_
                  try simp only [Act.put, List.getElem_toArray, List.getElem_cons_succ, List.getElem_cons_zero, List.setIfInBounds_toArray, List.set_cons_succ, List.set_cons_zero]
                  refine wpAnyH_take (i := 9) (oi := _) (v := .bool (!true)) rfl (by kernel_rfl) (by kernel_rfl) (by kernel_rfl) (fun _ _ _ h => h) (Or.inl ⟨by rfl, fun w' hSw => by go_simp⟩) hHeld ?_
                  try simp only [Act.put, List.getElem_toArray, List.getElem_cons_succ, List.getElem_cons_zero, List.setIfInBounds_toArray, List.set_cons_succ, List.set_cons_zero]
                  refine wpAnyH_done (by kernel_rfl) ?_ _
                  have E13 := E12.keep hHeld
                  clear hHeld E12
                  go_wp2
                  go_roundw
                  case rel => exact ⟨k + 1, r.L, xs.set wn s2, r.a, true, rfl, rfl, by go_num, by omega, by rw [List.map_set, HEP.out]; exact HEI.out, fun s hs => by
                      rcases List.mem_or_eq_of_mem_set hs with q | rfl
                      · exact HEE.out s q
                      · exact HES.out, E13⟩
                  case measure => simp [intOf]; omega
                · obtain ⟨hwy, hl, rfl, rfl⟩ := hcase
                  have t43 : (s0.p.ln == 43) = false := by simp [hl]
                  have t42 : (s0.p.ln == 42) = false := by simp [hl]
                  have t25 : (s0.p.ln == 25) = true := by simp [hl]
                  have t41 : (s0.p.ln == 41) = false := by simp [hl]
                  clear hl
                  have hgd : decide ((1 : Int) < ekG d') = false := by cases d' <;> rfl
                  go_wp2_with (first | (refine wpList_load_mid rfl 46 _ rfl ga (wn * 33) rfl (wc s0).toList _ (by exact HRG) Try.underlying46 rfl (by kernel_rfl) ?_))
                  refine HS.out.mono ?_
                  rintro e u9 ⟨s2, rfl, A9, M9, T9⟩
                  obtain ⟨hem, hp2⟩ := Ems.of A9
                  have E9 := E7.touch M9 T9
                  have Z10 := Bk.new u9 (wc wz) 46
                  have Y10 := boxed_bk u9 s2
                  have bb10 := boxed_below u9 s2
                  have E10 := E9.keep bb10
                  have lga : ga < u9.heap.size := E9.A.lt
                  obtain ⟨w10, hw10⟩ : ∃ u, u = (u9.alloc (.cells (wc wz) 46)).setRow u9.heap.size (wc s2) := ⟨_, rfl⟩
                  rw [← hw10] at Y10 E10
                  have HW10 := Lib.hid hw10
                  clear hw10 bb10 A9 M9 T9 E9 HS E7 hcl HRG t0
                  obtain ⟨sf, hsf⟩ : ∃ t : Wk, t = ({ wz with p := { pz with ln := 20, b := 3, t := 65537 } } : Wk) := ⟨_, rfl⟩
                  have E11 := E10.farRow lga (wc ({ wz with p := { pz with ln := 20, b := 3, t := 65537 } } : Wk))
                  have Y11 : Bk (w10.setRow u9.heap.size (wc ({ wz with p := { pz with ln := 20, b := 3, t := 65537 } } : Wk))) u9.heap.size (wc sf) 46 := by rw [hsf]; exact Y10.setRow (wc ({ wz with p := { pz with ln := 20, b := 3, t := 65537 } } : Wk))
                  obtain ⟨w11, hw11⟩ : ∃ u, u = w10.setRow u9.heap.size (wc ({ wz with p := { pz with ln := 20, b := 3, t := 65537 } } : Wk)) := ⟨_, rfl⟩
                  rw [← hw11] at E11 Y11
                  have HW11 := Lib.hid hw11
                  clear hw11 E10
                  have E12 := E11.setA (wcs (xs.set wn sf))
                  have EA := E11.A
                  obtain ⟨w12, hw12⟩ : ∃ u, u = w11.setRow ga (wcs (xs.set wn sf)) := ⟨_, rfl⟩
                  rw [← hw12] at E12
                  have HW12 := Lib.hid hw12
                  have hES : Ems sf := by rw [hsf]; exact ems_z _
                  have hEP : (sf).p = ({ pz with ln := 20, b := 3, t := 65537 } : Pl) := by rw [hsf]
                  have HES := Lib.hid hES
                  have HEP := Lib.hid hEP
                  clear hw12 E11 hES hEP hem hsf hp2
                  go_wp2_with (first | ((with_reducible refine wpList_alloc_wz rfl rfl ?_)) | (refine wpList_store_row rfl 46 _ _ rfl (u9.heap.size) (wc s2) rfl rfl _ _ (by exact Z10) (by kernel_rfl) (by kernel_rfl) (by kernel_rfl) ?_; rw [← HW10.out]; clear HW10 Z10) | (refine wpList_store_row rfl 46 _ _ rfl (u9.heap.size) (wc ({ wz with p := { pz with ln := 20, b := 3, t := 65537 } } : Wk)) rfl rfl _ _ (by exact Y10) (by kernel_rfl) (by kernel_rfl) (by kernel_rfl) ?_; rw [← HW11.out]; clear HW11 Y10) | (refine wpList_load_row rfl 46 _ rfl (u9.heap.size) rfl _ (wc sf) (0, 0) _ (by exact Y11) Try.underlying46 rfl (by kernel_rfl) ?_) | ((with_reducible refine Sub.wpList_store_sub rfl 46 _ _ rfl ga (wn * 33) (wc sf) ?_ ?_ 46 (wcs xs) (wcs (xs.set wn sf)) ?_ ?_ ?_ ?_ ?_ ?_); exact rfl; exact rfl; exact EA; kernel_rfl; exact HROW.out; kernel_rfl; exact wcs_set hx0 sf; rw [← HW12.out]; clear HW12 EA))
                  have hS0 : Below w12.heap.size w12 w12.drew := Below.drew (Below.refl _ _)
                  refine wp_region_held_drew (S := fun w' => Below w12.heap.size w12 w') (by kernel_rfl) hS0 (fun hHeld => ?_)
                  clear hS0
                  generalize w12.drew = z0 at *
                  refine wpAnyH_take (i := 0) (oi := _) (v := cv (cEk N la)) rfl (by kernel_rfl) (by kernel_rfl) (by kernel_rfl) (fun _ _ _ h => h) (Or.inl ⟨by rfl, fun w' hSw => by have xx := (E12.C.keep hSw).cells; go_simp⟩) hHeld ?_
                  try simp only [Act.put, List.getElem_toArray, List.getElem_cons_succ, List.getElem_cons_zero, List.setIfInBounds_toArray, List.set_cons_succ, List.set_cons_zero]
                  refine wpAnyH_take (i := 1) (oi := _) (v := .pointer (some ⟨g, 0, none⟩)) rfl (by kernel_rfl) (by kernel_rfl) (by kernel_rfl) (fun _ _ _ h => h) (Or.inl ⟨by rfl, fun w' hSw => by go_simp⟩) hHeld ?_
                  try simp only [Act.put, List.getElem_toArray, List.getElem_cons_succ, List.getElem_cons_zero, List.setIfInBounds_toArray, List.set_cons_succ, List.set_cons_zero]
                  refine wpAnyH_take (i := 3) (oi := _) (v := .int .u64 65537) rfl (by kernel_rfl) (by kernel_rfl) (by kernel_rfl) (fun _ _ _ h => h) (Or.inl ⟨by rfl, fun w' hSw => by go_simp⟩) hHeld ?_
                  try simp only [Act.put, List.getElem_toArray, List.getElem_cons_succ, List.getElem_cons_zero, List.setIfInBounds_toArray, List.set_cons_succ, List.set_cons_zero]
                  refine wpAnyH_ready (rs := [2]) (by kernel_rfl) (by simp) ?_
                  refine AllReadyH.cons (o := _) rfl (fun K hK => ?_) AllReadyH.nil
                  go_simp
                  refine (all_in (E12.M.keep hHeld) HM.out).mono ?_
                  rintro e z1 ⟨ya, rfl, hya, hb⟩
                  have hHeld' := hHeld.trans (hb.mono hHeld.size)
                  refine hK.out _ _ hHeld' (fun hHeld => ?_)
                  clear hK K hHeld'
                  try simp only [Act.put, List.getElem_toArray, List.getElem_cons_succ, List.getElem_cons_zero, List.setIfInBounds_toArray, List.set_cons_succ, List.set_cons_zero]
                  have rd1 := Reads.of_own hya rfl
                  clear hb hya
                  have HIN := Lib.hid (HLV.out _ _ rd1)
                  clear rd1
                  refine wpAnyH_ready (rs := [4]) (by kernel_rfl) (by simp) ?_
                  refine AllReadyH.cons (o := _) rfl (fun K hK => ?_) AllReadyH.nil
                  go_simp
                  refine (HIN.out).mono ?_
                  rintro e z2 ⟨rfl, hb⟩
                  have hHeld' := hHeld.trans (hb.mono hHeld.size)
                  refine hK.out _ _ hHeld' (fun hHeld => ?_)
                  clear hK K hHeld' HIN
                  try simp only [Act.put, List.getElem_toArray, List.getElem_cons_succ, List.getElem_cons_zero, List.setIfInBounds_toArray, List.set_cons_succ, List.set_cons_zero]
                  clear hb
                  refine wpAnyH_take (i := 5) (oi := _) (v := .tuple #[.int .i64 I, .bool (!d')]) rfl (by kernel_rfl) (by kernel_rfl) (by kernel_rfl) (fun _ _ _ h => h) (Or.inl ⟨by rfl, fun w' hSw => by go_simp⟩) hHeld ?_
                  try simp only [Act.put, List.getElem_toArray, List.getElem_cons_succ, List.getElem_cons_zero, List.setIfInBounds_toArray, List.set_cons_succ, List.set_cons_zero]
                  refine wpAnyH_take (i := 6) (oi := _) (v := .int .i64 I) rfl (by kernel_rfl) (by kernel_rfl) (by kernel_rfl) (fun _ _ _ h => h) (Or.inl ⟨by rfl, fun w' hSw => by go_simp⟩) hHeld ?_
                  try simp only [Act.put, List.getElem_toArray, List.getElem_cons_succ, List.getElem_cons_zero, List.setIfInBounds_toArray, List.set_cons_succ, List.set_cons_zero]
                  refine wpAnyH_take (i := 7) (oi := _) (v := .bool (!d')) rfl (by kernel_rfl) (by kernel_rfl) (by kernel_rfl) (fun _ _ _ h => h) (Or.inl ⟨by rfl, fun w' hSw => by go_simp⟩) hHeld ?_
                  try simp only [Act.put, List.getElem_toArray, List.getElem_cons_succ, List.getElem_cons_zero, List.setIfInBounds_toArray, List.set_cons_succ, List.set_cons_zero]
                  refine wpAnyH_take (i := 8) (oi := _) (v := .int .i64 I) rfl (by kernel_rfl) (by kernel_rfl) (by kernel_rfl) (fun _ _ _ h => h) (Or.inl ⟨by rfl, fun w' hSw => by go_simp⟩) hHeld ?_
                  try simp only [Act.put, List.getElem_toArray, List.getElem_cons_succ, List.getElem_cons_zero, List.setIfInBounds_toArray, List.set_cons_succ, List.set_cons_zero]
                  refine wpAnyH_take (i := 9) (oi := _) (v := .bool (!d')) rfl (by kernel_rfl) (by kernel_rfl) (by kernel_rfl) (fun _ _ _ h => h) (Or.inl ⟨by rfl, fun w' hSw => by go_simp⟩) hHeld ?_
                  try simp only [Act.put, List.getElem_toArray, List.getElem_cons_succ, List.getElem_cons_zero, List.setIfInBounds_toArray, List.set_cons_succ, List.set_cons_zero]
                  refine wpAnyH_done (by kernel_rfl) ?_ _
                  have E13 := E12.keep hHeld
                  clear hHeld E12
                  have tdd : ((!d') == d') = false := by cases d' <;> rfl
                  go_wp2
                  go_roundw
                  case rel => exact ⟨k + 1, r.L, xs.set wn sf, r.a, d', rfl, rfl, by go_num, by omega, by rw [List.map_set, HEP.out]; exact HEI.out, fun s hs => by
                      rcases List.mem_or_eq_of_mem_set hs with q | rfl
                      · exact HEE.out s q
                      · exact HES.out, E13⟩
                  case measure => simp [intOf]; omega
                · obtain ⟨hwy, hl, hnt, rfl, rfl⟩ := hcase
                  have t43 : (s0.p.ln == 43) = false := by simp [hl]
                  have t42 : (s0.p.ln == 42) = false := by simp [hl]
                  have t25 : (s0.p.ln == 25) = false := by simp [hl]
                  have t41 : (s0.p.ln == 41) = true := by simp [hl]
                  clear hl
                  have hgd : decide ((1 : Int) < ekG d') = false := by cases d' <;> rfl
                  go_wp2_with (first | (refine wpList_load_mid rfl 46 _ rfl ga (wn * 33) rfl (wc s0).toList _ (by exact HRG) Try.underlying46 rfl (by kernel_rfl) ?_))
                  refine HS.out.mono ?_
                  rintro e u9 ⟨s2, rfl, A9, M9, T9⟩
                  obtain ⟨hem, hp2⟩ := Ems.of A9
                  have E9 := E7.touch M9 T9
                  have Z10 := Bk.new u9 (wc wz) 46
                  have Y10 := boxed_bk u9 s2
                  have bb10 := boxed_below u9 s2
                  have E10 := E9.keep bb10
                  have lga : ga < u9.heap.size := E9.A.lt
                  obtain ⟨w10, hw10⟩ : ∃ u, u = (u9.alloc (.cells (wc wz) 46)).setRow u9.heap.size (wc s2) := ⟨_, rfl⟩
                  rw [← hw10] at Y10 E10
                  have HW10 := Lib.hid hw10
                  clear hw10 bb10 A9 M9 T9 E9 HS E7 hcl HRG t0
                  have ht : (s2.p.t == 65537) = false := by rw [hp2]; simp [hnt]
                  have c30 : w10.cell? ⟨u9.heap.size, 30, none⟩ = some (.int .u64 s2.p.t) := Y10.cells 30
                  obtain ⟨sf, hsf⟩ : ∃ t : Wk, t = ({ wz with p := pz } : Wk) := ⟨_, rfl⟩
                  have E11 := E10.farRow lga (wc ({ wz with p := pz } : Wk))
                  have Y11 : Bk (w10.setRow u9.heap.size (wc ({ wz with p := pz } : Wk))) u9.heap.size (wc sf) 46 := by rw [hsf]; exact Y10.setRow (wc ({ wz with p := pz } : Wk))
                  obtain ⟨w11, hw11⟩ : ∃ u, u = w10.setRow u9.heap.size (wc ({ wz with p := pz } : Wk)) := ⟨_, rfl⟩
                  rw [← hw11] at E11 Y11
                  have HW11 := Lib.hid hw11
                  clear hw11 E10
                  have E12 := E11.setA (wcs (xs.set wn sf))
                  have EA := E11.A
                  obtain ⟨w12, hw12⟩ : ∃ u, u = w11.setRow ga (wcs (xs.set wn sf)) := ⟨_, rfl⟩
                  rw [← hw12] at E12
                  have HW12 := Lib.hid hw12
                  have hES : Ems sf := by rw [hsf]; exact ems_z _
                  have hEP : (sf).p = pz := by rw [hsf]
                  have HES := Lib.hid hES
                  have HEP := Lib.hid hEP
                  clear hw12 E11 hES hEP hem hsf hp2
                  go_wp2_with (first | ((with_reducible refine wpList_alloc_wz rfl rfl ?_)) | (refine wpList_store_row rfl 46 _ _ rfl (u9.heap.size) (wc s2) rfl rfl _ _ (by exact Z10) (by kernel_rfl) (by kernel_rfl) (by kernel_rfl) ?_; rw [← HW10.out]; clear HW10 Z10) | (refine wpList_store_row rfl 46 _ _ rfl (u9.heap.size) (wc ({ wz with p := pz } : Wk)) rfl rfl _ _ (by exact Y10) (by kernel_rfl) (by kernel_rfl) (by kernel_rfl) ?_; rw [← HW11.out]; clear HW11 Y10) | (refine wpList_load_row rfl 46 _ rfl (u9.heap.size) rfl _ (wc sf) (0, 0) _ (by exact Y11) Try.underlying46 rfl (by kernel_rfl) ?_) | ((with_reducible refine Sub.wpList_store_sub rfl 46 _ _ rfl ga (wn * 33) (wc sf) ?_ ?_ 46 (wcs xs) (wcs (xs.set wn sf)) ?_ ?_ ?_ ?_ ?_ ?_); exact rfl; exact rfl; exact EA; kernel_rfl; exact HROW.out; kernel_rfl; exact wcs_set hx0 sf; rw [← HW12.out]; clear HW12 EA))
                  have hS0 : Below w12.heap.size w12 w12.drew := Below.drew (Below.refl _ _)
                  refine wp_region_held_drew (S := fun w' => Below w12.heap.size w12 w') (by kernel_rfl) hS0 (fun hHeld => ?_)
                  clear hS0
                  generalize w12.drew = z0 at *
                  refine wpAnyH_take (i := 0) (oi := _) (v := cv (cEk N la)) rfl (by kernel_rfl) (by kernel_rfl) (by kernel_rfl) (fun _ _ _ h => h) (Or.inl ⟨by rfl, fun w' hSw => by have xx := (E12.C.keep hSw).cells; go_simp⟩) hHeld ?_
                  try simp only [Act.put, List.getElem_toArray, List.getElem_cons_succ, List.getElem_cons_zero, List.setIfInBounds_toArray, List.set_cons_succ, List.set_cons_zero]
                  refine wpAnyH_take (i := 1) (oi := _) (v := .pointer (some ⟨g, 0, none⟩)) rfl (by kernel_rfl) (by kernel_rfl) (by kernel_rfl) (fun _ _ _ h => h) (Or.inl ⟨by rfl, fun w' hSw => by go_simp⟩) hHeld ?_
                  try simp only [Act.put, List.getElem_toArray, List.getElem_cons_succ, List.getElem_cons_zero, List.setIfInBounds_toArray, List.set_cons_succ, List.set_cons_zero]
                  refine wpAnyH_take (i := 3) (oi := _) (v := .int .u64 65537) rfl (by kernel_rfl) (by kernel_rfl) (by kernel_rfl) (fun _ _ _ h => h) (Or.inl ⟨by rfl, fun w' hSw => by go_simp⟩) hHeld ?_
                  try simp only [Act.put, List.getElem_toArray, List.getElem_cons_succ, List.getElem_cons_zero, List.setIfInBounds_toArray, List.set_cons_succ, List.set_cons_zero]
                  refine wpAnyH_ready (rs := [2]) (by kernel_rfl) (by simp) ?_
                  refine AllReadyH.cons (o := _) rfl (fun K hK => ?_) AllReadyH.nil
                  go_simp
                  refine (all_in (E12.M.keep hHeld) HM.out).mono ?_
                  rintro e z1 ⟨ya, rfl, hya, hb⟩
                  have hHeld' := hHeld.trans (hb.mono hHeld.size)
                  refine hK.out _ _ hHeld' (fun hHeld => ?_)
                  clear hK K hHeld'
                  try simp only [Act.put, List.getElem_toArray, List.getElem_cons_succ, List.getElem_cons_zero, List.setIfInBounds_toArray, List.set_cons_succ, List.set_cons_zero]
                  have rd1 := Reads.of_own hya rfl
                  clear hb hya
                  have HIN := Lib.hid (HLV.out _ _ rd1)
                  clear rd1
                  refine wpAnyH_ready (rs := [4]) (by kernel_rfl) (by simp) ?_
                  refine AllReadyH.cons (o := _) rfl (fun K hK => ?_) AllReadyH.nil
                  go_simp
                  refine (HIN.out).mono ?_
                  rintro e z2 ⟨rfl, hb⟩
                  have hHeld' := hHeld.trans (hb.mono hHeld.size)
                  refine hK.out _ _ hHeld' (fun hHeld => ?_)
                  clear hK K hHeld' HIN
                  try simp only [Act.put, List.getElem_toArray, List.getElem_cons_succ, List.getElem_cons_zero, List.setIfInBounds_toArray, List.set_cons_succ, List.set_cons_zero]
                  clear hb
                  refine wpAnyH_take (i := 5) (oi := _) (v := .tuple #[.int .i64 I, .bool (!d')]) rfl (by kernel_rfl) (by kernel_rfl) (by kernel_rfl) (fun _ _ _ h => h) (Or.inl ⟨by rfl, fun w' hSw => by go_simp⟩) hHeld ?_
                  try simp only [Act.put, List.getElem_toArray, List.getElem_cons_succ, List.getElem_cons_zero, List.setIfInBounds_toArray, List.set_cons_succ, List.set_cons_zero]
                  refine wpAnyH_take (i := 6) (oi := _) (v := .int .i64 I) rfl (by kernel_rfl) (by kernel_rfl) (by kernel_rfl) (fun _ _ _ h => h) (Or.inl ⟨by rfl, fun w' hSw => by go_simp⟩) hHeld ?_
                  try simp only [Act.put, List.getElem_toArray, List.getElem_cons_succ, List.getElem_cons_zero, List.setIfInBounds_toArray, List.set_cons_succ, List.set_cons_zero]
                  refine wpAnyH_take (i := 7) (oi := _) (v := .bool (!d')) rfl (by kernel_rfl) (by kernel_rfl) (by kernel_rfl) (fun _ _ _ h => h) (Or.inl ⟨by rfl, fun w' hSw => by go_simp⟩) hHeld ?_
                  try simp only [Act.put, List.getElem_toArray, List.getElem_cons_succ, List.getElem_cons_zero, List.setIfInBounds_toArray, List.set_cons_succ, List.set_cons_zero]
                  refine wpAnyH_take (i := 8) (oi := _) (v := .int .i64 I) rfl (by kernel_rfl) (by kernel_rfl) (by kernel_rfl) (fun _ _ _ h => h) (Or.inl ⟨by rfl, fun w' hSw => by go_simp⟩) hHeld ?_
                  try simp only [Act.put, List.getElem_toArray, List.getElem_cons_succ, List.getElem_cons_zero, List.setIfInBounds_toArray, List.set_cons_succ, List.set_cons_zero]
                  refine wpAnyH_take (i := 9) (oi := _) (v := .bool (!d')) rfl (by kernel_rfl) (by kernel_rfl) (by kernel_rfl) (fun _ _ _ h => h) (Or.inl ⟨by rfl, fun w' hSw => by go_simp⟩) hHeld ?_
                  try simp only [Act.put, List.getElem_toArray, List.getElem_cons_succ, List.getElem_cons_zero, List.setIfInBounds_toArray, List.set_cons_succ, List.set_cons_zero]
                  refine wpAnyH_done (by kernel_rfl) ?_ _
                  have E13 := E12.keep hHeld
                  clear hHeld E12
                  have tdd : ((!d') == d') = false := by cases d' <;> rfl
                  go_wp2
                  go_roundw
                  case rel => exact ⟨k + 1, r.L, xs.set wn sf, r.a, d', rfl, rfl, by go_num, by omega, by rw [List.map_set, HEP.out]; exact HEI.out, fun s hs => by
                      rcases List.mem_or_eq_of_mem_set hs with q | rfl
                      · exact HEE.out s q
                      · exact HES.out, E13⟩
                  case measure => simp [intOf]; omega
            · obtain rfl : pk.length = k := by omega
              have hdk : decide ((pk.length : Int) < (pk.length : Int)) = false := by simp
              go_wp2
              go_ret
              exact ⟨rfl, E.hb⟩
theorem entryKills (n0 n1 : Int) (hn0 : 0 ≤ n0 ∧ n0 < 256) (hn1 : 0 ≤ n1 ∧ n1 < 256) (v : Sl) (pk : List Int) (w : World) (hr : Reads w .u8 v.v pk) (hpk : ∀ x ∈ pk, 0 ≤ x ∧ x < 256) : Calls Try.prog 11 #[.int .u8 n0, .int .u8 n1, v.v] w fun e w' => e = .returned (.bool true) ∧ Below w.heap.size w w' := by
  have hl := reads_len hr
  have hle := reads_le hr
  obtain ⟨ad, n, cap⟩ := v
  simp only at hl hle
  unfold maxLen at hle
  by_cases hlong : 300 < n
  · exact ek_long n0 n1 hn0 hn1 ad n cap hlong (by omega) w
  · obtain ⟨ad', cap', e1, _, _, h4⟩ := hr
    simp only [Sl.v, Value.slice.injEq] at e1
    obtain ⟨rfl, e2, rfl⟩ := e1
    rcases h4 with h4 | ⟨b0, off, rfl, hb0, hc⟩
    · subst h4
      simp only [List.length_nil] at hl
      subst hl
      exact ek_nil n0 n1 hn0 hn1 ad cap w
    · subst hl
      exact ek_main n0 n1 hn0 hn1 b0 off cap pk hpk (by omega) w hb0 hc
end Go.Proofs.Ytblkfbbdeodpjaa.Me

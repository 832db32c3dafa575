/- The law PlanApart, walked: the addresses come in rising order without gaps, so after each put the count is 1 up to some address and 0 from there on. -/
import Derived.Test.YteppofpmbmmcaaaPlanPut
import Derived.Test.YteppofpmbmmcaaaRefHome
import Derived.RegionTactic
import Derived.BigRegion
namespace Go.Proofs.Yteppofpmbmmcaaa.Pl
open Go Go.RowKit Go.Proofs.Yteppofpmbmmcaaa.Gro Go.Proofs.Yteppofpmbmmcaaa.Own Go.Proofs.Yteppofpmbmmcaaa.Wd
set_option linter.unusedVariables false
set_option linter.unusedSimpArgs false

abbrev ccA (c : Cfg) : Array Value := #[.int .i64 c.ww, .int .i64 c.sl, .int .i64 c.bl, .int .i64 c.wd, .int .i64 c.en, .int .i64 c.rk, .int .i64 c.bg, .int .u64 c.la]
/-- m ones, then zeros, n in all. -/
def ones (n m : Nat) : List Int := List.replicate m 1 ++ List.replicate (n - m) 0
theorem ones_len {n m : Nat} (h : m ≤ n) : (ones n m).length = n := by simp [ones]; omega
theorem ones_at {n m : Nat} (h : m < n) : (ones n m)[m]? = some 0 := by
  rw [ones, List.getElem?_append_right (by simp), List.length_replicate, Nat.sub_self]
  rw [List.getElem?_replicate_of_lt (by omega)]
theorem ones_set {n m : Nat} (h : m < n) : (ones n m).set m 1 = ones n (m + 1) := by
  rw [ones, List.set_append_right _ _ (by simp)]
  obtain ⟨k, hk⟩ : ∃ k, n - m = k + 1 := ⟨n - m - 1, by omega⟩
  rw [ones, hk, show n - (m + 1) = k by omega]
  rw [List.length_replicate, Nat.sub_self, List.replicate_succ, List.set_cons_zero, List.replicate_succ', List.append_assoc]; rfl
theorem ones_full {n k : Nat} (h : k < n) : (ones n n)[k]? = some 1 := by
  simp [ones, h]
/-- The law's boxes, and the counts. -/
structure Pa (c : Cfg) (gc gp gn gt g n m : Nat) (w0 w : World) : Prop where
  C : Bk w gc (ccA c) 24
  P : Bk w gp (ccA c) 27
  N : Bk w gn #[.int .i64 n] 3
  T : Bk w gt #[.slice (some ⟨g, 0, none⟩) n n] 32
  A : Bk w g (iv .i64 (ones n m)) 3
  below : Below w0.heap.size w0 w
structure Geo (gc gp gn gt g : Nat) (w0 : World) : Prop where
  base : w0.heap.size ≤ g
  c : gc ≠ g
  p : gp ≠ g
  n : gn ≠ g
  t : gt ≠ g
theorem Pa.keep {c : Cfg} {gc gp gn gt g n m : Nat} {w0 w w' : World} (h : Pa c gc gp gn gt g n m w0 w) (hb : Below w.heap.size w w') : Pa c gc gp gn gt g n m w0 w' :=
  ⟨h.C.keep hb, h.P.keep hb, h.N.keep hb, h.T.keep hb, h.A.keep hb, h.below.trans (hb.mono h.below.size)⟩
theorem put_step {c : Cfg} {gc gp gn gt g n m : Nat} {w0 w : World} (G : Geo gc gp gn gt g w0) (h : Pa c gc gp gn gt g n m w0 w) (hm : m < n) (hn : n ≤ 400) :
    Calls Try.prog 15 #[.int .i64 (m : Int), .pointer (some ⟨gn, 0, none⟩), .pointer (some ⟨gt, 0, none⟩)] w fun e w' => e = .returned (.tuple #[]) ∧ Pa c gc gp gn gt g n (m + 1) w0 w' := by
  refine (put_in gn gt g (ones n m) n m hm (ones_len (by omega)) hn 0 (ones_at hm) (by decide) (by decide) w h.N h.T h.A).mono fun e w' ⟨he, hw⟩ => ⟨he, ?_⟩
  subst hw
  have A2 := h.A.setCell m (.int .i64 (0 + 1))
  rw [iv_set, show (0 : Int) + 1 = 1 from rfl, ones_set hm] at A2
  exact ⟨h.C.setCell_far (a := ⟨g, m, none⟩) G.c _, h.P.setCell_far (a := ⟨g, m, none⟩) G.p _, h.N.setCell_far (a := ⟨g, m, none⟩) G.n _, h.T.setCell_far (a := ⟨g, m, none⟩) G.t _, A2, h.below.setCell (p := ⟨g, m, none⟩) G.base _⟩
theorem info3 : ∃ i, Try.prog.info? 3 = some i ∧ i.zero = some (.int .i64 0) ∧ i.size = 1 ∧ i.bytes = 8 := by
  have h : (Try.prog.info? 3).map (fun i => (i.zero, i.size, i.bytes)) = some (some (.int .i64 0), 1, 8) := by kernel_rfl
  exact info_parts h
set_option maxHeartbeats 2000000 in
theorem planApart_ok (W S B D N T R : Nat) (rk bg la : Int) (h : Ok ⟨W, S, B, D, N, rk, bg, la⟩) (hf : (⟨W, S, B, D, N, rk, bg, la⟩ : Cfg).Wf) (hT : T = S * B) (hT20 : T ≤ 20) (hR : R = T * (1 + D)) (w : World) :
    Calls Try.prog 3 #[cv ⟨W, S, B, D, N, rk, bg, la⟩] w fun e w' => e = .returned (.bool true) ∧ Below w.heap.size w w' := by
  have hv := chk_ok.2 h
  have hn : nc ⟨W, S, B, D, N, rk, bg, la⟩ = ⟨W, S, B, D, N, rk, bg, la⟩ := by rw [nc, if_pos hv]
  have hp := newPlan ⟨W, S, B, D, N, rk, bg, la⟩ hf
  rw [hn, hv] at hp
  have HP := Lib.hid hp
  have hw1 := h.ww
  have hs1 := h.sl
  have he1 := h.en
  have hd1 := h.wd
  have hb1' := h.bl
  simp only at hw1 hs1 he1 hd1 hb1'
  have hTi : (S : Int) * (B : Int) = (T : Int) := by rw [hT, Int.natCast_mul]
  have hRi : (T : Int) * (1 + (D : Int)) = (R : Int) := by rw [hR, Int.natCast_mul]; congr 1
  have hR100 : R ≤ 100 := by rw [hR]; exact Nat.le_trans (Nat.mul_le_mul hT20 (show 1 + D ≤ 5 by omega)) (by decide)
  obtain ⟨n, hnn⟩ : ∃ n, n = 3 + W + S + 2 * N + R := ⟨_, rfl⟩
  have hsz : siz ⟨W, S, B, D, N, rk, bg, la⟩ = (n : Int) := by
    rw [siz, if_pos (okB_of_ok h)]
    simp only [hTi, hRi]; omega
  have htt : tot ⟨W, S, B, D, N, rk, bg, la⟩ = (T : Int) := by
    rw [tot, if_pos (okB_of_ok h)]; exact hTi
  have hS := size ⟨W, S, B, D, N, rk, bg, la⟩ hf
  rw [hsz] at hS
  have HS := Lib.hid hS
  have hTo := total ⟨W, S, B, D, N, rk, bg, la⟩ hf
  rw [htt] at hTo
  have HTo := Lib.hid hTo
  have HTT := Lib.hid htt
  have HTI := Lib.hid hTi
  have HRR := Lib.hid hR
  have HNN := Lib.hid hnn
  have hsb0 : 0 ≤ (S : Int) * (B : Int) := by omega
  have hsb1 : (S : Int) * (B : Int) ≤ 20 := by omega
  have hn0 : 3 ≤ n := by omega
  have hn1 : n ≤ 400 := by omega
  have hi0 : (0 : Int) < (n : Int) := by omega
  have hi1 : (1 : Int) < (n : Int) := by omega
  have hi2 : (2 : Int) < (n : Int) := by omega
  clear hp hn hv hS hsz hTo htt hTi hRi hR hT hnn
  go_enter Try.func3, Try.ntmps3
  go_wp2_with fail
  refine (awake2 _).mono ?_
  rintro e w1 ⟨rfl, hb1⟩
  have B1 := (Bk.new w (ccA ⟨W, S, B, D, N, rk, bg, la⟩) 24).keep hb1
  have x1 := B1.cells
  have hw1' : Below w.heap.size w w1 := ((Below.refl _ _).alloc (Nat.le_refl _) _).trans (hb1.mono (by simp))
  go_wp2_with fail
  refine (HP.out _).mono ?_
  rintro e w2 ⟨rfl, hb2⟩
  have B2 := B1.keep hb2
  have x2 := B2.cells
  have hw2 := hw1'.trans (hb2.mono hw1'.size)
  have l2 := B2.lt
  clear x1 B1 hb1 hw1' hb2
  go_wp2_with fail
  refine (HS.out _).mono ?_
  rintro e w3 ⟨rfl, hb3⟩
  have B3 := (B2.alloc _).keep hb3
  have P3 := (Bk.new w2 (ccA ⟨W, S, B, D, N, rk, bg, la⟩) 27).keep hb3
  have hw3 := (hw2.alloc hw2.size _).trans (hb3.mono (by have := hw2.size; simp; omega))
  clear x2 B2 hb3
  go_wp2_with (refine make_row Try.underlying32 info3 (by decide) rfl _ _ rfl n rfl rfl (by omega) ?_)
  have e3 : ((w3.alloc (Obj.cells #[Value.int .i64 n] 3)).alloc (Obj.cells (iv .i64 (List.replicate n 0)) 3)).heap.size = w3.heap.size + 1 + 1 := by simp
  have N6 := ((Bk.new w3 #[Value.int .i64 n] 3).alloc (Obj.cells (iv .i64 (List.replicate n 0)) 3)).alloc (Obj.cells #[Value.slice (some ⟨w3.heap.size + 1, 0, none⟩) n n] 32)
  have A6 := (Bk.new (w3.alloc (Obj.cells #[Value.int .i64 n] 3)) (iv .i64 (List.replicate n 0)) 3).alloc (Obj.cells #[Value.slice (some ⟨w3.heap.size + 1, 0, none⟩) n n] 32)
  have T6 := Bk.new ((w3.alloc (Obj.cells #[Value.int .i64 n] 3)).alloc (Obj.cells (iv .i64 (List.replicate n 0)) 3)) #[Value.slice (some ⟨w3.heap.size + 1, 0, none⟩) n n] 32
  have C6 := ((B3.alloc (Obj.cells #[Value.int .i64 n] 3)).alloc (Obj.cells (iv .i64 (List.replicate n 0)) 3)).alloc (Obj.cells #[Value.slice (some ⟨w3.heap.size + 1, 0, none⟩) n n] 32)
  have P6 := ((P3.alloc (Obj.cells #[Value.int .i64 n] 3)).alloc (Obj.cells (iv .i64 (List.replicate n 0)) 3)).alloc (Obj.cells #[Value.slice (some ⟨w3.heap.size + 1, 0, none⟩) n n] 32)
  have hw6 := ((hw3.alloc hw3.size (Obj.cells #[Value.int .i64 n] 3)).alloc (by have := hw3.size; simp; omega) (Obj.cells (iv .i64 (List.replicate n 0)) 3)).alloc (by have := hw3.size; simp; omega) (Obj.cells #[Value.slice (some ⟨w3.heap.size + 1, 0, none⟩) n n] 32)
  rw [e3] at T6
  rw [show (w3.alloc (Obj.cells #[Value.int .i64 n] 3)).heap.size = w3.heap.size + 1 by simp] at A6
  have G : Geo w.heap.size w2.heap.size w3.heap.size (w3.heap.size + 1 + 1) (w3.heap.size + 1) w := ⟨by have := hw3.size; omega, by have := hw3.size; omega, by have := P3.lt; omega, by omega, by omega⟩
  clear e3 B3 P3 hw3 l2 hw2
  generalize ((w3.alloc (Obj.cells #[Value.int .i64 n] 3)).alloc (Obj.cells (iv .i64 (List.replicate n 0)) 3)).alloc (Obj.cells #[Value.slice (some ⟨w3.heap.size + 1, 0, none⟩) n n] 32) = w6 at *
  generalize hgg : w3.heap.size + 1 = g at *
  generalize w3.heap.size = gn at *
  generalize hgt : g + 1 = gt at *
  generalize w2.heap.size = gp at *
  have GG := Lib.hid G
  have hgn : gt ≠ g := by omega
  clear hgg hgt G
  have c0 : w6.cell? ⟨g, 0, none⟩ = some (.int .i64 0) := (A6.cells 0).trans (by rw [iv_get (by simp; omega)]; simp)
  have c1 : w6.cell? ⟨g, 1, none⟩ = some (.int .i64 0) := (A6.cells 1).trans (by rw [iv_get (by simp; omega)]; simp)
  have c2 : w6.cell? ⟨g, 2, none⟩ = some (.int .i64 0) := (A6.cells 2).trans (by rw [iv_get (by simp; omega)]; simp)
  have f0 := A6.frozen
  have ct : w6.cell? ⟨gt, 0, none⟩ = some (.slice (some ⟨g, 0, none⟩) n n) := T6.cells 0
  go_region
  have A7 := ((A6.setCell 0 (.int .i64 1)).setCell 1 (.int .i64 1)).setCell 2 (.int .i64 1)
  rw [iv_set, iv_set, iv_set, show List.replicate n (0 : Int) = ones n 0 by simp [ones], ones_set (by omega), ones_set (by omega), ones_set (by omega)] at A7
  have H0 : Pa ⟨W, S, B, D, N, rk, bg, la⟩ w.heap.size gp gn gt g n 3 w (((w6.setCell ⟨g, 0, none⟩ (.int .i64 1)).setCell ⟨g, 1, none⟩ (.int .i64 1)).setCell ⟨g, 2, none⟩ (.int .i64 1)).drew :=
    have G := GG.out
    ⟨((C6.setCell_far (a := ⟨g, 0, none⟩) G.c _).setCell_far (a := ⟨g, 1, none⟩) G.c _).setCell_far (a := ⟨g, 2, none⟩) G.c _, ((P6.setCell_far (a := ⟨g, 0, none⟩) G.p _).setCell_far (a := ⟨g, 1, none⟩) G.p _).setCell_far (a := ⟨g, 2, none⟩) G.p _, ((N6.setCell_far (a := ⟨g, 0, none⟩) G.n _).setCell_far (a := ⟨g, 1, none⟩) G.n _).setCell_far (a := ⟨g, 2, none⟩) G.n _, ((T6.setCell_far (a := ⟨g, 0, none⟩) G.t _).setCell_far (a := ⟨g, 1, none⟩) G.t _).setCell_far (a := ⟨g, 2, none⟩) G.t _, A7, (((hw6.setCell (p := ⟨g, 0, none⟩) G.base _).setCell (p := ⟨g, 1, none⟩) G.base _).setCell (p := ⟨g, 2, none⟩) G.base _).drew⟩
  generalize (((w6.setCell ⟨g, 0, none⟩ (.int .i64 1)).setCell ⟨g, 1, none⟩ (.int .i64 1)).setCell ⟨g, 2, none⟩ (.int .i64 1)).drew = w7 at *
  clear A7 A6 C6 P6 N6 T6 hw6 c0 c1 c2 f0 ct
  go_wp2
  go_loopw [8] (fun i wr => ∃ k : Nat, k ≤ W ∧ i = .int .i64 k ∧ Pa ⟨W, S, B, D, N, rk, bg, la⟩ w.heap.size gp gn gt g n (3 + k) w wr) (fun i _ => W - (intOf i).toNat)
  case atStart => exact ⟨0, by omega, rfl, H0⟩
  case round =>
    obtain ⟨k, hk, rfl, H⟩ := hrel
    have xc := H.C.cells
    have xp := H.P.cells
    by_cases hlt : k < W
    · have hA := announce ⟨W, S, B, D, N, rk, bg, la⟩ hf (k : Int)
      rw [show aAnn ⟨W, S, B, D, N, rk, bg, la⟩ (k : Int) = ((3 + k : Nat) : Int) by rw [aAnn, if_pos ((hasB_ok h _ _).2 ⟨by omega, by simp only; omega⟩)]; omega] at hA
      have HA := Lib.hid hA
      clear hA
      go_wp2_with fail
      refine (HA.out _).mono ?_
      rintro e w8 ⟨rfl, hb8⟩
      have H8 := H.keep hb8
      clear xc xp
      go_wp2_with fail
      refine (put_step GG.out H8 (by have := HNN.out; omega) hn1).mono ?_
      rintro e w9 ⟨rfl, H9⟩
      go_wp2
      go_roundw
      case rel => exact ⟨k + 1, by omega, by go_num, H9⟩
      case measure => simp [intOf]; omega
    · obtain rfl : W = k := by omega
      have HW : Pa ⟨W, S, B, D, N, rk, bg, la⟩ w.heap.size gp gn gt g n (3 + W) w wr := H
      obtain ⟨wo, rfl⟩ : ∃ wo : World, wo = wr := ⟨_, rfl⟩
      clear H
      go_wp2
      go_loopw [9] (fun i wr => ∃ k : Nat, k ≤ S ∧ i = .int .i64 k ∧ Pa ⟨W, S, B, D, N, rk, bg, la⟩ w.heap.size gp gn gt g n (3 + W + k) w wr) (fun i _ => S - (intOf i).toNat)
      case atStart => exact ⟨0, by omega, rfl, HW⟩
      case round =>
        clear HW xc xp
        obtain ⟨k, hk, rfl, H⟩ := hrel
        have xc := H.C.cells
        have xp := H.P.cells
        by_cases hlt : k < S
        · have hA := slab ⟨W, S, B, D, N, rk, bg, la⟩ hf (k : Int)
          rw [show aSlab ⟨W, S, B, D, N, rk, bg, la⟩ (k : Int) = ((3 + W + k : Nat) : Int) by rw [aSlab, if_pos ((hasB_ok h _ _).2 ⟨by omega, by simp only; omega⟩)]; simp only; omega] at hA
          have HA := Lib.hid hA
          clear hA
          go_wp2_with fail
          refine (HA.out _).mono ?_
          rintro e w8 ⟨rfl, hb8⟩
          have H8 := H.keep hb8
          clear xc xp
          go_wp2_with fail
          refine (put_step GG.out H8 (by have := HNN.out; omega) hn1).mono ?_
          rintro e w9 ⟨rfl, H9⟩
          go_wp2
          go_roundw
          case rel => exact ⟨k + 1, by omega, by go_num, H9⟩
          case measure => simp [intOf]; omega
        · obtain rfl : S = k := by omega
          have HW : Pa ⟨W, S, B, D, N, rk, bg, la⟩ w.heap.size gp gn gt g n (3 + W + S) w wr := H
          obtain ⟨wo, rfl⟩ : ∃ wo : World, wo = wr := ⟨_, rfl⟩
          clear H
          go_wp2
          go_loopw [10] (fun i wr => ∃ k : Nat, k ≤ N ∧ i = .int .i64 k ∧ Pa ⟨W, S, B, D, N, rk, bg, la⟩ w.heap.size gp gn gt g n (3 + W + S + 2 * k) w wr) (fun i _ => N - (intOf i).toNat)
          case atStart => exact ⟨0, by omega, rfl, HW⟩
          case round =>
            clear HW xc xp
            obtain ⟨k, hk, rfl, H⟩ := hrel
            have xc := H.C.cells
            have xp := H.P.cells
            by_cases hlt : k < N
            · have hA := entry ⟨W, S, B, D, N, rk, bg, la⟩ hf (k : Int)
              rw [show aEnt ⟨W, S, B, D, N, rk, bg, la⟩ (k : Int) = ((3 + W + S + 2 * k : Nat) : Int) by rw [aEnt, if_pos ((hasB_ok h _ _).2 ⟨by omega, by simp only; omega⟩)]; simp only; omega] at hA
              have HA := Lib.hid hA
              have hA2 := entryLink ⟨W, S, B, D, N, rk, bg, la⟩ hf (k : Int)
              rw [show aEnl ⟨W, S, B, D, N, rk, bg, la⟩ (k : Int) = ((3 + W + S + 2 * k + 1 : Nat) : Int) by rw [aEnl, if_pos ((hasB_ok h _ _).2 ⟨by omega, by simp only; omega⟩)]; simp only; omega] at hA2
              have HA2 := Lib.hid hA2
              clear hA hA2
              go_wp2_with fail
              refine (HA.out _).mono ?_
              rintro e w8 ⟨rfl, hb8⟩
              have H8 := H.keep hb8
              clear xc xp
              go_wp2_with fail
              refine (put_step GG.out H8 (by have := HNN.out; omega) hn1).mono ?_
              rintro e w9 ⟨rfl, H9⟩
              have xp := H9.P.cells
              go_wp2_with fail
              refine (HA2.out _).mono ?_
              rintro e w10 ⟨rfl, hb10⟩
              have H10 := H9.keep hb10
              clear xp
              go_wp2_with fail
              refine (put_step GG.out H10 (by have := HNN.out; omega) hn1).mono ?_
              rintro e w11 ⟨rfl, H11⟩
              go_wp2
              go_roundw
              case rel => exact ⟨k + 1, by omega, by go_num, H11⟩
              case measure => simp [intOf]; omega
            · obtain rfl : N = k := by omega
              have HW : Pa ⟨W, S, B, D, N, rk, bg, la⟩ w.heap.size gp gn gt g n (3 + W + S + 2 * N) w wr := H
              obtain ⟨wo, rfl⟩ : ∃ wo : World, wo = wr := ⟨_, rfl⟩
              clear H
              go_wp2
              go_loopw [11] (fun i wr => ∃ k : Nat, k ≤ T ∧ i = .int .i64 k ∧ Pa ⟨W, S, B, D, N, rk, bg, la⟩ w.heap.size gp gn gt g n (3 + W + S + 2 * N + k * (1 + D)) w wr) (fun i _ => T - (intOf i).toNat)
              case atStart => exact ⟨0, by omega, rfl, by rw [Nat.zero_mul]; exact HW⟩
              case round =>
                clear HW xc xp
                obtain ⟨k, hk, rfl, H⟩ := hrel
                have xc := H.C.cells
                have xp := H.P.cells
                by_cases hlt : k < T
                · have hkr : (k + 1) * (1 + D) ≤ R := by rw [HRR.out]; exact Nat.mul_le_mul_right _ (by omega)
                  obtain ⟨r, hr⟩ : ∃ r, r = k * (1 + D) := ⟨_, rfl⟩
                  have hri : (k : Int) * (1 + (D : Int)) = (r : Int) := by rw [hr, Int.natCast_mul]; congr 1
                  rw [Nat.add_mul, Nat.one_mul, ← hr] at hkr
                  rw [← hr] at H
                  have hA := blockLink ⟨W, S, B, D, N, rk, bg, la⟩ hf (k : Int)
                  rw [show aBlk ⟨W, S, B, D, N, rk, bg, la⟩ (k : Int) = ((3 + W + S + 2 * N + r : Nat) : Int) by rw [aBlk, if_pos ((hasB_ok h _ _).2 ⟨by omega, by rw [HTT.out]; omega⟩)]; simp only [hri]; omega] at hA
                  have HA := Lib.hid hA
                  have HR1 := Lib.hid hr
                  have HRI := Lib.hid hri
                  clear hA hr hri
                  go_wp2_with fail
                  refine (HTo.out _).mono ?_
                  rintro e w12 ⟨rfl, hb12⟩
                  have H12 := H.keep hb12
                  clear xc xp
                  have xp := H12.P.cells
                  have k20 : k < 20 := by omega
                  go_wp2_with fail
                  refine (HA.out _).mono ?_
                  rintro e w8 ⟨rfl, hb8⟩
                  have H8 := H12.keep hb8
                  clear xp
                  go_wp2_with fail
                  refine (put_step GG.out H8 (by have := HNN.out; omega) hn1).mono ?_
                  rintro e w9 ⟨rfl, H9⟩
                  go_wp2
                  go_loopw [12] (fun i wr => ∃ j : Nat, j ≤ D ∧ i = .int .i64 j ∧ Pa ⟨W, S, B, D, N, rk, bg, la⟩ w.heap.size gp gn gt g n (3 + W + S + 2 * N + r + 1 + j) w wr) (fun i _ => D - (intOf i).toNat)
                  case atStart => exact ⟨0, by omega, rfl, H9⟩
                  case round =>
                    clear H H8 H9 H12
                    obtain ⟨j, hj, rfl, H⟩ := hrel
                    have xc := H.C.cells
                    have xp := H.P.cells
                    by_cases hjt : j < D
                    · have hA := word ⟨W, S, B, D, N, rk, bg, la⟩ hf (k : Int) (j : Int)
                      rw [show aWrd ⟨W, S, B, D, N, rk, bg, la⟩ (k : Int) (j : Int) = ((3 + W + S + 2 * N + r + 1 + j : Nat) : Int) by rw [aWrd, if_pos (by rw [Bool.and_eq_true]; exact ⟨(hasB_ok h _ _).2 ⟨by omega, by rw [HTT.out]; omega⟩, (hasB_ok h _ _).2 ⟨by omega, by simp only; omega⟩⟩)]; simp only [HRI.out]; omega] at hA
                      have HA := Lib.hid hA
                      clear hA
                      go_wp2_with fail
                      refine (HA.out _).mono ?_
                      rintro e w8 ⟨rfl, hb8⟩
                      have H8 := H.keep hb8
                      clear xc xp
                      go_wp2_with fail
                      refine (put_step GG.out H8 (by have := HNN.out; omega) hn1).mono ?_
                      rintro e w9 ⟨rfl, H9⟩
                      go_wp2
                      go_roundw
                      case rel => exact ⟨j + 1, by omega, by go_num, H9⟩
                      case measure => simp [intOf]; omega
                    · obtain rfl : D = j := by omega
                      go_wp2
                      go_roundw
                      case rel => exact ⟨k + 1, by omega, by go_num, by rw [show 3 + W + S + 2 * N + (k + 1) * (1 + D) = 3 + W + S + 2 * N + r + 1 + D by rw [HR1.out, Nat.add_mul]; omega]; exact H⟩
                      case measure => simp [intOf]; omega
                · obtain rfl : T = k := by omega
                  have HW : Pa ⟨W, S, B, D, N, rk, bg, la⟩ w.heap.size gp gn gt g n n w wr := by
                    have e := HNN.out
                    have e2 := HRR.out
                    rw [show 3 + W + S + 2 * N + T * (1 + D) = n by omega] at H
                    exact H
                  obtain ⟨wo, rfl⟩ : ∃ wo : World, wo = wr := ⟨_, rfl⟩
                  clear H
                  go_wp2_with fail
                  refine (HTo.out _).mono ?_
                  rintro e w12 ⟨rfl, hb12⟩
                  have H12 := HW.keep hb12
                  clear xc xp HW
                  go_wp2
                  go_loopw [13] (fun i wr => ∃ k : Nat, k ≤ n ∧ i = .int .i64 k ∧ Pa ⟨W, S, B, D, N, rk, bg, la⟩ w.heap.size gp gn gt g n n w wr) (fun i _ => n - (intOf i).toNat)
                  case atStart => exact ⟨0, by omega, rfl, H12⟩
                  case round =>
                    clear H12
                    obtain ⟨k, hk, rfl, H12⟩ := hrel
                    have xn := H12.N.cells
                    have xt := H12.T.cells
                    by_cases hlt : k < n
                    · have ca : wr.cell? ⟨g, k, none⟩ = some (.int .i64 1) := (H12.A.cells k).trans (by simp [iv, ones_full hlt])
                      go_wp2
                      go_roundw
                      case rel => exact ⟨k + 1, by omega, by go_num, H12⟩
                      case measure => simp [intOf]; omega
                    · obtain rfl : n = k := by omega
                      go_wp2
                      go_ret
                      exact ⟨rfl, H12.below⟩

theorem planApart_no (c : Cfg) (hf : c.Wf) (hk : chk c ≠ 0) (w : World) : Calls Try.prog 3 #[cv c] w fun e w' => e = .returned (.bool true) ∧ Below w.heap.size w w' := by
  have hn : nc c = ⟨0, 0, 0, 0, 0, 0, 0, 0⟩ := by rw [nc, if_neg hk]
  have hp := newPlan c hf
  rw [hn] at hp
  have HP := Lib.hid hp
  have hv1 : (chk c != 0) = true := by simp [hk]
  clear hp hn hk
  go_enter Try.func3, Try.ntmps3
  go_wp2_with fail
  refine (awake2 _).mono ?_
  rintro e w1 ⟨rfl, hb1⟩
  have B1 := (Bk.new w (ccA c) 24).keep hb1
  have x1 := B1.cells
  have hw1' : Below w.heap.size w w1 := ((Below.refl _ _).alloc (Nat.le_refl _) _).trans (hb1.mono (by simp))
  go_wp2_with fail
  refine (HP.out _).mono ?_
  rintro e w2 ⟨rfl, hb2⟩
  have hw2 := hw1'.trans (hb2.mono hw1'.size)
  clear x1 B1 hb1 hw1' hb2
  go_wp2
  go_ret
  exact ⟨rfl, hw2.alloc hw2.size _⟩
theorem planApart_many (c : Cfg) (hf : c.Wf) (h : Ok c) (hm : 20 < c.sl * c.bl) (w : World) : Calls Try.prog 3 #[cv c] w fun e w' => e = .returned (.bool true) ∧ Below w.heap.size w w' := by
  have hv := chk_ok.2 h
  have hn : nc c = c := by rw [nc, if_pos hv]
  have hp := newPlan c hf
  rw [hn, hv] at hp
  have HP := Lib.hid hp
  obtain ⟨ht, h0, h1⟩ := tot_ok (okB_of_ok h)
  clear hp hn hv ht
  go_enter Try.func3, Try.ntmps3
  go_wp2_with fail
  refine (awake2 _).mono ?_
  rintro e w1 ⟨rfl, hb1⟩
  have B1 := (Bk.new w (ccA c) 24).keep hb1
  have x1 := B1.cells
  have hw1' : Below w.heap.size w w1 := ((Below.refl _ _).alloc (Nat.le_refl _) _).trans (hb1.mono (by simp))
  go_wp2_with fail
  refine (HP.out _).mono ?_
  rintro e w2 ⟨rfl, hb2⟩
  have B2 := B1.keep hb2
  have x2 := B2.cells
  have l2 := B2.lt
  have hw2 := hw1'.trans (hb2.mono hw1'.size)
  clear x1 B1 hb1 hw1' hb2
  go_wp2
  go_ret
  exact ⟨rfl, hw2.alloc hw2.size _⟩
theorem planApart (c : Cfg) (hf : c.Wf) (w : World) : Calls Try.prog 3 #[cv c] w fun e w' => e = .returned (.bool true) ∧ Below w.heap.size w w' := by
  by_cases hv : chk c = 0
  · have h := chk_ok.1 hv
    by_cases hm : 20 < c.sl * c.bl
    · exact planApart_many c hf h hm w
    · have hw := h.ww
      have hs := h.sl
      have hl := h.bl
      have hd := h.wd
      have he := h.en
      obtain ⟨ww, sl, bl, wd, en, rk, bg, la⟩ := c
      simp only at hw hs hl hd he hm
      obtain ⟨W, rfl⟩ := Int.eq_ofNat_of_zero_le (a := ww) (by omega)
      obtain ⟨S, rfl⟩ := Int.eq_ofNat_of_zero_le (a := sl) (by omega)
      obtain ⟨B, rfl⟩ := Int.eq_ofNat_of_zero_le (a := bl) (by omega)
      obtain ⟨D, rfl⟩ := Int.eq_ofNat_of_zero_le (a := wd) (by omega)
      obtain ⟨N, rfl⟩ := Int.eq_ofNat_of_zero_le (a := en) (by omega)
      exact planApart_ok W S B D N (S * B) (S * B * (1 + D)) rk bg la h hf rfl (by rw [← Int.natCast_mul] at hm; omega) rfl w
  · exact planApart_no c hf hv w
end Go.Proofs.Yteppofpmbmmcaaa.Pl

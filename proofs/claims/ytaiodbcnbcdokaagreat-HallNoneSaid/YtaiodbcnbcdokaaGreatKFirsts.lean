/- Part Firsts. -/
import Derived.Test.YtaiodbcnbcdokaaGreatKPlans
import Derived.Test.YtaiodbcnbcdokaaGreatKWords
import Derived.Test.YtaiodbcnbcdokaaGreatKPacks
set_option linter.unusedVariables false
set_option linter.unusedSimpArgs false
set_option linter.unusedSectionVars false
set_option maxRecDepth 100000
set_option maxHeartbeats 16000000
section
namespace Go.Proofs.YtaiodbcnbcdokaaGreat.Pl
open Go Go.RowKit Gro Own
def c0 : Cfg := ⟨1, 1, 2, 1, 1, 0, 1, 1⟩
end Go.Proofs.YtaiodbcnbcdokaaGreat.Pl
end
section
namespace Go.Proofs.YtaiodbcnbcdokaaGreat.Pl
open Go
def pairAt (N : Nat) (a : Nat) : List Int := [1048576, if a + 1 < N then (a : Int) + 2 else 0]
def F (W S N R k : Nat) : List Int := ([2, 0, 1] ++ List.replicate (W + S) 0 ++ (List.range k).flatMap (pairAt N)) ++ List.replicate (2 * (N - k) + R) 0
def prew (W S N k : Nat) : List Int := [2, 0, 1] ++ List.replicate (W + S) 0 ++ (List.range k).flatMap (pairAt N)
theorem prew_len (W S N k : Nat) : (prew W S N k).length = 3 + W + S + 2 * k := by
 simp only [prew, List.length_append, List.length_cons, List.length_nil, List.length_replicate, List.length_flatMap, pairAt]
 rw [sum_const]; omega
theorem F_eq (W S N R k : Nat) : F W S N R k = prew W S N k ++ List.replicate (2 * (N - k) + R) 0 := rfl
theorem F_len (W S N R k : Nat) (h : k ≤ N) : (F W S N R k).length = 3 + W + S + 2 * N + R := by
 rw [F_eq, List.length_append, prew_len, List.length_replicate]; omega
theorem set_mid (X Y : List Int) (v y : Int) (i : Nat) (h : i = X.length) : (X ++ y :: Y).set i v = X ++ v :: Y := by
 subst h; simp
theorem F_split (W S N R k : Nat) (h : k < N) : F W S N R k = prew W S N k ++ 0 :: 0 :: List.replicate (2 * (N - (k + 1)) + R) 0 := by
 rw [F_eq, show 2 * (N - k) + R = (2 * (N - (k + 1)) + R) + 1 + 1 by omega, List.replicate_succ, List.replicate_succ]
theorem F_succ (W S N R k : Nat) (h : k < N) : F W S N R (k + 1) = prew W S N k ++ 1048576 :: (if k + 1 < N then (k : Int) + 2 else 0) :: List.replicate (2 * (N - (k + 1)) + R) 0 := by
 rw [F_eq]
 simp [prew, List.range_succ, pairAt]
theorem F_set1 (W S N R k i : Nat) (h : k < N) (hi : i = 3 + W + S + 2 * k) : (F W S N R k).set i 1048576 = prew W S N k ++ 1048576 :: 0 :: List.replicate (2 * (N - (k + 1)) + R) 0 := by
 rw [F_split _ _ _ _ _ h, set_mid _ _ _ _ _ (by rw [prew_len]; exact hi)]
theorem F_set2 (W S N R k j : Nat) (h : k < N) (h2 : k + 1 < N) (hj : j = 3 + W + S + 2 * k + 1) : (prew W S N k ++ 1048576 :: 0 :: List.replicate (2 * (N - (k + 1)) + R) 0).set j ((k : Int) + 2) = F W S N R (k + 1) := by
 rw [F_succ _ _ _ _ _ h, if_pos h2]
 have := set_mid (prew W S N k ++ [1048576]) (List.replicate (2 * (N - (k + 1)) + R) 0) ((k : Int) + 2) 0 j (by rw [List.length_append, prew_len, hj]; rfl)
 simpa using this
theorem F_last (W S N R k : Nat) (h : k < N) (h2 : ¬ k + 1 < N) : prew W S N k ++ 1048576 :: 0 :: List.replicate (2 * (N - (k + 1)) + R) 0 = F W S N R (k + 1) := by
 rw [F_succ _ _ _ _ _ h, if_neg h2]
theorem F_zero (W S N R : Nat) : F W S N R 0 = ((List.replicate (3 + W + S + 2 * N + R) (0 : Int)).set 0 2).set 2 1 := by
 rw [F_eq, show 3 + W + S + 2 * N + R = (W + S + (2 * N + R)) + 1 + 1 + 1 by omega, List.replicate_succ, List.replicate_succ, List.replicate_succ, ← List.replicate_append_replicate]
 simp [prew]
def fv (N : Int) (s : dY) : Int := if s.1 = 0 then (if s.2.1 = 0 then 2 else if s.2.1 = 2 then 1 else 0) else if s.1 = 3 then 1048576 else if s.1 = 4 ∧ s.2.1 < N - 1 then s.2.1 + 2 else 0
def first (c : Cfg) : List Int := (spots c).map (fv c.en)
theorem iP {α : Type} (G : α → List dY) (N : Int) (d : Nat) (hd : ∀ a, (G a).length = d) (h : ∀ a, ∀ s ∈ G a, fv N s = 0) : ∀ l : List α, (l.flatMap G).map (fv N) = List.replicate (d * l.length) 0
 | [] => by simp
 | a :: r => by
  rw [List.flatMap_cons, List.map_append, iP G N d hd h r, List.length_cons, Nat.mul_succ, Nat.add_comm, ← List.replicate_append_replicate]
  congr 1
  rw [← hd a]
  exact List.eq_replicate_iff.2 ⟨by simp, fun x hx => by
   obtain ⟨s, hs, rfl⟩ := List.mem_map.1 hx
   exact h a s hs⟩
theorem flatMap_pair (N : Nat) : ∀ l : List Nat, ((l.flatMap fun (a : Nat) => [((3 : Int), (a : Int), (0 : Int)), (4, (a : Int), 0)]).map (fv (N : Int))) = l.flatMap (pairAt N)
 | [] => rfl
 | a :: r => by
  rw [List.flatMap_cons, List.map_append, flatMap_pair N r, List.flatMap_cons]
  congr 1
  simp only [List.map_cons, List.map_nil, pairAt, fv]
  by_cases h : a + 1 < N
  ·simp [h]; omega
  ·simp [h]; omega
theorem first_eq {c : Cfg} (h : Ok c) : first c = F c.ww.toNat c.sl.toNat c.en.toNat ((c.wd.toNat + 1) * (c.sl * c.bl).toNat) c.en.toNat := by
 have he := h.en
 obtain ⟨N, hN⟩ := Int.eq_ofNat_of_zero_le (a := c.en) aj
 unfold first
 rw [spots_eq, hN]
 simp only [Int.toNat_natCast, List.map_append]
 rw [F_eq, prew]
 have e1 : (M1 c.ww.toNat).map (fv (N : Int)) = List.replicate c.ww.toNat 0 := by
  unfold M1; rw [iP _ _ 1 (fun _ => rfl) (fun a s hs => by simp at hs; subst hs; simp [fv])]; simp
 have e2 : (M2 c.sl.toNat).map (fv (N : Int)) = List.replicate c.sl.toNat 0 := by
  unfold M2; rw [iP _ _ 1 (fun _ => rfl) (fun a s hs => by simp at hs; subst hs; simp [fv])]; simp
 have e4 : (M4 c.wd.toNat (c.sl * c.bl).toNat).map (fv (N : Int)) = List.replicate ((c.wd.toNat + 1) * (c.sl * c.bl).toNat) 0 := by
  unfold M4; rw [iP _ _ (c.wd.toNat + 1) (fun x => by rw [List.length_cons, wrd_len]) (fun a s hs => by
   rcases List.mem_cons.1 hs with rfl | hs
   ·simp [fv]
   ·obtain ⟨b, _, rfl⟩ := List.mem_map.1 hs; simp [fv])]; simp
 have e3 : (M3 N).map (fv (N : Int)) = (List.range N).flatMap (pairAt N) := flatMap_pair N _
 rw [e1, e2, e3, e4, ← List.replicate_append_replicate]
 simp [S0, fv]
end Go.Proofs.YtaiodbcnbcdokaaGreat.Pl
namespace Go.Proofs.YtaiodbcnbcdokaaGreat.Pl
open Go Go.RowKit Gro Own Wd
abbrev cc (c : Cfg) : Array Value := #[.int .i64 c.ww, .int .i64 c.sl, .int .i64 c.bl, .int .i64 c.wd, .int .i64 c.en, .int .i64 c.rk, .int .i64 c.bg, .int .u64 c.la]
theorem info22 : ∃ i, Tryz.prog.info? 22 = some i ∧ i.zero = some (.int .u64 0) ∧ i.size = 1 ∧ i.bytes = 8 := qav
def FirstOf (c : Cfg) (w : World) (e : Ending) (w' : World) : Prop := ∃ g, e = .returned (.slice (some ⟨g, 0, none⟩) (first c).length (first c).length) ∧ w.heap.size ≤ g ∧ Bk w' g (iv .u64 (first c)) 22 ∧ Below w.heap.size w w'
theorem hd00 : Pk.hd 0 0 = 1 := aL
theorem en100 : Pk.en 1 (-1) 0 = 1048576 := aL
theorem firstN (W S B D N : Nat) (rk bg la : Int) (h : Ok ⟨W, S, B, D, N, rk, bg, la⟩) (hf : (⟨W, S, B, D, N, rk, bg, la⟩ : Cfg).Wf) (R : Nat) (hR : R = (D + 1) * (S * B)) (w : World) :
  Calls Tryz.prog 59 #[cv ⟨W, S, B, D, N, rk, bg, la⟩] w fun e w' => ∃ g, e = .returned (.slice (some ⟨g, 0, none⟩) (3 + W + S + 2 * N + R) (3 + W + S + 2 * N + R)) ∧ w.heap.size ≤ g ∧ Bk w' g (iv .u64 (F W S N R N)) 22 ∧ Below w.heap.size w w' := by
 have hv := fK.2 h
 have hn : nc ⟨W, S, B, D, N, rk, bg, la⟩ = ⟨W, S, B, D, N, rk, bg, la⟩ := by rw [nc, if_pos hv]
 have hp := jK ⟨W, S, B, D, N, rk, bg, la⟩ hf
 rw [hn, hv] at hp
 have HP := Lib.hid hp
 have hw1 := h.ww
 have hs1 := h.sl
 have he1 := h.en
 have hd1 := h.wd
 have hb1' := h.bl
 simp only at hw1 hs1 he1 hd1 hb1'
 have hRb : R ≤ 640 := by
  have h1 : S * B ≤ 8 * 16 := Nat.mul_le_mul aj aj
  have h2 : (D + 1) * (S * B) ≤ 5 * 128 := Nat.mul_le_mul aj aj
  omega
 have hsz : siz ⟨W, S, B, D, N, rk, bg, la⟩ = ((3 + W + S + 2 * N + R : Nat) : Int) := by
  rw [siz, if_pos (fU h)]
  have e : (R : Int) = (S : Int) * (B : Int) * (1 + (D : Int)) := by
   rw [hR, Int.natCast_mul, Int.natCast_mul, Int.mul_comm]; congr 1; omega
  simp only; omega
 have hS := size ⟨W, S, B, D, N, rk, bg, la⟩ hf
 rw [hsz] at hS
 have HS := Lib.hid hS
 clear hp hn hv hS hsz hR
 have hl0 : 3 ≤ 3 + W + S + 2 * N + R := aj
 have hl1 : 3 + W + S + 2 * N + R ≤ 1000 := aj
 have HL : RowKit.Hid (3 + W + S + 2 * N + R = 3 + W + S + 2 * N + R) := Lib.hid rfl
 obtain ⟨n, hnn⟩ : ∃ n, n = 3 + W + S + 2 * N + R := ⟨_, rfl⟩
 rw [← hnn] at HS hl0 hl1 ⊢
 have HN := Lib.hid hnn
 clear hnn HL
 have hi0 : (0 : Int) < (n : Int) := aj
 have hi2 : (2 : Int) < (n : Int) := aj
 go_enter Tryz.func59, Tryz.ntmps59
 go_wp2_with fail
 refine (HP.out _).mono ?_
 rintro e w1 ⟨rfl, hb1⟩
 go_wp2_with fail
 refine (HS.out _).mono ?_
 rintro e w2 ⟨rfl, hb2⟩
 have P2 := (Bk.new w1 (cc ⟨W, S, B, D, N, rk, bg, la⟩) 86).keep hb2
 have hw2 : Below w.heap.size w w2 := ((((Below.refl _ _).alloc (Nat.le_refl _) _).trans (hb1.mono aF)).alloc qa4q _).trans (hb2.mono (by have := hb1.size; simp at this ⊢; omega))
 have hg2 : w.heap.size ≤ w2.heap.size := hw2.size
 have hg1 : w1.heap.size < w2.heap.size := P2.lt
 go_wp2_with (first | (refine make_row Tryz.underlying40 info22 aL rfl _ _ rfl n rfl rfl aj ?_; have A3 := Bk.new w2 (iv .u64 (List.replicate n 0)) 22; have P3 := P2.alloc (Obj.cells (iv .u64 (List.replicate n 0)) 22); have hw3 := hw2.alloc hg2 (Obj.cells (iv .u64 (List.replicate n 0)) 22); clear P2; generalize w2.alloc (Obj.cells (iv .u64 (List.replicate n 0)) 22) = w3 at A3 P3 hw3 ⊢; have c0 := (A3.cells 0).trans (iv_get bq); have c2 := (A3.cells 2).trans (iv_get bq); have f3 := A3.frozen; have p3 := P3.cells) | (go_at_call 95; refine (Pk.head 0 0 _).mono ?_; rw [hd00]; rintro e w4 ⟨rfl, rfl⟩))
 have hne : w1.heap.size ≠ w2.heap.size := aj
 have A5 := (A3.setCell 0 (.int .u64 2)).setCell 2 (.int .u64 1)
 rw [iv_set, iv_set] at A5
 have P5 := (P3.aA (a := ⟨w2.heap.size, 0, none⟩) hne (.int .u64 2)).aA (a := ⟨w2.heap.size, 2, none⟩) hne (.int .u64 1)
 have hw5 := (hw3.setCell (p := ⟨w2.heap.size, 0, none⟩) hg2 (.int .u64 2)).setCell (p := ⟨w2.heap.size, 2, none⟩) hg2 (.int .u64 1)
 generalize hgg : w2.heap.size = g at *
 generalize w1.heap.size = gp at *
 clear c0 c2 f3 p3 A3 P3 hw3 hb1 hb2 hw2 hgg
 go_loopw [25] (fun i wr => ∃ k : Nat, k ≤ N ∧ i = .int .i64 k ∧ Bk wr gp (cc ⟨W, S, B, D, N, rk, bg, la⟩) 86 ∧ Bk wr g (iv .u64 (F W S N R k)) 22 ∧ Below w.heap.size w wr) (fun i _ => N - (intOf i).toNat)
 case atStart => exact ⟨0, by omega, rfl, P5, by rw [F_zero, ← HN.out]; exact A5, hw5⟩
 case round =>
  obtain ⟨k, hk, rfl, PR, AR, hwr⟩ := hrel
  by_cases hlt : k < N
  ·have hha : hasB ⟨W, S, B, D, N, rk, bg, la⟩ (k : Int) (N : Int) = true := (hasB_ok h _ _).2 ⟨by omega, by omega⟩
   have hE := entry ⟨W, S, B, D, N, rk, bg, la⟩ hf (k : Int)
   rw [show bf ⟨W, S, B, D, N, rk, bg, la⟩ (k : Int) = ((3 + W + S + 2 * k : Nat) : Int) by rw [bf, if_pos hha]; simp only; omega] at hE
   have hEl := entryLink ⟨W, S, B, D, N, rk, bg, la⟩ hf (k : Int)
   rw [show aEnl ⟨W, S, B, D, N, rk, bg, la⟩ (k : Int) = ((3 + W + S + 2 * k + 1 : Nat) : Int) by rw [aEnl, if_pos hha]; simp only; omega] at hEl
   obtain ⟨i, hi⟩ : ∃ i, i = 3 + W + S + 2 * k := ⟨_, rfl⟩
   have hin : i + 1 < n := by rw [hi, HN.out]; omega
   rw [← hi] at hE hEl
   have HE := Lib.hid hE
   have HEl := Lib.hid hEl
   have HI := Lib.hid hi
   clear hE hEl hi hha
   have hq0 : (0 : Int) ≤ (i : Int) := aj
   have hq1 : (i : Int) < (n : Int) := aj
   have hq2 : (i : Int) + 1 < (n : Int) := aj
   have pr := PR.cells
   have FL := F_len W S N R k aj
   rw [← HN.out] at FL
   have HFL := Lib.hid FL
   clear FL
   have h1m : ∀ w' w'' : World, True := fun _ _ => trivial
   clear h1m
   go_wp2_with fail
   refine (HE.out _).mono ?_
   rintro e w6 ⟨rfl, hb6⟩
   have P6 := PR.keep hb6
   have A6 := AR.keep hb6
   have hw6 := hwr.trans (hb6.mono hwr.size)
   clear pr PR AR hwr hb6
   obtain ⟨x6, c6⟩ : ∃ x, w6.cell? ⟨g, i, none⟩ = some (.int .u64 x) := ⟨_, (A6.cells i).trans (iv_get (by rw [HFL.out]; omega))⟩
   have f6 := A6.frozen
   have p6 := P6.cells
   have A7 := A6.setCell i (.int .u64 1048576)
   rw [iv_set, F_set1 W S N R k i hlt HI.out] at A7
   have P7 := P6.aA (a := ⟨g, i, none⟩) hne (.int .u64 1048576)
   have hw7 := hw6.setCell (p := ⟨g, i, none⟩) hg2 (.int .u64 1048576)
   by_cases h2 : k + 1 < N
   ·have h2' : (k : Int) + 1 < (N : Int) := by omega
    go_wp2_with (first | (go_at_call 96; refine (Pk.entry 1 (-1) 0 _).mono ?_; rw [en100]; rintro e w4 ⟨rfl, rfl⟩) | (go_at_call 97; fail_if_success skip))
    generalize w6.setCell ⟨g, i, none⟩ (.int .u64 1048576) = w7 at *
    refine (HEl.out _).mono ?_
    rintro e w8 ⟨rfl, hb8⟩
    have P8 := P7.keep hb8
    have A8 := A7.keep hb8
    have hw8 := hw7.trans (hb8.mono hw7.size)
    clear c6 f6 p6 P6 A6 hw6 A7 P7 hw7 hb8
    have HLn : (prew W S N k ++ 1048576 :: 0 :: List.replicate (2 * (N - (k + 1)) + R) 0).length = n := by
     rw [List.length_append, prew_len, List.length_cons, List.length_cons, List.length_replicate, HN.out]; omega
    obtain ⟨x8, c8⟩ : ∃ x, w8.cell? ⟨g, i + 1, none⟩ = some (.int .u64 x) := ⟨_, (A8.cells (i + 1)).trans (iv_get (by rw [HLn]; omega))⟩
    have f8 := A8.frozen
    have A9 := A8.setCell (i + 1) (.int .u64 ((k : Int) + 2))
    rw [iv_set, F_set2 W S N R k (i + 1) hlt h2 (by rw [HI.out])] at A9
    clear HLn
    go_wp2
    go_roundw
    case rel => exact ⟨k + 1, by omega, by go_num, P8.aA (a := ⟨g, i + 1, none⟩) hne _, A9, hw8.setCell (p := ⟨g, i + 1, none⟩) hg2 _⟩
    case measure => simp [intOf]; omega
   ·have h2' : ¬ (k : Int) + 1 < (N : Int) := by omega
    rw [F_last W S N R k hlt h2] at A7
    go_wp2_with (go_at_call 96; refine (Pk.entry 1 (-1) 0 _).mono ?_; rw [en100]; rintro e w4 ⟨rfl, rfl⟩)
    go_roundw
    case rel => exact ⟨k + 1, by omega, by go_num, P7, A7, hw7⟩
    case measure => simp [intOf]; omega
  ·obtain rfl : k = N := by omega
   go_wp2
   go_ret
   exact ⟨g, rfl, hg2, AR, hwr⟩
theorem first_len {c : Cfg} : (first c).length = (spots c).length := by simp [first]
theorem planFirst_ok (c : Cfg) (h : Ok c) (hf : c.Wf) (w : World) : Calls Tryz.prog 59 #[cv c] w (FirstOf c w) := by
 have hfe := first_eq h
 have hw := h.ww
 have hs := h.sl
 have hl := h.bl
 have hd := h.wd
 have he := h.en
 obtain ⟨ww, sl, bl, wd, en, rk, bg, la⟩ := c
 simp only at hw hs hl hd he hfe
 obtain ⟨W, rfl⟩ := Int.eq_ofNat_of_zero_le (a := ww) aj
 obtain ⟨S, rfl⟩ := Int.eq_ofNat_of_zero_le (a := sl) aj
 obtain ⟨B, rfl⟩ := Int.eq_ofNat_of_zero_le (a := bl) aj
 obtain ⟨D, rfl⟩ := Int.eq_ofNat_of_zero_le (a := wd) aj
 obtain ⟨N, rfl⟩ := Int.eq_ofNat_of_zero_le (a := en) aj
 simp only [Int.toNat_natCast] at hfe
 rw [show ((S : Int) * (B : Int)).toNat = S * B by rw [← Int.natCast_mul, Int.toNat_natCast]] at hfe
 refine (firstN W S B D N rk bg la h hf ((D + 1) * (S * B)) rfl w).mono fun e w' ⟨g, h1, h2, h3, h4⟩ => ⟨g, ?_, h2, by rw [hfe]; exact h3, h4⟩
 rw [hfe, F_len _ _ _ _ _ (Nat.le_refl _)]
 exact h1
theorem planFirst_no (c : Cfg) (h : chk c ≠ 0) (hf : c.Wf) (w : World) : Calls Tryz.prog 59 #[cv c] w fun e w' => e = .returned (.slice none 0 0) ∧ Below w.heap.size w w' := by
 have hn : nc c = ⟨0, 0, 0, 0, 0, 0, 0, 0⟩ := by rw [nc, if_neg h]
 have hp := jK c hf
 rw [hn] at hp
 have HP := Lib.hid hp
 have hv1 : (chk c != 0) = true := by simp [h]
 clear hp hn h
 go_enter Tryz.func59, Tryz.ntmps59
 go_wp2_with (go_at_call 84; refine (HP.out _).mono ?_; rintro e w1 ⟨rfl, hb1⟩)
 go_ret
 exact ⟨rfl, (((Below.refl _ _).alloc (Nat.le_refl _) _).trans (hb1.mono aF)).alloc qa4q _⟩
def dW (c : Cfg) : List Int := if chk c = 0 then first c else []
end Go.Proofs.YtaiodbcnbcdokaaGreat.Pl
namespace Go.Proofs.YtaiodbcnbcdokaaGreat.Pl
open Go Go.RowKit Gro Own Wd
theorem elem44 : Elem Tryz.prog 40 22 1 8 := ⟨Tryz.underlying40, by
 obtain ⟨i, h1, h2, h3, h4⟩ := info22
 exact ⟨i, _, h1, h2, h3, h4, rfl⟩, by decide, by decide⟩
theorem spot_range {c : Cfg} (h : Ok c) {s : dY} (hs : s ∈ spots c) : 0 ≤ s.2.1 ∧ (s.1 = 4 → s.2.1 < 32) := by
 have he := h.en
 rw [spots_eq] at hs
 rcases List.mem_append.1 hs with hs | hs
 ·rcases List.mem_append.1 hs with hs | hs
  ·rcases List.mem_append.1 hs with hs | hs
   ·rcases List.mem_append.1 hs with hs | hs
    ·simp [S0] at hs; rcases hs with rfl | rfl | rfl <;> simp
    ·have := mem_M1 hs; omega
   ·have := mem_M2 hs; omega
  ·have h3 := mem_M3 hs
   obtain ⟨a, ha, hs⟩ := List.mem_flatMap.1 hs
   have := List.mem_range.1 ha
   refine ⟨h3.2.2, fun _ => ?_⟩
   simp at hs; rcases hs with rfl | rfl <;> (simp only; omega)
 ·have := mem_M4 hs; omega
theorem fv_ways (N : Int) (s : dY) :
  (fv N s = 2 ∧ (s.1 == 0) = true ∧ (s.2.1 == 0) = true ∧ (s.2.1 == 2) = false ∧ (s.1 == 3) = false ∧ (s.1 == 4) = false ∧ True) ∨
  (fv N s = 1 ∧ (s.1 == 0) = true ∧ (s.2.1 == 0) = false ∧ (s.2.1 == 2) = true ∧ (s.1 == 3) = false ∧ (s.1 == 4) = false ∧ True) ∨
  (fv N s = 0 ∧ (s.1 == 0) = true ∧ (s.2.1 == 0) = false ∧ (s.2.1 == 2) = false ∧ (s.1 == 3) = false ∧ (s.1 == 4) = false ∧ True) ∨
  (fv N s = 1048576 ∧ (s.1 == 0) = false ∧ True ∧ True ∧ (s.1 == 3) = true ∧ (s.1 == 4) = false ∧ True) ∨
  (fv N s = s.2.1 + 2 ∧ (s.1 == 0) = false ∧ True ∧ True ∧ (s.1 == 3) = false ∧ (s.1 == 4) = true ∧ s.2.1 < N - 1) ∨
  (fv N s = 0 ∧ (s.1 == 0) = false ∧ True ∧ True ∧ (s.1 == 3) = false ∧ (s.1 == 4) = true ∧ decide (s.2.1 < N - 1) = false) ∨
  (fv N s = 0 ∧ (s.1 == 0) = false ∧ True ∧ True ∧ (s.1 == 3) = false ∧ (s.1 == 4) = false ∧ True) := by
 unfold fv
 by_cases h0 : s.1 = 0
 ·by_cases ha : s.2.1 = 0
  ·left; simp [h0, ha]
  ·by_cases hb : s.2.1 = 2
   ·right; left; simp [h0, hb]
   ·right; right; left; simp [h0, ha, hb]
 ·by_cases h3 : s.1 = 3
  ·right; right; right; left; simp [h3]
  ·by_cases h4 : s.1 = 4
   ·by_cases h5 : s.2.1 < N - 1
    ·right; right; right; right; left; simp [h4, h5]
    ·right; right; right; right; right; left; simp [h4, h5]
   ·right; right; right; right; right; right; simp [h0, h3, h4]
theorem one1 {a : Int} : ∀ u ∈ [Value.int .u64 a], u.oneCell' = true := qa4r
theorem owns_base {w : World} {base B : Nat} {e : TypeId} {size : Nat} {v : Value} {n : Nat} {xs : List Value} (h : w.ownsRow base e size v n xs) (hb : B ≤ base) : w.ownsRow B e size v n xs := by
 refine ⟨h.1, ?_⟩
 rcases h.2 with h0 | ⟨g, cap, cur, rfl, hge, rest⟩
 ·exact .inl h0
 ·exact .inr ⟨g, cap, cur, rfl, Nat.le_trans hb hge, rest⟩
theorem fin_own (L : List dY) (N : Int) (k : Nat) (hk : k < L.length) {w : World} {B : Nat} {e : TypeId} {v : Value} {y : Int} (h : w.ownsRow B e 1 v (k + 1) ((((L.take k).map (fv N)).map (Value.int .u64)) ++ [.int .u64 y])) (hy : fv N L[k] = y) :
  w.ownsRow B e 1 v (k + 1) (((L.take (k + 1)).map (fv N)).map (Value.int .u64)) := by
 refine owns_len h rfl ?_
 rw [List.take_succ_eq_append_getElem hk, List.map_append, List.map_append, ← hy]
 rfl
theorem drewN_alloc {a w : World} (h : Below a.heap.size a w) (n : Nat) (o : Obj) : Below a.heap.size a ((w.drewN n).alloc o) := (gro_drewN h).alloc h.size o
theorem refFirst_ok (c : Cfg) (h : Ok c) (hf : c.Wf) (w : World) : Calls Tryz.prog 34 #[cv c] w fun e w' => ∃ v, e = .returned v ∧ w'.ownsRow w.heap.size 22 1 v (first c).length ((first c).map (Value.int .u64)) ∧ Below w.heap.size w w' := by
 have hv := fK.2 h
 have hr := refCheck c hf
 rw [hv] at hr
 have HR := Lib.hid hr
 obtain ⟨he0, he1⟩ := h.en
 have hpos : 0 < (spots c).length := by unfold spots; rw [S4_len]; omega
 have hmax : (spots c).length ≤ 1000 := by
  have h1 := spots_len h
  have h2 := tot_ok (fU h)
  have h3 := h.ww
  have h4 := h.sl
  have h5 := h.wd
  rw [siz, if_pos (fU h)] at h1
  exact qaw
 have HSP : RowKit.Hid (∀ s ∈ spots c, 0 ≤ s.2.1 ∧ (s.1 = 4 → s.2.1 < 32)) := Lib.hid (fun s hs => spot_range h hs)
 clear hr hv
 go_enter Tryz.func34, Tryz.ntmps34
 go_wp2_with fail
 refine (HR.out _).mono ?_
 rintro e w1 ⟨rfl, hb1⟩
 have B1 := (Bk.new w (cc c) 24).keep hb1
 have x1 := B1.cells
 go_wp2_with fail
 refine (refAll c h _).mono ?_
 rintro e w2 ⟨v, rfl, hown, hb2⟩
 obtain ⟨g, cap, rfl, hg0, hg1, hcap, hmx, hcells⟩ := eG hown hpos
 have B2 := B1.keep hb2
 have x2 := B2.cells
 have hw2 : Below w.heap.size w w2 := ((Below.refl _ _).alloc (Nat.le_refl _) _).trans ((hb1.mono aF).trans (hb2.mono (by have := B1.lt; omega)))
 have HC := Lib.hid hcells
 unfold maxLen at hmx
 clear x1 B1 hb1 hb2 hown hcells
 have HF : RowKit.Hid (first c = (spots c).map (fv c.en)) := Lib.hid rfl
 generalize spots c = L at *
 go_wp2
 go_loopw [4, 5] (fun v i wr => ∃ k : Nat, k ≤ L.length ∧ i = .int .i64 k ∧ wr.ownsRow w2.heap.size 22 1 v k (((L.take k).map (fv c.en)).map (Value.int .u64)) ∧ Below w2.heap.size w2 wr) (fun _ i _ => L.length - (intOf i).toNat)
 case atStart => exact ⟨0, Nat.zero_le _, rfl, ⟨rfl, .inl ⟨rfl, rfl⟩⟩, Below.refl _ _⟩
 case round =>
  obtain ⟨k, hkl, rfl, hown, hbr⟩ := hrel
  clear x2
  have BR := B2.keep hbr
  have xr := BR.cells
  have lr := hbr.size
  by_cases hlt : k < L.length
  ·obtain ⟨q0, q1, q2⟩ := sc_get L k hlt
   have hl3 := sc_length L
   have c0 : wr.cell? ⟨g, k * 3, none⟩ = some (.int .i64 L[k].1) := (hbr.cell (p := ⟨g, k * 3, none⟩) hg1).trans ((HC.out _ aj).trans q0)
   have c1 : wr.cell? ⟨g, k * 3 + 1, none⟩ = some (.int .i64 L[k].2.1) := (hbr.cell (p := ⟨g, k * 3 + 1, none⟩) hg1).trans ((HC.out _ aj).trans q1)
   obtain ⟨hr0, hr4⟩ := HSP.out L[k] (List.getElem_mem hlt)
   clear q0 q1 q2 hl3
   rcases fv_ways c.en L[k] with W | W | W | W | W | W | W
   ·obtain ⟨hv, k0, a0, a2, k3, k4, l4⟩ := W
    have HV := Lib.hid hv
    clear hv
    clear hr4
    go_wp2_with (go_at_call 71; refine (Pk.rentry 1 (-1) 0 aL aL _).mono ?_; rw [en100]; rintro e w4 ⟨rfl, rfl⟩)
    go_quiet (fail)
    go_wp2_with (at_builtin; refine dX elem44 rfl _ _ rfl w2.heap.size _ _ _ rfl (World.ownsRow.alloc (show World.ownsRow (wr.drewN _) w2.heap.size 22 1 _ k _ from hown) _) wr.heap.size 1 1 [.int .u64 2] rfl rfl (eZ _ _ _) one1 aL aj qa4t ?_; intro v' w' hown2 hb2')
    exact qax
   ·obtain ⟨hv, k0, a0, a2, k3, k4, l4⟩ := W
    have HV := Lib.hid hv
    clear hv
    clear hr4
    go_wp2_with (go_at_call 71; refine (Pk.rentry 1 (-1) 0 aL aL _).mono ?_; rw [en100]; rintro e w4 ⟨rfl, rfl⟩)
    go_quiet (fail)
    go_wp2_with (at_builtin; refine dX elem44 rfl _ _ rfl w2.heap.size _ _ _ rfl (World.ownsRow.alloc (show World.ownsRow (wr.drewN _) w2.heap.size 22 1 _ k _ from hown) _) wr.heap.size 1 1 [.int .u64 1] rfl rfl (eZ _ _ _) one1 aL aj qa4t ?_; intro v' w' hown2 hb2')
    exact qax
   ·exact qay
   ·obtain ⟨hv, k0, a0, a2, k3, k4, l4⟩ := W
    have HV := Lib.hid hv
    clear hv
    clear hr4
    go_wp2_with (go_at_call 71; refine (Pk.rentry 1 (-1) 0 aL aL _).mono ?_; rw [en100]; rintro e w4 ⟨rfl, rfl⟩)
    go_quiet (fail)
    go_wp2_with (at_builtin; refine dX elem44 rfl _ _ rfl w2.heap.size _ _ _ rfl (World.ownsRow.alloc (show World.ownsRow (wr.drewN _) w2.heap.size 22 1 _ k _ from hown) _) wr.heap.size 1 1 [.int .u64 1048576] rfl rfl (eZ _ _ _) one1 aL aj qa4t ?_; intro v' w' hown2 hb2')
    exact qax
   ·obtain ⟨hv, k0, a0, a2, k3, k4, l4⟩ := W
    have HV := Lib.hid hv
    clear hv
    have hr5 := hr4 (by simpa using k4)
    clear hr4
    go_wp2_with (go_at_call 71; refine (Pk.rentry 1 (-1) 0 aL aL _).mono ?_; rw [en100]; rintro e w4 ⟨rfl, rfl⟩)
    go_quiet (fail)
    go_wp2_with (at_builtin; refine dX elem44 rfl _ _ rfl w2.heap.size _ _ _ rfl (World.ownsRow.alloc (show World.ownsRow (wr.drewN _) w2.heap.size 22 1 _ k _ from hown) _) wr.heap.size 1 1 [.int .u64 (L[k].2.1 + 2)] rfl rfl (eZ _ _ _) one1 aL aj qa4t ?_; intro v' w' hown2 hb2')
    exact qax
   ·exact qay
   ·exact qay
  ·obtain rfl : k = L.length := by omega
   go_wp2
   go_ret
   refine ⟨_, rfl, ?_, hw2.trans (hbr.mono hw2.size)⟩
   rw [List.take_length, ← HF.out] at hown
   exact owns_base (owns_len hown (by rw [HF.out]; simp) rfl) hw2.size
theorem refFirst_no (c : Cfg) (h : chk c ≠ 0) (hf : c.Wf) (w : World) : Calls Tryz.prog 34 #[cv c] w fun e w' => e = .returned (.slice none 0 0) ∧ Below w.heap.size w w' := by
 have hv1 : (chk c != 0) = true := by simp [h]
 clear h
 go_enter Tryz.func34, Tryz.ntmps34
 go_wp2_with (go_at_call 19; refine (refCheck c hf _).mono ?_; rintro e w1 ⟨rfl, hb1⟩)
 go_ret
 exact ⟨rfl, ((Below.refl _ _).alloc (Nat.le_refl _) _).trans (hb1.mono aF)⟩
theorem refFirst (c : Cfg) (hf : c.Wf) (w : World) : Calls Tryz.prog 34 #[cv c] w fun e w' => ∃ v, e = .returned v ∧ Reads w' .u64 v (dW c) ∧ Below w.heap.size w w' := by
 by_cases hv : chk c = 0
 ·rw [dW, if_pos hv]
  exact (refFirst_ok c (fK.1 hv) hf w).mono fun e w' ⟨v, h1, h2, h3⟩ => ⟨v, h1, Reads.of_own h2 rfl, h3⟩
 ·rw [dW, if_neg hv]
  exact (refFirst_no c hv hf w).mono fun e w' ⟨h1, h3⟩ => ⟨_, h1, Reads.nil _ _, h3⟩
theorem planFirst (c : Cfg) (hf : c.Wf) (w : World) : Calls Tryz.prog 59 #[cv c] w fun e w' => ∃ v, e = .returned v ∧ Reads w' .u64 v (dW c) ∧ Below w.heap.size w w' := by
 by_cases hv : chk c = 0
 ·rw [dW, if_pos hv]
  have hmax : (first c).length ≤ maxLen := by
   have h := fK.1 hv
   have h1 := spots_len h
   have h2 := tot_ok (fU h)
   have h3 := h.ww
   have h4 := h.sl
   have h5 := h.wd
   have h6 := h.en
   rw [siz, if_pos (fU h)] at h1
   have := gT (a := c.sl * c.bl) (b := 1 + c.wd) (A := 128) (B := 5) h2.2.1 h2.2.2 aj aj
   rw [first_len]; unfold maxLen; omega
  exact (planFirst_ok c (fK.1 hv) hf w).mono fun e w' ⟨g, h1, h2, h3, h4⟩ => ⟨_, h1, Reads.dn h3 hmax, h4⟩
 ·rw [dW, if_neg hv]
  exact (planFirst_no c hv hf w).mono fun e w' ⟨h1, h3⟩ => ⟨_, h1, Reads.nil _ _, h3⟩
end Go.Proofs.YtaiodbcnbcdokaaGreat.Pl
end

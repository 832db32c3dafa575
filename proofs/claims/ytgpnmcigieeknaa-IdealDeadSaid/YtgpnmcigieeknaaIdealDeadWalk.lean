/- The law IdealDead returns true, and every block that existed before the call is as it was. -/
import Derived.Test.YtgpnmcigieeknaaIdealGreat
import Derived.Test.YtgpnmcigieeknaaIdealPure
import Derived.Laws.MakeOwn
import Derived.Laws.OwnMore
namespace Go.Proofs.Ytgpnmcigieeknaa.Idl
open Go Go.RowKit Go.Proofs.Ytgpnmcigieeknaa.Mr Go.ChangeMaps
set_option linter.unusedVariables false
set_option linter.unusedSimpArgs false

def noes (n : Nat) : Array Value := madeCells #[.bool false] n
theorem noes_get {n i : Nat} (h : i < n) : (noes n)[i]? = some (.bool false) := by
  have := congrArg (fun l : List Value => l[i]?) (toList_madeCells_one (.bool false) n)
  simp only [Array.getElem?_toList] at this
  unfold noes
  rw [this]
  simp [h]
theorem info_bool : (Try.prog.info? 4).map (fun i => (i.zero, i.size, i.bytes)) = some (some (.bool false), 1, 1) := by kernel_rfl
theorem make_bools (n : Nat) (hn : n ≤ 60) (w : World) : (Instr.makeSlice 45 (.int .i64 (n : Int)) (.int .i64 (n : Int))).run Try.prog w = .ok (.slice (some ⟨w.heap.size, 0, none⟩) n n) (w.alloc (.cells (noes n) 4)) := by
  obtain ⟨i0, hi, hz0, hz1, hz2⟩ := info_parts info_bool
  have h := run_make (P := Try.prog) w 45 4 i0 (.bool false) Try.underlying45 hi hz0 .i64 .i64 n n (by omega) (by omega) (by rw [hz2]; omega) (by omega)
  rw [hz1] at h
  simp only [Int.toNat_natCast, Nat.mul_one] at h
  exact h

/-- A pool whose blocks lie from B on, none of them block d. -/
def PoolX (B d p : Nat) (ws : Int) (L : List (Int × Int)) (D : List Int) (w : World) : Prop := ∃ ml md, PoolAt w p ws ml md L D ∧ B ≤ p ∧ p ≠ d ∧ (∀ b, ml = some b → B ≤ b ∧ b ≠ d) ∧ (∀ b, md = some b → B ≤ b ∧ b ≠ d)
section
variable {B d p : Nat} {ws : Int} {L : List (Int × Int)} {D : List Int} {w : World}
theorem live_x (h : PoolX B d p ws L D w) (t : Int) : Calls Try.prog 30 #[.pointer (some ⟨p, 0, none⟩), .int .u64 t] w fun e w' => e = .returned (.tuple #[.int .u64 (num t L), .bool (al t L)]) ∧ w = w' := by
  obtain ⟨ml, md, h1, _⟩ := h
  exact live h1 t
theorem told_x (h : PoolX B d p ws L D w) (t : Int) : Calls Try.prog 31 #[.pointer (some ⟨p, 0, none⟩), .int .u64 t] w fun e w' => e = .returned (.bool (toldB t L D)) ∧ w = w' := by
  obtain ⟨ml, md, h1, _⟩ := h
  exact told h1 t
theorem step_x (h : PoolX B d p ws L D w) (hB : B ≤ w.heap.size) (hd : d < w.heap.size) (k ot x sl by_ nth t r : Int) (use : Bool) (rd0 : Value) (xs : List Int) (hr : SlI w rd0 xs) (hx : xs.length ≤ 1000000) :
    Calls Try.prog 32 #[.pointer (some ⟨p, 0, none⟩), (Value.agg #[.int .i64 k, .int .u64 ot, .int .u64 x, .int .i64 sl, .bool use, .int .i64 by_, .int .i64 nth, .int .u64 t, .int .i64 r, rd0])] w fun e w' => e = .returned (.bool (stepOk ws L D k r t xs)) ∧ PoolX B d p ws (stL ws L D k r t x xs) (stD ws L D k r t xs) w' ∧ Below B w w' ∧ w'.heap[d]? = w.heap[d]? := by
  obtain ⟨ml, md, h1, h2, h2', h3, h4⟩ := h
  refine (step h1 k ot x sl by_ nth t r use rd0 xs hr hx).mono fun e w' ⟨he, ml', md', hP, hK, e1, e2⟩ => ⟨he, ⟨ml', md', hP, h2, h2', fun b hb => ?_, fun b hb => ?_⟩, hK.toBelow hB ?_, hK.block d hd ?_⟩
  · rcases e1 b hb with h | h
    · exact h3 b h
    · exact ⟨by omega, by omega⟩
  · rcases e2 b hb with h | h
    · exact h4 b h
    · exact ⟨by omega, by omega⟩
  · intro j hj hs
    rcases hs with rfl | hs | hs
    · omega
    · have := h3 j hs; omega
    · have := h4 j hs; omega
  · intro hs
    rcases hs with e | hs | hs
    · exact h2' e.symm
    · exact (h3 d hs).2 rfl
    · exact (h4 d hs).2 rfl
theorem PoolX.set (h : PoolX B d p ws L D w) (i : Nat) (v : Value) : PoolX B d p ws L D (w.setCell ⟨d, i, none⟩ v) := by
  obtain ⟨ml, md, h1, h2, h2', h3, h4⟩ := h
  refine ⟨ml, md, h1.of_blocks (Below.heap_setCell w _ v p h2') (fun b hb => Below.heap_setCell w _ v b (h3 b hb).2) (fun b hb => Below.heap_setCell w _ v b (h4 b hb).2), h2, h2', h3, h4⟩
theorem PoolX.alloc (h : PoolX B d p ws L D w) (o : Obj) : PoolX B d p ws L D (w.alloc o) := by
  obtain ⟨ml, md, h1, h2, h2', h3, h4⟩ := h
  exact ⟨ml, md, h1.below ((Below.refl _ _).alloc (Nat.le_refl _) o), h2, h2', h3, h4⟩
end

/-- The slice 'dead' in memory. -/
structure DeadAt (w : World) (d n : Nat) (df : Nat → Bool) : Prop where
  cell : ∀ i, i < n → w.cell? ⟨d, i, none⟩ = some (.bool (df i))
  free : ∀ i, w.frozen? ⟨d, i, none⟩ = false
theorem DeadAt.of_block {w w' : World} {d n : Nat} {df : Nat → Bool} (h : DeadAt w d n df) (e : w'.heap[d]? = w.heap[d]?) : DeadAt w' d n df :=
  ⟨fun i hi => (World.cell?_of_block (w := w) (a := ⟨d, i, none⟩) e).trans (h.cell i hi), fun i => (World.frozen?_of_block (w := w) (a := ⟨d, i, none⟩) e).trans (h.free i)⟩
theorem DeadAt.set {w : World} {d n : Nat} {df : Nat → Bool} (h : DeadAt w d n df) {k : Nat} (hk : k < n) (v : Bool) : DeadAt (w.setCell ⟨d, k, none⟩ (.bool v)) d n (fun i => if i = k then v else df i) := by
  refine ⟨fun i hi => ?_, fun i => by rw [World.frozen?_setCell]; exact h.free i⟩
  by_cases e : i = k
  · subst e
    simp only [if_true]
    exact World.cell?_setCell_same _ _ _ (h.cell i hi)
  · simp only [if_neg e]
    rw [World.cell?_setCell_other _ _ _ _ (by intro h; injection h with _ h2 _; exact e h2.symm)]
    exact h.cell i hi
theorem deadAt_new (w : World) (n : Nat) (t : TypeId) : DeadAt (w.alloc (.cells (noes n) t)) w.heap.size n (fun _ => false) := by
  refine ⟨fun i hi => ?_, fun i => by simp⟩
  have := heap_alloc1 w (.cells (noes n) t)
  exact cell_in this (noes_get hi)

/-- The invariant of the outer loop. -/
def Inv (W : World) (d p n : Nat) (ws : Int) (A : Nat → Ans × List Int) (k : Nat) (w : World) : Prop :=
  ∃ (L : List (Int × Int)) (D : List Int) (df : Nat → Bool), PoolX W.heap.size d p ws L D w ∧ (L.map (·.1)).Nodup ∧ DeadAt w d n df ∧ (∀ j, j < k → df j = true → al (A j).1.t L = false ∧ (A j).1.t ∈ D) ∧ Below W.heap.size W w ∧ d < w.heap.size ∧ W.heap.size ≤ d

theorem inv_start {W w1 : World} {n p : Nat} {ws : Int} {A : Nat → Ans × List Int} (hP : PoolFrom W.heap.size p ws [] [] w1) (hb : Below W.heap.size W w1) (t : TypeId) : Inv W w1.heap.size p n ws A 0 (w1.alloc (.cells (noes n) t)) := by
  obtain ⟨ml, md, h1, h2, h3, h4⟩ := hP
  refine ⟨[], [], fun _ => false, ⟨ml, md, h1.below ((Below.refl _ _).alloc (Nat.le_refl _) _), h2, by have := h1.lt; omega, fun b e => ⟨h3 b e, by have := (h1.live_lt e).1; omega⟩, fun b e => ⟨h4 b e, by have := (h1.dead_lt e).1; omega⟩⟩, List.nodup_nil, deadAt_new w1 n t, fun j hj => absurd hj (Nat.not_lt_zero j), hb.alloc hb.size _, by simp, hb.size⟩

/-- One round: what it leaves of the invariant. -/
theorem inv_step {W w w2 : World} {d p n k : Nat} {ws : Int} {A : Nat → Ans × List Int} {L L' : List (Int × Int)} {D D' : List Int} {df : Nat → Bool} {ok : Bool} {kd r x : Int} (hn : (L.map (·.1)).Nodup) (hD : DeadAt w d n df)
    (hdead : ∀ j, j < k → df j = true → al (A j).1.t L = false ∧ (A j).1.t ∈ D) (hb : Below W.heap.size W w) (hd : d < w.heap.size) (hWd : W.heap.size ≤ d)
    (hdid : Did L D kd r (A k).1.t x ok L' D') (hP : PoolX W.heap.size d p ws L' D' w2) (hb2 : Below W.heap.size w w2) (he : w2.heap[d]? = w.heap[d]?) (hk : k < n) (v : Bool) (hv : v = (al (A k).1.t L && !al (A k).1.t L')) :
    ∃ df' : Nat → Bool, PoolX W.heap.size d p ws L' D' (w2.setCell ⟨d, k, none⟩ (.bool v)) ∧ (L'.map (·.1)).Nodup ∧ DeadAt (w2.setCell ⟨d, k, none⟩ (.bool v)) d n df' ∧
      (∀ j, j < k + 1 → df' j = true → al (A j).1.t L' = false ∧ (A j).1.t ∈ D') ∧ Below W.heap.size W (w2.setCell ⟨d, k, none⟩ (.bool v)) ∧ d < (w2.setCell ⟨d, k, none⟩ (.bool v)).heap.size := by
  refine ⟨fun i => if i = k then v else df i, hP.set k _, hdid.nodup hn, (hD.of_block he).set hk v, fun j hj hjt => ?_, (hb.trans hb2).setCell hWd _, by have := hb2.size; simp [World.setCell]; omega⟩
  by_cases e : j = k
  · subst e
    simp only [if_true] at hjt
    rw [hv] at hjt
    simp only [Bool.and_eq_true, Bool.not_eq_true'] at hjt
    exact ⟨hjt.2, (hdid.died hjt.1 hjt.2).2.2.2⟩
  · simp only [if_neg e] at hjt
    have := hdead j (by omega) hjt
    exact hdid.dead hn this.1 this.2

/-- The eight ways through the law's long test, all of which come to false. -/
theorem ways {L L' : List (Int × Int)} {D D' : List Int} {k r t x : Int} {ok : Bool} (h : Did L D k r t x ok L' D') :
    (al t L = true ∧ al t L' = true ∧ toldB t L D = true ∧ toldB t L' D' = true ∧ ok = true) ∨ (al t L = true ∧ al t L' = true ∧ toldB t L D = true ∧ toldB t L' D' = true ∧ ok = false) ∨
    (al t L = true ∧ al t L' = false ∧ toldB t L D = true ∧ toldB t L' D' = true ∧ ok = true ∧ (k != 4) = false ∧ (r != 0) = false) ∨ (al t L = false ∧ al t L' = true ∧ toldB t L D = false ∧ ok = true ∧ (k != 3) = false) ∨
    (al t L = false ∧ al t L' = false ∧ toldB t L D = true ∧ toldB t L' D' = true ∧ ok = true) ∨ (al t L = false ∧ al t L' = false ∧ toldB t L D = true ∧ toldB t L' D' = true ∧ ok = false) ∨
    (al t L = false ∧ al t L' = false ∧ toldB t L D = false ∧ ok = true) ∨ (al t L = false ∧ al t L' = false ∧ toldB t L D = false ∧ ok = false) := by
  cases hw : al t L
  · cases hi : al t L'
    · cases ht : toldB t L D
      · cases ok
        · exact .inr (.inr (.inr (.inr (.inr (.inr (.inr ⟨rfl, rfl, rfl, rfl⟩))))))
        · exact .inr (.inr (.inr (.inr (.inr (.inr (.inl ⟨rfl, rfl, rfl, rfl⟩))))))
      · have h' := h.told ht
        cases ok
        · exact .inr (.inr (.inr (.inr (.inr (.inl ⟨rfl, rfl, rfl, h', rfl⟩)))))
        · exact .inr (.inr (.inr (.inr (.inl ⟨rfl, rfl, rfl, h', rfl⟩))))
    · obtain ⟨h1, h2, h3⟩ := h.born hw hi
      exact .inr (.inr (.inr (.inl ⟨rfl, rfl, h2, h3, by simp [h1]⟩)))
  · have ht : toldB t L D = true := told_iff.2 (.inl hw)
    have h' := h.told ht
    cases hi : al t L'
    · obtain ⟨h1, h2, h3, _⟩ := h.died hw hi
      exact .inr (.inr (.inl ⟨rfl, rfl, ht, h', h3, by simp [h1], by simp [h2]⟩))
    · cases ok
      · exact .inr (.inl ⟨rfl, rfl, ht, h', rfl⟩)
      · exact .inl ⟨rfl, rfl, ht, h', rfl⟩

set_option maxRecDepth 100000 in
theorem dead_nil (n : Int) (ad : Option Addr) (cap : Nat) (W : World) : Calls Try.prog 6 #[.int .i64 n, .slice ad 0 cap] W fun e w' => e = .returned (.bool true) ∧ Below W.heap.size W w' := by
  have hmk : ∀ w : World, (Instr.makeSlice 45 (.int .i64 0) (.int .i64 0)).run Try.prog w = .ok (.slice (some ⟨w.heap.size, 0, none⟩) 0 0) (w.alloc (.cells (noes 0) 4)) := fun w => make_bools 0 (by omega) w
  go_enter Try.func6, Try.ntmps6
  go_wp2_with fail
  refine (awake _).mono ?_
  rintro e w1 ⟨rfl, hb1⟩
  have HB := Lib.hid hb1
  clear hb1
  go_wp2_with fail
  refine (great_nil _ _ _).mono ?_
  rintro e w' ⟨rfl, rfl⟩
  go_wp2_with fail
  refine (new_from _ _).mono ?_
  rintro e w2 ⟨rfl, hP2, hb2⟩
  have HB2 := Lib.hid (HB.out.trans (hb2.mono HB.out.size))
  have hs2 := HB2.out.size
  clear hP2 hb2 HB
  go_wp2
  refine wp_loop_rounds 1 ?_
  rw [rounds_succ]
  go_wp2
  go_ret
  exact ⟨rfl, HB2.out.alloc hs2 _⟩

set_option maxRecDepth 100000 in
set_option maxHeartbeats 4000000 in
theorem dead_some (ws0 : Int) (b off n cap : Nat) (A : Nat → Ans × List Int) (W : World) (hn : n ≤ maxLen) (hbW : b < W.heap.size) (h : ∀ i, i < n → AnsAt W b (off + i * 10) (A i).1 (A i).2) :
    Calls Try.prog 6 #[.int .i64 ws0, .slice (some ⟨b, off, none⟩) n cap] W fun e w' => e = .returned (.bool true) ∧ Below W.heap.size W w' := by
  have H := Lib.hid h
  have HN := Lib.hid hn
  clear h hn
  cases hg : gr n A
  · have hgr := gr_false hg
    have hn60 := hgr.1
    have HS := Lib.hid hgr.2
    have HG := Lib.hid hg
    clear hg hgr
    have hmk := make_bools n hn60
    go_enter Try.func6, Try.ntmps6
    go_wp2_with fail
    refine (awake _).mono ?_
    rintro e w1 ⟨rfl, hb1⟩
    have HB := Lib.hid hb1
    clear hb1
    go_wp2_with fail
    refine (great b off n cap A _ HN.out (fun i hi => (H.out i hi).below HB.out)).mono ?_
    rintro e w' ⟨rfl, rfl⟩
    have hg := HG.out
    go_wp2_with fail
    refine (new_from _ _).mono ?_
    rintro e w2 ⟨rfl, hP2, hb2⟩
    have HB2 := Lib.hid (HB.out.trans (hb2.mono HB.out.size))
    have HP2 : Hid (PoolFrom W.heap.size w1.heap.size (cl ws0) [] [] w2) := by
      obtain ⟨ml, md, q1, q2, q3, q4⟩ := hP2
      exact ⟨ml, md, q1, HB.out.size, fun b e => Nat.le_trans HB.out.size (q3 b e), fun b e => Nat.le_trans HB.out.size (q4 b e)⟩
    generalize w1.heap.size = p at *
    clear hP2 hb2 HB hg
    go_wp2
    have HI := Lib.hid (inv_start (n := n) (A := A) HP2.out HB2.out 4)
    generalize w2.alloc (.cells (noes n) 4) = w3 at *
    generalize w2.heap.size = d at *
    clear HB2 HP2 hmk
    go_loopw [7] (fun i w' => ∃ k : Nat, k ≤ n ∧ i = .int .i64 k ∧ Hid (Inv W d p n (cl ws0) A k w')) (fun i _ => n - (intOf i).toNat)
    case atStart => exact ⟨0, Nat.zero_le _, rfl, HI.out⟩
    case round =>
      obtain ⟨k, hk, rfl, hinv⟩ := hrel
      clear HI HG
      by_cases hlt : k < n
      · obtain ⟨L, D, df, hP, hnd, hD, hdead, hBel, hdw, hWd⟩ := hinv.out
        have hA := (H.out k hlt).below hBel
        have ac0 := hA.c0
        have ac1 := hA.c1
        have ac2 := hA.c2
        have ac3 := hA.c3
        have ac4 := hA.c4
        have ac5 := hA.c5
        have ac6 := hA.c6
        have ac7 := hA.c7
        have ac8 := hA.c8
        have ac9 := hA.c9
        have HR := Lib.hid hA.read
        have hxs := HS.out k hlt
        have HDid := Lib.hid (did (cl ws0) L D (A k).1.kind (A k).1.ret (A k).1.t (A k).1.x (A k).2)
        have hBs := hBel.size
        have HP := Lib.hid hP
        have HND := Lib.hid hnd
        have HD := Lib.hid hD
        have HDead := Lib.hid hdead
        have HBel := Lib.hid hBel
        clear hinv hP hnd hD hdead hBel hA
        go_wp2_with fail
        refine (live_x HP.out _).mono ?_
        rintro e w' ⟨rfl, rfl⟩
        go_wp2_with fail
        refine (told_x HP.out _).mono ?_
        rintro e w' ⟨rfl, rfl⟩
        go_wp2_with fail
        refine (step_x HP.out hBs hdw _ _ _ _ _ _ _ _ _ _ (A k).2 HR.out (by omega)).mono ?_
        rintro e w4 ⟨rfl, hP4, hb4, he4⟩
        have HP4 := Lib.hid hP4
        have HB4 := Lib.hid (HBel.out.trans hb4)
        have hA4 := (H.out k hlt).below HB4.out
        have bc0 := hA4.c0
        have bc7 := hA4.c7
        have bc8 := hA4.c8
        have hD4 := HD.out.of_block he4
        have hDk := hD4.cell k hlt
        have hDf := hD4.free k
        have HB4' := Lib.hid hb4
        have HE4 := Lib.hid he4
        clear hP4 hb4 hA4 hD4 he4 ac0 ac1 ac2 ac3 ac4 ac5 ac6 ac7 ac8 ac9 HR
        generalize stL (cl ws0) L D (A k).1.kind (A k).1.ret (A k).1.t (A k).1.x (A k).2 = L' at *
        generalize stD (cl ws0) L D (A k).1.kind (A k).1.ret (A k).1.t (A k).2 = D' at *
        generalize stepOk (cl ws0) L D (A k).1.kind (A k).1.ret (A k).1.t (A k).2 = ok at *
        go_wp2_with fail
        refine (live_x HP4.out _).mono ?_
        rintro e w' ⟨rfl, rfl⟩
        have HI4 := Lib.hid (fun v hv => inv_step HND.out HD.out HDead.out HBel.out hdw hWd HDid.out HP4.out HB4'.out HE4.out hlt v hv)
        rcases ways HDid.out with ⟨hw, hi, ht, ht', rfl⟩ | ⟨hw, hi, ht, ht', rfl⟩ | ⟨hw, hi, ht, ht', rfl, hkd, hrt⟩ | ⟨hw, hi, ht, rfl, hkd⟩ | ⟨hw, hi, ht, ht', rfl⟩ | ⟨hw, hi, ht, ht', rfl⟩ | ⟨hw, hi, ht, rfl⟩ | ⟨hw, hi, ht, rfl⟩
        all_goals
          go_wp2_with (first | (go_at_call 31; refine (told_x HP4.out _).mono ?_; rintro e w' ⟨rfl, rfl⟩))
          (first | (have hfin := HI4.out false (by rw [hw, hi]; rfl); generalize w4.setCell ⟨d, k, none⟩ (.bool false) = w5 at *) | (have hfin := HI4.out true (by rw [hw, hi]; rfl); generalize w4.setCell ⟨d, k, none⟩ (.bool true) = w5 at *))
          obtain ⟨df', hP5, hnd5, hD5, hdead5, hB5, hd5⟩ := hfin
          have HP5 := Lib.hid hP5
          have HND5 := Lib.hid hnd5
          have HD5 := Lib.hid hD5
          have HDead5 := Lib.hid hdead5
          have HB5 := Lib.hid hB5
          clear hP5 hnd5 hD5 hdead5 hB5 HI4 hw hi ht HDid HP4 HB4 HB4' HE4 bc0 bc7 bc8 hDk hDf HP HND HD HDead HBel
          try clear ht'
          try clear hkd
          try clear hrt
          go_loop [14] (fun j => ∃ m : Nat, m ≤ k + 1 ∧ j = .int .i64 m) (fun j => k + 1 - (intOf j).toNat)
          case atStart => exact ⟨0, Nat.zero_le _, rfl⟩
          case round =>
            obtain ⟨m, hm, rfl⟩ := hrel
            by_cases hmk : m ≤ k
            · have hmn : m < n := by omega
              have hcell := HD5.out.cell m hmn
              have hAm := (H.out m hmn).below HB5.out
              have ac7 := hAm.c7
              clear hAm
              cases hdm : df' m
              · rw [hdm] at hcell
                clear hdm
                go_wp2
                go_round
                case rel => exact ⟨m + 1, by omega, by go_num⟩
                case measure => simp [intOf]; omega
              · rw [hdm] at hcell
                have hal := (HDead5.out m (by omega) hdm).1
                clear hdm
                go_wp2_with (first | (go_at_call 30; refine (live_x HP5.out _).mono ?_; rintro e w' ⟨rfl, rfl⟩))
                go_round
                case rel => exact ⟨m + 1, by omega, by go_num⟩
                case measure => simp [intOf]; omega
            · go_wp2
              go_roundw
              case rel => exact ⟨k + 1, by omega, by go_num, ⟨L', D', df', HP5.out, HND5.out, HD5.out, HDead5.out, HB5.out, hd5, hWd⟩⟩
              case measure => simp [intOf]; omega
      · have HE : Hid (Below W.heap.size W wr) := by
          obtain ⟨_, _, _, _, _, _, _, h, _⟩ := hinv.out
          exact h
        clear hinv
        go_wp2
        go_ret
        exact ⟨rfl, HE.out⟩
  · have HG := Lib.hid hg
    clear hg
    go_enter Try.func6, Try.ntmps6
    go_wp2_with fail
    refine (awake _).mono ?_
    rintro e w1 ⟨rfl, hb1⟩
    have HB := Lib.hid hb1
    clear hb1
    go_wp2_with fail
    refine (great b off n cap A _ HN.out (fun i hi => (H.out i hi).below HB.out)).mono ?_
    rintro e w' ⟨rfl, rfl⟩
    have hg := HG.out
    go_wp2
    go_ret
    exact ⟨rfl, HB.out⟩
end Go.Proofs.Ytgpnmcigieeknaa.Idl

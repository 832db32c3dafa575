/- The law MemoryPlays, the way that plays (made by genmemplays2.py). -/
import Derived.Test.YtgjkjobemnhbmaaMemPlaysA
import Derived.IntWalk
import Derived.Laws.StructEq
namespace Go.Proofs.Ytgjkjobemnhbmaa.Me
open Go Go.RowKit Go.Proofs.Ytgjkjobemnhbmaa.Gro Go.Proofs.Ytgjkjobemnhbmaa.Own Go.Proofs.Ytgjkjobemnhbmaa.Wd Go.Proofs.Ytgjkjobemnhbmaa.Ap Go.Proofs.Ytgjkjobemnhbmaa.Pl
set_option linter.unusedVariables false
set_option linter.unusedSimpArgs false
theorem build_ref (c : Cfg) (v : Sl) (w : World) : (Instr.build 41 #[(0, cv c), (1, v.v)]).run Try.prog w = .ok (.agg (rc c a0 v)) w := run_build w _ _ _ (by kernel_rfl)
theorem neq_acc (a : Acc) (w : World) : (binOp .neq 39 (av a) (av a)).run Try.prog w = .ok (.bool false) w := by
  rw [run_neq_struct]
  go_simp
theorem guard_accN (a b : Acc) (x y : Operand) (w : World) : (eqGuard .neq 39 x y (av a) (av b)).run Try.prog w = .ok () w := run_eqGuard_agg w .neq _ x y _ _ (by kernel_rfl)
theorem eql_cfg (c : Cfg) (w : World) : (binOp .eql 24 (cv c) (cv c)).run Try.prog w = .ok (.bool true) w := by
  rw [run_eql_struct]
  go_simp
theorem guard_cfg (c : Cfg) (x y : Operand) (w : World) : (eqGuard .eql 24 x y (cv c) (cv c)).run Try.prog w = .ok () w := run_eqGuard_agg w .eql _ x y _ _ (by kernel_rfl)
theorem same_true {w : World} {v1 v2 : Value} {l : List Int} (h1 : Reads w .u64 v1 l) (h2 : Reads w .u64 v2 l) : Calls Try.prog 28 #[v1, v2] w fun e w' => e = .returned (.bool true) ∧ Below w.heap.size w w' := by
  have h := same h1 h2
  rwa [decide_eq_true rfl] at h
/-- Both memories, with the same words and the same last access. -/
structure Both2 (w3 : World) (g gl cp g2 gl2 cp2 : Nat) (c : Cfg) (a : Acc) (L : List Int) (w : World) : Prop where
  M : MemAt w3.heap.size w g c a gl cp L
  R : RefMem w3.heap.size w g2 c a gl2 cp2 L
  h1 : g ≠ g2
  h2 : g ≠ gl2
  h3 : gl ≠ g2
  h4 : gl ≠ gl2
  below : Below w3.heap.size w3 w
theorem Both2.keep {w3 w w' : World} {g gl cp g2 gl2 cp2 : Nat} {c : Cfg} {a : Acc} {L : List Int} (h : Both2 w3 g gl cp g2 gl2 cp2 c a L w) (hb : Below w.heap.size w w') : Both2 w3 g gl cp g2 gl2 cp2 c a L w' :=
  ⟨h.M.keep hb, h.R.keep hb, h.h1, h.h2, h.h3, h.h4, h.below.trans (hb.mono h.below.size)⟩
/-- An operation on the one and on the other, in either order. -/
theorem Both2.step {w3 w u v : World} {g gl cp g2 gl2 cp2 : Nat} {c : Cfg} {a a' : Acc} {L L' : List Int} (h : Both2 w3 g gl cp g2 gl2 cp2 c a L w) (M : MemAt w3.heap.size u g c a' gl cp L') (tm : Touch g gl w u) (R : RefMem w3.heap.size v g2 c a' gl2 cp2 L') (tr : Touch g2 gl2 u v) : Both2 w3 g gl cp g2 gl2 cp2 c a' L' v := by
  have b1 := h.below
  have q1 := h.M.g0
  have q2 := h.M.gl0
  have q3 := h.R.g0
  have q4 := h.R.gl0
  exact ⟨M.apart tr h.h1 h.h2 h.h3 h.h4, R, h.h1, h.h2, h.h3, h.h4, (b1.trans (tm.below q1 q2 b1.size)).trans (tr.below q3 q4 (Nat.le_trans b1.size tm.size))⟩
theorem Both2.step' {w3 w u v : World} {g gl cp g2 gl2 cp2 : Nat} {c : Cfg} {a a' : Acc} {L L' : List Int} (h : Both2 w3 g gl cp g2 gl2 cp2 c a L w) (R : RefMem w3.heap.size u g2 c a' gl2 cp2 L') (tr : Touch g2 gl2 w u) (M : MemAt w3.heap.size v g c a' gl cp L') (tm : Touch g gl u v) : Both2 w3 g gl cp g2 gl2 cp2 c a' L' v := by
  have b1 := h.below
  have q1 := h.M.g0
  have q2 := h.M.gl0
  have q3 := h.R.g0
  have q4 := h.R.gl0
  exact ⟨M, R.apart tm h.h1.symm h.h3.symm h.h2.symm h.h4.symm, h.h1, h.h2, h.h3, h.h4, (b1.trans (tr.below q3 q4 b1.size)).trans (tm.below q1 q2 (Nat.le_trans b1.size tr.size))⟩
set_option maxRecDepth 100000 in
set_option maxHeartbeats 40000000 in
theorem plays_good_pos (c : Cfg) (hf : c.Wf) (ad ad2 : Option Addr) (n cap na cap2 : Nat) (hg : greatC c = false) (hn : n ≤ 400) (hna : na ≤ 60) (hk : chk c = 0) (L : List Int) (hl : L.length = n) (hs : (n : Int) = siz c)  (w : World) (hr : Reads w .u64 (.slice ad n cap) L) (HCASE : RowKit.Hid (na = 0 ∨ ∃ b2 off2, ad2 = some ⟨b2, off2, none⟩ ∧ ∀ k, k < na → ∀ {w' : World}, Below w.heap.size w w' → ∃ kd at_ x y : Int, w'.cell? ⟨b2, off2 + k * 4, none⟩ = some (.int .i64 kd) ∧ w'.cell? ⟨b2, off2 + k * 4 + 1, none⟩ = some (.int .i64 at_) ∧ w'.cell? ⟨b2, off2 + k * 4 + 2, none⟩ = some (.int .u64 x) ∧ w'.cell? ⟨b2, off2 + k * 4 + 3, none⟩ = some (.int .u64 y))) :
    Calls Try.prog 3 #[cv c, .slice ad n cap, .slice ad2 na cap2] w fun e w' => e = .returned (.bool true) ∧ Below w.heap.size w w' := by
  have C0 := Bk.new w (ccM c) 24
  have hw0 : Below w.heap.size w (w.alloc (.cells (ccM c) 24)) := (Below.refl _ _).alloc (Nat.le_refl _) _
  have HG := Lib.hid (fun w => hg ▸ greatMem c hf w)
  go_enter Try.func3, Try.ntmps3
  go_wp2_with fail
  refine (awake3 _).mono ?_
  rintro e w1 ⟨rfl, hb1⟩
  have C1 := C0.keep hb1
  have hw1 := hw0.trans (hb1.mono hw0.size)
  clear C0 hw0 hb1
  go_wp2_with (refine wpList_load_row rfl 24 _ rfl w.heap.size rfl _ (ccM c) (0, 0) _ (by exact C1) Try.underlying24 rfl (by kernel_rfl) ?_)
  refine (HG.out _).mono ?_
  rintro e w2 ⟨rfl, hb2⟩
  have C2 := C1.keep hb2
  have hw2 := hw1.trans (hb2.mono hw1.size)
  clear C1 hw1 hb2 HG
  have d1 : decide ((400 : Int) < (n : Int)) = false := by simp; omega
  have d2 : decide ((60 : Int) < (na : Int)) = false := by simp; omega
  have hr2 := hr.keep hw2
  go_wp2_with fail
  refine (copyWords (v := ⟨ad, n, cap⟩) (by omega) hr2).mono ?_
  rintro e w3 ⟨y, rfl, hy, hb3⟩
  have C3 := C2.keep hb3
  have hw3 := hw2.trans (hb3.mono hw2.size)
  have hyr := Reads.of_own hy rfl
  clear C2 hw2 hb3
  go_wp2_with (refine wpList_load_row rfl 24 _ rfl w.heap.size rfl _ (ccM c) (0, 0) _ (by exact C3) Try.underlying24 rfl (by kernel_rfl) ?_)
  have hL0 : 0 < L.length := by
    have hok := chk_ok.1 hk
    have q1 := hok.ww
    have q2 := hok.sl
    have q3 := hok.en
    have q4 := hok.bl
    have q5 := hok.wd
    have := mul_range (a := c.sl) (b := c.bl) (A := 8) (B := 16) (by omega) (by omega) (by omega) (by omega)
    have := mul_range (a := c.sl * c.bl) (b := 1 + c.wd) (A := 128) (B := 5) (by omega) (by omega) (by omega) (by omega)
    rw [siz, if_pos (okB_of_ok hok)] at hs
    omega
  refine (from_ok c hf (chk_ok.1 hk) y L (by rw [hl]; exact hs) _ hyr).mono ?_
  rintro e w4 ⟨g, gl, cp, rfl, M4, hb4⟩
  have C4 := C3.keep hb4
  have HK := Lib.hid (fun w => hk ▸ refCheck c hf w)
  have HA := Lib.hid (refAll c (chk_ok.1 hk))
  have HSP := Lib.hid (spots_len (chk_ok.1 hk))
  have HS := Lib.hid hs
  have HLN := Lib.hid hl
  have HC3 := Lib.hid C3
  clear C3 hk hs
  go_wp2_with (refine wpList_load_row rfl 24 _ rfl w.heap.size rfl _ (ccM c) (0, 0) _ (by exact C4) Try.underlying24 rfl (by kernel_rfl) ?_)
  refine (HK.out _).mono ?_
  rintro e w5 ⟨rfl, hb5⟩
  have C5 := C4.keep hb5
  have M5 := M4.keep hb5
  have hb35 := hb4.trans (hb5.mono hb4.size)
  clear C4 hb5 M4 hb4
  go_wp2_with (refine Wo.wpList_load_row_w rfl 24 _ rfl w.heap.size rfl _ (ccM c) (0, 0) _ (by exact C5) Try.underlying24 rfl (by kernel_rfl) ?_)
  refine (HA.out _).mono ?_
  rintro e w6 ⟨v, rfl, hv, hb6⟩
  have C6 := C5.keep hb6
  have M6 := M5.keep hb6
  have hb36 := hb35.trans (hb6.mono hb35.size)
  obtain ⟨z, hz, hzl⟩ := owns_slN hv
  subst hz
  have hzn : n = z.len := by have := HS.out; have := HSP.out; omega
  have hne : ((n : Int) != (z.len : Int)) = false := by rw [← hzn]; simp
  have hne2 : (n != z.len) = false := by rw [← hzn]; simp
  have hr6 := hr.keep (hw3.trans (hb36.mono hw3.size))
  have HL0 := Lib.hid (And.intro (show L.length ≤ 1000 by omega) hL0)
  have hbr := build_ref c
  have MD := M6.keep (w' := w6.drew) (Below.drew (Below.refl _ _))
  have hrd := hr6.keep (w' := w6.drew) (Below.drew (Below.refl _ _))
  clear hv hzl hzn C5 M5 hb35 hb6 hr2 hL0 hl
  go_wp2
  go_region_held3 (fun w' => w'.cell? ⟨w.heap.size, 0, none⟩ = some (.int .i64 c.ww) ∧ w'.cell? ⟨w.heap.size, 1, none⟩ = some (.int .i64 c.sl) ∧ w'.cell? ⟨w.heap.size, 2, none⟩ = some (.int .i64 c.bl) ∧ w'.cell? ⟨w.heap.size, 3, none⟩ = some (.int .i64 c.wd) ∧ w'.cell? ⟨w.heap.size, 4, none⟩ = some (.int .i64 c.en) ∧ w'.cell? ⟨w.heap.size, 5, none⟩ = some (.int .i64 c.rk) ∧ w'.cell? ⟨w.heap.size, 6, none⟩ = some (.int .i64 c.bg) ∧ w'.cell? ⟨w.heap.size, 7, none⟩ = some (.int .u64 c.la)) (first | exact box8 (w := w6.drew) C6 | exact box8 C7 | exact box8 (C7.alloc _)) ((go_at_call 13; refine (copyWords (v := ⟨ad, n, cap⟩) HL0.out.1 (w := w6.drew) hrd).mono ?_; rintro e w7 ⟨y2, rfl, hy2, hb7⟩; have C7 := Bk.keep (w := w6.drew) C6 hb7))
  obtain ⟨gl2, cp2, hyv, hgl0, hgl1, hc1, hc2, _⟩ := owns_cells hy2 HL0.out.2
  obtain ⟨ad', ln, cpp⟩ := y2
  simp only [Value.slice.injEq] at hyv
  obtain ⟨rfl, rfl, rfl⟩ := hyv
  have M7 := MD.keep hb7
  have lt6 := MD.lt
  have b67 : Below w6.heap.size w6 w7 := (Below.drew (Below.refl w6.heap.size w6)).trans hb7
  have al : Below w7.heap.size w7 (w7.alloc (.cells (rc c a0 ⟨some ⟨gl2, 0, none⟩, L.length, cpp⟩) 41)) := (Below.refl _ _).alloc (Nat.le_refl _) _
  have R8 : RefMem w3.heap.size (w7.alloc (.cells (rc c a0 ⟨some ⟨gl2, 0, none⟩, L.length, cpp⟩) 41)) w7.heap.size c a0 gl2 cpp L := ⟨Bk.new _ _ _, (owns_base hy2 hb36.size).alloc _, Nat.le_trans hb36.size b67.size, by omega⟩
  have s67 := b67.size
  simp only [World.size_drew] at lt6 hgl0
  have B8 : Both2 w3 g gl cp w7.heap.size gl2 cpp c a0 L (w7.alloc (.cells (rc c a0 ⟨some ⟨gl2, 0, none⟩, L.length, cpp⟩) 41)) := ⟨M7.keep al, R8, by omega, by omega, by omega, by omega, (hb36.trans (b67.mono hb36.size)).trans (al.mono (Nat.le_trans hb36.size b67.size))⟩
  clear M6 MD M7 R8 al hy2 hb7 C7 hbr hne hne2 C6 hrd hr6
  go_wp2
  obtain ⟨gr, hgr⟩ : ∃ u, u = w7.heap.size := ⟨_, rfl⟩
  rw [← hgr] at B8 ⊢
  clear hgr b67 lt6 s67 hgl0 hgl1
  have HB8 := Lib.hid B8
  clear B8
  have HW3 := Lib.hid hw3
  have HHR := Lib.hid hr
  have HYR := Lib.hid hyr
  clear hw3 hr hyr hb36
  go_loopw [12] (fun i wr => ∃ (k : Nat) (a' : Acc) (L' : List Int), k ≤ na ∧ i = .int .i64 k ∧ L'.length = L.length ∧ Both2 w3 g gl cp gr gl2 cpp c a' L' wr) (fun i _ => na - (intOf i).toNat)
  case atStart => exact ⟨0, a0, L, Nat.zero_le _, rfl, rfl, HB8.out⟩
  case round =>
    obtain ⟨k, a', L', hk, rfl, hLL, B⟩ := hrel
    clear HB8
    have hm : L'.length ≤ 1000 := by have := HL0.out.1; omega
    by_cases hlt : k < na
    · obtain ⟨b2, off2, had2, HACT⟩ := HCASE.out.resolve_left (by omega)
      subst had2
      obtain ⟨kd, at_, x, yv, q0, q1, q2, q3⟩ := HACT k hlt (HW3.out.trans (B.below.mono HW3.out.size))
      have B1 := B.keep ((Below.refl wr.heap.size wr).alloc (Nat.le_refl _) (.cells #[.int .i64 kd, .int .i64 at_, .int .u64 x, .int .u64 yv] 43))
      have AB := Bk.new wr #[.int .i64 kd, .int .i64 at_, .int .u64 x, .int .u64 yv] 43
      have n1 : wr.heap.size ≠ g := by have := B.M.lt.1; omega
      have n2 : wr.heap.size ≠ gl := by have := B.M.lt.2; omega
      have n3 : wr.heap.size ≠ gr := by have := B.R.lt.1; omega
      have n4 : wr.heap.size ≠ gl2 := by have := B.R.lt.2; omega
      have hsum : IntKind.i64.wrap ((k : Int) + 1) = (k : Int) + 1 := IntWalk.i64_in _ (by omega)
      obtain ⟨u1, hu1⟩ : ∃ u, u = wr.alloc (.cells #[.int .i64 kd, .int .i64 at_, .int .u64 x, .int .u64 yv] 43) := ⟨_, rfl⟩
      clear B HACT
      by_cases k1 : kd = 1
      · subst k1
        by_cases hin : 0 ≤ at_ ∧ at_ < (L'.length : Int)
        · obtain ⟨i, hi'⟩ : ∃ i : Nat, at_ = (i : Int) := ⟨at_.toNat, by omega⟩
          subst hi'
          have hi : i < L'.length := by omega
          clear hin
          as_aux_lemma =>
            go_wp2
            have hS0 : Bk (wr.alloc (.cells #[.int .i64 1, .int .i64 (i : Int), .int .u64 x, .int .u64 yv] 43)).drew wr.heap.size #[.int .i64 1, .int .i64 (i : Int), .int .u64 x, .int .u64 yv] 43 := AB.keep (Below.drew (Below.refl _ _))
            have BD := B1.keep (w' := (wr.alloc (.cells #[.int .i64 1, .int .i64 (i : Int), .int .u64 x, .int .u64 yv] 43)).drew) (Below.drew (Below.refl _ _))
            refine wp_region_held_drew (S := fun w' => Bk w' wr.heap.size #[.int .i64 1, .int .i64 (i : Int), .int .u64 x, .int .u64 yv] 43) (by kernel_rfl) hS0 (fun hHeld => ?_)
            generalize (wr.alloc (.cells #[.int .i64 1, .int .i64 (i : Int), .int .u64 x, .int .u64 yv] 43)).drew = v0 at *
            refine wpAnyH_take (i := 0) (oi := _) (v := .pointer (some ⟨g, 0, none⟩)) rfl (by kernel_rfl) (by kernel_rfl) (by kernel_rfl) (fun _ _ _ h => h) (Or.inl ⟨by rfl, fun w' hSw => by have xx := hSw.cells; go_simp⟩) hHeld ?_
            try simp only [Act.put, List.getElem_toArray, List.getElem_cons_succ, List.getElem_cons_zero, List.setIfInBounds_toArray, List.set_cons_succ, List.set_cons_zero]
            refine wpAnyH_take (i := 1) (oi := _) (v := .pointer (some ⟨wr.heap.size, 1, none⟩)) rfl (by kernel_rfl) (by kernel_rfl) (by kernel_rfl) (fun _ _ _ h => h) (Or.inl ⟨by rfl, fun w' hSw => by have xx := hSw.cells; go_simp⟩) hHeld ?_
            try simp only [Act.put, List.getElem_toArray, List.getElem_cons_succ, List.getElem_cons_zero, List.setIfInBounds_toArray, List.set_cons_succ, List.set_cons_zero]
            refine wpAnyH_take (i := 2) (oi := _) (v := .int .i64 (i : Int)) rfl (by kernel_rfl) (by kernel_rfl) (by kernel_rfl) (fun _ _ _ h => h) (Or.inl ⟨by rfl, fun w' hSw => by have xx := hSw.cells; go_simp⟩) hHeld ?_
            try simp only [Act.put, List.getElem_toArray, List.getElem_cons_succ, List.getElem_cons_zero, List.setIfInBounds_toArray, List.set_cons_succ, List.set_cons_zero]
            refine wpAnyH_take (i := 4) (oi := _) (v := .pointer (some ⟨gr, 0, none⟩)) rfl (by kernel_rfl) (by kernel_rfl) (by kernel_rfl) (fun _ _ _ h => h) (Or.inl ⟨by rfl, fun w' hSw => by have xx := hSw.cells; go_simp⟩) hHeld ?_
            try simp only [Act.put, List.getElem_toArray, List.getElem_cons_succ, List.getElem_cons_zero, List.setIfInBounds_toArray, List.set_cons_succ, List.set_cons_zero]
            refine wpAnyH_take (i := 5) (oi := _) (v := .pointer (some ⟨wr.heap.size, 1, none⟩)) rfl (by kernel_rfl) (by kernel_rfl) (by kernel_rfl) (fun _ _ _ h => h) (Or.inl ⟨by rfl, fun w' hSw => by have xx := hSw.cells; go_simp⟩) hHeld ?_
            try simp only [Act.put, List.getElem_toArray, List.getElem_cons_succ, List.getElem_cons_zero, List.setIfInBounds_toArray, List.set_cons_succ, List.set_cons_zero]
            refine wpAnyH_take (i := 6) (oi := _) (v := .int .i64 (i : Int)) rfl (by kernel_rfl) (by kernel_rfl) (by kernel_rfl) (fun _ _ _ h => h) (Or.inl ⟨by rfl, fun w' hSw => by have xx := hSw.cells; go_simp⟩) hHeld ?_
            try simp only [Act.put, List.getElem_toArray, List.getElem_cons_succ, List.getElem_cons_zero, List.setIfInBounds_toArray, List.set_cons_succ, List.set_cons_zero]
            refine wpAnyH_ready (rs := [3]) (by kernel_rfl) (by simp) ?_
            refine AllReadyH.cons (o := _) rfl (fun K hK => ?_) AllReadyH.nil
            go_simp
            refine (load_in BD.M i hi hm).mono ?_
            rintro e v1 ⟨rfl, Q1, T1⟩
            refine hK.out _ _ (T1.bk hHeld n1 n2) (fun hHeld => ?_)
            clear hK K
            try simp only [Act.put, List.getElem_toArray, List.getElem_cons_succ, List.getElem_cons_zero, List.setIfInBounds_toArray, List.set_cons_succ, List.set_cons_zero]
            refine wpAnyH_ready (rs := [7]) (by kernel_rfl) (by simp) ?_
            refine AllReadyH.cons (o := _) rfl (fun K hK => ?_) AllReadyH.nil
            go_simp
            refine (rload_in (BD.R.apart T1 BD.h1.symm BD.h3.symm BD.h2.symm BD.h4.symm) i hi hm).mono ?_
            rintro e v2 ⟨rfl, Q2, T2⟩
            refine hK.out _ _ (T2.bk hHeld n3 n4) (fun hHeld => ?_)
            clear hK K
            try simp only [Act.put, List.getElem_toArray, List.getElem_cons_succ, List.getElem_cons_zero, List.setIfInBounds_toArray, List.set_cons_succ, List.set_cons_zero]
            refine wpAnyH_take (i := 8) (oi := _) (v := .bool true) rfl (by kernel_rfl) (by kernel_rfl) (by kernel_rfl) (fun _ _ _ h => h) (Or.inl ⟨by rfl, fun w' hSw => by go_simp⟩) hHeld ?_
            try simp only [Act.put, List.getElem_toArray, List.getElem_cons_succ, List.getElem_cons_zero, List.setIfInBounds_toArray, List.set_cons_succ, List.set_cons_zero]
            refine wpAnyH_take (i := 9) (oi := _) (v := .bool true) rfl (by kernel_rfl) (by kernel_rfl) (by kernel_rfl) (fun _ _ _ h => h) (Or.inl ⟨by rfl, fun w' hSw => by go_simp⟩) hHeld ?_
            try simp only [Act.put, List.getElem_toArray, List.getElem_cons_succ, List.getElem_cons_zero, List.setIfInBounds_toArray, List.set_cons_succ, List.set_cons_zero]
            have BN := BD.step Q1 T1 Q2 T2
            clear BD Q1 Q2 T1 T2 B1 AB hS0
            refine wpAnyH_done (by kernel_rfl) ?_ _
            have xm := BN.M.B.cells
            have xr := BN.R.B.cells
            have lm := BN.M.lt.1
            have lr := BN.R.lt.1
            try simp only [World.size_alloc, size_setRow, World.size_setCell] at lm lr
            have hnq := neq_acc
            have hgq := guard_accN
            go_wp2
            refine wp_region_grown (by kernel_rfl) (by kernel_rfl) ?_
            have hg := @gcell
            repeat (go_big_quiet_step (fail))
            refine wpQuiet_nil ?_
            rintro v9 ⟨⟨_, hb9⟩, rfl⟩
            clear hg xm xr hnq hgq
            have HN := Lib.hid (BN.keep hb9)
            clear BN hb9
            go_wp2
            go_roundw
            case rel => exact ⟨k + 1, _, _, by omega, by go_num, hLL, HN.out⟩
            case measure => simp [intOf]; omega
        · have hi := hin
          clear hin
          as_aux_lemma =>
            go_wp2
            have hS0 : Bk (wr.alloc (.cells #[.int .i64 1, .int .i64 at_, .int .u64 x, .int .u64 yv] 43)).drew wr.heap.size #[.int .i64 1, .int .i64 at_, .int .u64 x, .int .u64 yv] 43 := AB.keep (Below.drew (Below.refl _ _))
            have BD := B1.keep (w' := (wr.alloc (.cells #[.int .i64 1, .int .i64 at_, .int .u64 x, .int .u64 yv] 43)).drew) (Below.drew (Below.refl _ _))
            refine wp_region_held_drew (S := fun w' => Bk w' wr.heap.size #[.int .i64 1, .int .i64 at_, .int .u64 x, .int .u64 yv] 43) (by kernel_rfl) hS0 (fun hHeld => ?_)
            generalize (wr.alloc (.cells #[.int .i64 1, .int .i64 at_, .int .u64 x, .int .u64 yv] 43)).drew = v0 at *
            refine wpAnyH_take (i := 0) (oi := _) (v := .pointer (some ⟨g, 0, none⟩)) rfl (by kernel_rfl) (by kernel_rfl) (by kernel_rfl) (fun _ _ _ h => h) (Or.inl ⟨by rfl, fun w' hSw => by have xx := hSw.cells; go_simp⟩) hHeld ?_
            try simp only [Act.put, List.getElem_toArray, List.getElem_cons_succ, List.getElem_cons_zero, List.setIfInBounds_toArray, List.set_cons_succ, List.set_cons_zero]
            refine wpAnyH_take (i := 1) (oi := _) (v := .pointer (some ⟨wr.heap.size, 1, none⟩)) rfl (by kernel_rfl) (by kernel_rfl) (by kernel_rfl) (fun _ _ _ h => h) (Or.inl ⟨by rfl, fun w' hSw => by have xx := hSw.cells; go_simp⟩) hHeld ?_
            try simp only [Act.put, List.getElem_toArray, List.getElem_cons_succ, List.getElem_cons_zero, List.setIfInBounds_toArray, List.set_cons_succ, List.set_cons_zero]
            refine wpAnyH_take (i := 2) (oi := _) (v := .int .i64 at_) rfl (by kernel_rfl) (by kernel_rfl) (by kernel_rfl) (fun _ _ _ h => h) (Or.inl ⟨by rfl, fun w' hSw => by have xx := hSw.cells; go_simp⟩) hHeld ?_
            try simp only [Act.put, List.getElem_toArray, List.getElem_cons_succ, List.getElem_cons_zero, List.setIfInBounds_toArray, List.set_cons_succ, List.set_cons_zero]
            refine wpAnyH_take (i := 4) (oi := _) (v := .pointer (some ⟨gr, 0, none⟩)) rfl (by kernel_rfl) (by kernel_rfl) (by kernel_rfl) (fun _ _ _ h => h) (Or.inl ⟨by rfl, fun w' hSw => by have xx := hSw.cells; go_simp⟩) hHeld ?_
            try simp only [Act.put, List.getElem_toArray, List.getElem_cons_succ, List.getElem_cons_zero, List.setIfInBounds_toArray, List.set_cons_succ, List.set_cons_zero]
            refine wpAnyH_take (i := 5) (oi := _) (v := .pointer (some ⟨wr.heap.size, 1, none⟩)) rfl (by kernel_rfl) (by kernel_rfl) (by kernel_rfl) (fun _ _ _ h => h) (Or.inl ⟨by rfl, fun w' hSw => by have xx := hSw.cells; go_simp⟩) hHeld ?_
            try simp only [Act.put, List.getElem_toArray, List.getElem_cons_succ, List.getElem_cons_zero, List.setIfInBounds_toArray, List.set_cons_succ, List.set_cons_zero]
            refine wpAnyH_take (i := 6) (oi := _) (v := .int .i64 at_) rfl (by kernel_rfl) (by kernel_rfl) (by kernel_rfl) (fun _ _ _ h => h) (Or.inl ⟨by rfl, fun w' hSw => by have xx := hSw.cells; go_simp⟩) hHeld ?_
            try simp only [Act.put, List.getElem_toArray, List.getElem_cons_succ, List.getElem_cons_zero, List.setIfInBounds_toArray, List.set_cons_succ, List.set_cons_zero]
            refine wpAnyH_ready (rs := [3]) (by kernel_rfl) (by simp) ?_
            refine AllReadyH.cons (o := _) rfl (fun K hK => ?_) AllReadyH.nil
            go_simp
            refine (load_out BD.M at_ hi hm).mono ?_
            rintro e v1 ⟨rfl, Q1, T1⟩
            refine hK.out _ _ (T1.bk hHeld n1 n2) (fun hHeld => ?_)
            clear hK K
            try simp only [Act.put, List.getElem_toArray, List.getElem_cons_succ, List.getElem_cons_zero, List.setIfInBounds_toArray, List.set_cons_succ, List.set_cons_zero]
            refine wpAnyH_ready (rs := [7]) (by kernel_rfl) (by simp) ?_
            refine AllReadyH.cons (o := _) rfl (fun K hK => ?_) AllReadyH.nil
            go_simp
            refine (rload_out (BD.R.apart T1 BD.h1.symm BD.h3.symm BD.h2.symm BD.h4.symm) at_ hi hm).mono ?_
            rintro e v2 ⟨rfl, Q2, T2⟩
            refine hK.out _ _ (T2.bk hHeld n3 n4) (fun hHeld => ?_)
            clear hK K
            try simp only [Act.put, List.getElem_toArray, List.getElem_cons_succ, List.getElem_cons_zero, List.setIfInBounds_toArray, List.set_cons_succ, List.set_cons_zero]
            refine wpAnyH_take (i := 8) (oi := _) (v := .bool true) rfl (by kernel_rfl) (by kernel_rfl) (by kernel_rfl) (fun _ _ _ h => h) (Or.inl ⟨by rfl, fun w' hSw => by go_simp⟩) hHeld ?_
            try simp only [Act.put, List.getElem_toArray, List.getElem_cons_succ, List.getElem_cons_zero, List.setIfInBounds_toArray, List.set_cons_succ, List.set_cons_zero]
            refine wpAnyH_take (i := 9) (oi := _) (v := .bool true) rfl (by kernel_rfl) (by kernel_rfl) (by kernel_rfl) (fun _ _ _ h => h) (Or.inl ⟨by rfl, fun w' hSw => by go_simp⟩) hHeld ?_
            try simp only [Act.put, List.getElem_toArray, List.getElem_cons_succ, List.getElem_cons_zero, List.setIfInBounds_toArray, List.set_cons_succ, List.set_cons_zero]
            have BN := BD.step Q1 T1 Q2 T2
            clear BD Q1 Q2 T1 T2 B1 AB hS0
            refine wpAnyH_done (by kernel_rfl) ?_ _
            have xm := BN.M.B.cells
            have xr := BN.R.B.cells
            have lm := BN.M.lt.1
            have lr := BN.R.lt.1
            try simp only [World.size_alloc, size_setRow, World.size_setCell] at lm lr
            have hnq := neq_acc
            have hgq := guard_accN
            go_wp2
            refine wp_region_grown (by kernel_rfl) (by kernel_rfl) ?_
            have hg := @gcell
            repeat (go_big_quiet_step (fail))
            refine wpQuiet_nil ?_
            rintro v9 ⟨⟨_, hb9⟩, rfl⟩
            clear hg xm xr hnq hgq
            have HN := Lib.hid (BN.keep hb9)
            clear BN hb9
            go_wp2
            go_roundw
            case rel => exact ⟨k + 1, _, _, by omega, by go_num, hLL, HN.out⟩
            case measure => simp [intOf]; omega

      by_cases k2 : kd = 2
      · subst k2
        by_cases hin : 0 ≤ at_ ∧ at_ < (L'.length : Int)
        · obtain ⟨i, hi'⟩ : ∃ i : Nat, at_ = (i : Int) := ⟨at_.toNat, by omega⟩
          subst hi'
          have hi : i < L'.length := by omega
          clear hin
          as_aux_lemma =>
            go_wp2_with fail
            refine (store_in B1.M i hi hm x).mono ?_
            rintro e v1 ⟨rfl, Q1, T1⟩
            have A1 := T1.bk AB n1 n2
            have xa := A1.cells
            go_wp2_with fail
            refine (rstore_in (B1.R.apart T1 B1.h1.symm B1.h3.symm B1.h2.symm B1.h4.symm) i hi hm x).mono ?_
            rintro e v2 ⟨rfl, Q2, T2⟩
            have BN := B1.step Q1 T1 Q2 T2
            clear xa A1 Q1 T1 Q2 T2 B1 AB
            have xm := BN.M.B.cells
            have xr := BN.R.B.cells
            have lm := BN.M.lt.1
            have lr := BN.R.lt.1
            try simp only [World.size_alloc, size_setRow, World.size_setCell] at lm lr
            have hnq := neq_acc
            have hgq := guard_accN
            go_wp2
            refine wp_region_grown (by kernel_rfl) (by kernel_rfl) ?_
            have hg := @gcell
            repeat (go_big_quiet_step (fail))
            refine wpQuiet_nil ?_
            rintro v9 ⟨⟨_, hb9⟩, rfl⟩
            clear hg xm xr hnq hgq
            have HN := Lib.hid (BN.keep hb9)
            clear BN hb9
            go_wp2
            go_roundw
            case rel => exact ⟨k + 1, _, _, by omega, by go_num, (by rw [List.length_set]; exact hLL), HN.out⟩
            case measure => simp [intOf]; omega
        · have hi := hin
          clear hin
          as_aux_lemma =>
            go_wp2_with fail
            refine (store_out B1.M at_ hi hm x).mono ?_
            rintro e v1 ⟨rfl, Q1, T1⟩
            have A1 := T1.bk AB n1 n2
            have xa := A1.cells
            go_wp2_with fail
            refine (rstore_out (B1.R.apart T1 B1.h1.symm B1.h3.symm B1.h2.symm B1.h4.symm) at_ hi hm x).mono ?_
            rintro e v2 ⟨rfl, Q2, T2⟩
            have BN := B1.step Q1 T1 Q2 T2
            clear xa A1 Q1 T1 Q2 T2 B1 AB
            have xm := BN.M.B.cells
            have xr := BN.R.B.cells
            have lm := BN.M.lt.1
            have lr := BN.R.lt.1
            try simp only [World.size_alloc, size_setRow, World.size_setCell] at lm lr
            have hnq := neq_acc
            have hgq := guard_accN
            go_wp2
            refine wp_region_grown (by kernel_rfl) (by kernel_rfl) ?_
            have hg := @gcell
            repeat (go_big_quiet_step (fail))
            refine wpQuiet_nil ?_
            rintro v9 ⟨⟨_, hb9⟩, rfl⟩
            clear hg xm xr hnq hgq
            have HN := Lib.hid (BN.keep hb9)
            clear BN hb9
            go_wp2
            go_roundw
            case rel => exact ⟨k + 1, _, _, by omega, by go_num, hLL, HN.out⟩
            case measure => simp [intOf]; omega

      by_cases k3 : kd = 3
      · subst k3
        by_cases hin : 0 ≤ at_ ∧ at_ < (L'.length : Int)
        · obtain ⟨i, hi'⟩ : ∃ i : Nat, at_ = (i : Int) := ⟨at_.toNat, by omega⟩
          subst hi'
          have hi : i < L'.length := by omega
          clear hin
          as_aux_lemma =>
            by_cases hx : L'[i] = x
            · subst hx
              as_aux_lemma =>
                go_wp2
                have hS0 : Bk (wr.alloc (.cells #[.int .i64 3, .int .i64 (i : Int), .int .u64 L'[i], .int .u64 yv] 43)).drew wr.heap.size #[.int .i64 3, .int .i64 (i : Int), .int .u64 L'[i], .int .u64 yv] 43 := AB.keep (Below.drew (Below.refl _ _))
                have BD := B1.keep (w' := (wr.alloc (.cells #[.int .i64 3, .int .i64 (i : Int), .int .u64 L'[i], .int .u64 yv] 43)).drew) (Below.drew (Below.refl _ _))
                refine wp_region_held_drew (S := fun w' => Bk w' wr.heap.size #[.int .i64 3, .int .i64 (i : Int), .int .u64 L'[i], .int .u64 yv] 43) (by kernel_rfl) hS0 (fun hHeld => ?_)
                generalize (wr.alloc (.cells #[.int .i64 3, .int .i64 (i : Int), .int .u64 L'[i], .int .u64 yv] 43)).drew = v0 at *
                refine wpAnyH_take (i := 0) (oi := _) (v := .pointer (some ⟨g, 0, none⟩)) rfl (by kernel_rfl) (by kernel_rfl) (by kernel_rfl) (fun _ _ _ h => h) (Or.inl ⟨by rfl, fun w' hSw => by have xx := hSw.cells; go_simp⟩) hHeld ?_
                try simp only [Act.put, List.getElem_toArray, List.getElem_cons_succ, List.getElem_cons_zero, List.setIfInBounds_toArray, List.set_cons_succ, List.set_cons_zero]
                refine wpAnyH_take (i := 1) (oi := _) (v := .pointer (some ⟨wr.heap.size, 1, none⟩)) rfl (by kernel_rfl) (by kernel_rfl) (by kernel_rfl) (fun _ _ _ h => h) (Or.inl ⟨by rfl, fun w' hSw => by have xx := hSw.cells; go_simp⟩) hHeld ?_
                try simp only [Act.put, List.getElem_toArray, List.getElem_cons_succ, List.getElem_cons_zero, List.setIfInBounds_toArray, List.set_cons_succ, List.set_cons_zero]
                refine wpAnyH_take (i := 2) (oi := _) (v := .int .i64 (i : Int)) rfl (by kernel_rfl) (by kernel_rfl) (by kernel_rfl) (fun _ _ _ h => h) (Or.inl ⟨by rfl, fun w' hSw => by have xx := hSw.cells; go_simp⟩) hHeld ?_
                try simp only [Act.put, List.getElem_toArray, List.getElem_cons_succ, List.getElem_cons_zero, List.setIfInBounds_toArray, List.set_cons_succ, List.set_cons_zero]
                refine wpAnyH_take (i := 3) (oi := _) (v := .pointer (some ⟨wr.heap.size, 2, none⟩)) rfl (by kernel_rfl) (by kernel_rfl) (by kernel_rfl) (fun _ _ _ h => h) (Or.inl ⟨by rfl, fun w' hSw => by have xx := hSw.cells; go_simp⟩) hHeld ?_
                try simp only [Act.put, List.getElem_toArray, List.getElem_cons_succ, List.getElem_cons_zero, List.setIfInBounds_toArray, List.set_cons_succ, List.set_cons_zero]
                refine wpAnyH_take (i := 4) (oi := _) (v := .int .u64 L'[i]) rfl (by kernel_rfl) (by kernel_rfl) (by kernel_rfl) (fun _ _ _ h => h) (Or.inl ⟨by rfl, fun w' hSw => by have xx := hSw.cells; go_simp⟩) hHeld ?_
                try simp only [Act.put, List.getElem_toArray, List.getElem_cons_succ, List.getElem_cons_zero, List.setIfInBounds_toArray, List.set_cons_succ, List.set_cons_zero]
                refine wpAnyH_take (i := 5) (oi := _) (v := .pointer (some ⟨wr.heap.size, 3, none⟩)) rfl (by kernel_rfl) (by kernel_rfl) (by kernel_rfl) (fun _ _ _ h => h) (Or.inl ⟨by rfl, fun w' hSw => by have xx := hSw.cells; go_simp⟩) hHeld ?_
                try simp only [Act.put, List.getElem_toArray, List.getElem_cons_succ, List.getElem_cons_zero, List.setIfInBounds_toArray, List.set_cons_succ, List.set_cons_zero]
                refine wpAnyH_take (i := 6) (oi := _) (v := .int .u64 yv) rfl (by kernel_rfl) (by kernel_rfl) (by kernel_rfl) (fun _ _ _ h => h) (Or.inl ⟨by rfl, fun w' hSw => by have xx := hSw.cells; go_simp⟩) hHeld ?_
                try simp only [Act.put, List.getElem_toArray, List.getElem_cons_succ, List.getElem_cons_zero, List.setIfInBounds_toArray, List.set_cons_succ, List.set_cons_zero]
                refine wpAnyH_take (i := 8) (oi := _) (v := .pointer (some ⟨gr, 0, none⟩)) rfl (by kernel_rfl) (by kernel_rfl) (by kernel_rfl) (fun _ _ _ h => h) (Or.inl ⟨by rfl, fun w' hSw => by have xx := hSw.cells; go_simp⟩) hHeld ?_
                try simp only [Act.put, List.getElem_toArray, List.getElem_cons_succ, List.getElem_cons_zero, List.setIfInBounds_toArray, List.set_cons_succ, List.set_cons_zero]
                refine wpAnyH_take (i := 9) (oi := _) (v := .pointer (some ⟨wr.heap.size, 1, none⟩)) rfl (by kernel_rfl) (by kernel_rfl) (by kernel_rfl) (fun _ _ _ h => h) (Or.inl ⟨by rfl, fun w' hSw => by have xx := hSw.cells; go_simp⟩) hHeld ?_
                try simp only [Act.put, List.getElem_toArray, List.getElem_cons_succ, List.getElem_cons_zero, List.setIfInBounds_toArray, List.set_cons_succ, List.set_cons_zero]
                refine wpAnyH_take (i := 10) (oi := _) (v := .int .i64 (i : Int)) rfl (by kernel_rfl) (by kernel_rfl) (by kernel_rfl) (fun _ _ _ h => h) (Or.inl ⟨by rfl, fun w' hSw => by have xx := hSw.cells; go_simp⟩) hHeld ?_
                try simp only [Act.put, List.getElem_toArray, List.getElem_cons_succ, List.getElem_cons_zero, List.setIfInBounds_toArray, List.set_cons_succ, List.set_cons_zero]
                refine wpAnyH_take (i := 11) (oi := _) (v := .pointer (some ⟨wr.heap.size, 2, none⟩)) rfl (by kernel_rfl) (by kernel_rfl) (by kernel_rfl) (fun _ _ _ h => h) (Or.inl ⟨by rfl, fun w' hSw => by have xx := hSw.cells; go_simp⟩) hHeld ?_
                try simp only [Act.put, List.getElem_toArray, List.getElem_cons_succ, List.getElem_cons_zero, List.setIfInBounds_toArray, List.set_cons_succ, List.set_cons_zero]
                refine wpAnyH_take (i := 12) (oi := _) (v := .int .u64 L'[i]) rfl (by kernel_rfl) (by kernel_rfl) (by kernel_rfl) (fun _ _ _ h => h) (Or.inl ⟨by rfl, fun w' hSw => by have xx := hSw.cells; go_simp⟩) hHeld ?_
                try simp only [Act.put, List.getElem_toArray, List.getElem_cons_succ, List.getElem_cons_zero, List.setIfInBounds_toArray, List.set_cons_succ, List.set_cons_zero]
                refine wpAnyH_take (i := 13) (oi := _) (v := .pointer (some ⟨wr.heap.size, 3, none⟩)) rfl (by kernel_rfl) (by kernel_rfl) (by kernel_rfl) (fun _ _ _ h => h) (Or.inl ⟨by rfl, fun w' hSw => by have xx := hSw.cells; go_simp⟩) hHeld ?_
                try simp only [Act.put, List.getElem_toArray, List.getElem_cons_succ, List.getElem_cons_zero, List.setIfInBounds_toArray, List.set_cons_succ, List.set_cons_zero]
                refine wpAnyH_take (i := 14) (oi := _) (v := .int .u64 yv) rfl (by kernel_rfl) (by kernel_rfl) (by kernel_rfl) (fun _ _ _ h => h) (Or.inl ⟨by rfl, fun w' hSw => by have xx := hSw.cells; go_simp⟩) hHeld ?_
                try simp only [Act.put, List.getElem_toArray, List.getElem_cons_succ, List.getElem_cons_zero, List.setIfInBounds_toArray, List.set_cons_succ, List.set_cons_zero]
                refine wpAnyH_ready (rs := [7]) (by kernel_rfl) (by simp) ?_
                refine AllReadyH.cons (o := _) rfl (fun K hK => ?_) AllReadyH.nil
                go_simp
                refine (cas_yes BD.M i hi hm yv).mono ?_
                rintro e v1 ⟨rfl, Q1, T1⟩
                refine hK.out _ _ (T1.bk hHeld n1 n2) (fun hHeld => ?_)
                clear hK K
                try simp only [Act.put, List.getElem_toArray, List.getElem_cons_succ, List.getElem_cons_zero, List.setIfInBounds_toArray, List.set_cons_succ, List.set_cons_zero]
                refine wpAnyH_ready (rs := [15]) (by kernel_rfl) (by simp) ?_
                refine AllReadyH.cons (o := _) rfl (fun K hK => ?_) AllReadyH.nil
                go_simp
                refine (rcas_yes (BD.R.apart T1 BD.h1.symm BD.h3.symm BD.h2.symm BD.h4.symm) i hi hm L'[i] yv rfl).mono ?_
                rintro e v2 ⟨rfl, Q2, T2⟩
                refine hK.out _ _ (T2.bk hHeld n3 n4) (fun hHeld => ?_)
                clear hK K
                try simp only [Act.put, List.getElem_toArray, List.getElem_cons_succ, List.getElem_cons_zero, List.setIfInBounds_toArray, List.set_cons_succ, List.set_cons_zero]
                refine wpAnyH_take (i := 16) (oi := _) (v := .bool true) rfl (by kernel_rfl) (by kernel_rfl) (by kernel_rfl) (fun _ _ _ h => h) (Or.inl ⟨by rfl, fun w' hSw => by go_simp⟩) hHeld ?_
                try simp only [Act.put, List.getElem_toArray, List.getElem_cons_succ, List.getElem_cons_zero, List.setIfInBounds_toArray, List.set_cons_succ, List.set_cons_zero]
                refine wpAnyH_take (i := 17) (oi := _) (v := .bool true) rfl (by kernel_rfl) (by kernel_rfl) (by kernel_rfl) (fun _ _ _ h => h) (Or.inl ⟨by rfl, fun w' hSw => by go_simp⟩) hHeld ?_
                try simp only [Act.put, List.getElem_toArray, List.getElem_cons_succ, List.getElem_cons_zero, List.setIfInBounds_toArray, List.set_cons_succ, List.set_cons_zero]
                have BN := BD.step Q1 T1 Q2 T2
                clear BD Q1 Q2 T1 T2 B1 AB hS0
                refine wpAnyH_done (by kernel_rfl) ?_ _
                have xm := BN.M.B.cells
                have xr := BN.R.B.cells
                have lm := BN.M.lt.1
                have lr := BN.R.lt.1
                try simp only [World.size_alloc, size_setRow, World.size_setCell] at lm lr
                have hnq := neq_acc
                have hgq := guard_accN
                go_wp2
                refine wp_region_grown (by kernel_rfl) (by kernel_rfl) ?_
                have hg := @gcell
                repeat (go_big_quiet_step (fail))
                refine wpQuiet_nil ?_
                rintro v9 ⟨⟨_, hb9⟩, rfl⟩
                clear hg xm xr hnq hgq
                have HN := Lib.hid (BN.keep hb9)
                clear BN hb9
                go_wp2
                go_roundw
                case rel => exact ⟨k + 1, _, _, by omega, by go_num, (by rw [List.length_set]; exact hLL), HN.out⟩
                case measure => simp [intOf]; omega
            · have hxn : L'[i] ≠ x := hx
              clear hx
              as_aux_lemma =>
                go_wp2
                have hS0 : Bk (wr.alloc (.cells #[.int .i64 3, .int .i64 (i : Int), .int .u64 x, .int .u64 yv] 43)).drew wr.heap.size #[.int .i64 3, .int .i64 (i : Int), .int .u64 x, .int .u64 yv] 43 := AB.keep (Below.drew (Below.refl _ _))
                have BD := B1.keep (w' := (wr.alloc (.cells #[.int .i64 3, .int .i64 (i : Int), .int .u64 x, .int .u64 yv] 43)).drew) (Below.drew (Below.refl _ _))
                refine wp_region_held_drew (S := fun w' => Bk w' wr.heap.size #[.int .i64 3, .int .i64 (i : Int), .int .u64 x, .int .u64 yv] 43) (by kernel_rfl) hS0 (fun hHeld => ?_)
                generalize (wr.alloc (.cells #[.int .i64 3, .int .i64 (i : Int), .int .u64 x, .int .u64 yv] 43)).drew = v0 at *
                refine wpAnyH_take (i := 0) (oi := _) (v := .pointer (some ⟨g, 0, none⟩)) rfl (by kernel_rfl) (by kernel_rfl) (by kernel_rfl) (fun _ _ _ h => h) (Or.inl ⟨by rfl, fun w' hSw => by have xx := hSw.cells; go_simp⟩) hHeld ?_
                try simp only [Act.put, List.getElem_toArray, List.getElem_cons_succ, List.getElem_cons_zero, List.setIfInBounds_toArray, List.set_cons_succ, List.set_cons_zero]
                refine wpAnyH_take (i := 1) (oi := _) (v := .pointer (some ⟨wr.heap.size, 1, none⟩)) rfl (by kernel_rfl) (by kernel_rfl) (by kernel_rfl) (fun _ _ _ h => h) (Or.inl ⟨by rfl, fun w' hSw => by have xx := hSw.cells; go_simp⟩) hHeld ?_
                try simp only [Act.put, List.getElem_toArray, List.getElem_cons_succ, List.getElem_cons_zero, List.setIfInBounds_toArray, List.set_cons_succ, List.set_cons_zero]
                refine wpAnyH_take (i := 2) (oi := _) (v := .int .i64 (i : Int)) rfl (by kernel_rfl) (by kernel_rfl) (by kernel_rfl) (fun _ _ _ h => h) (Or.inl ⟨by rfl, fun w' hSw => by have xx := hSw.cells; go_simp⟩) hHeld ?_
                try simp only [Act.put, List.getElem_toArray, List.getElem_cons_succ, List.getElem_cons_zero, List.setIfInBounds_toArray, List.set_cons_succ, List.set_cons_zero]
                refine wpAnyH_take (i := 3) (oi := _) (v := .pointer (some ⟨wr.heap.size, 2, none⟩)) rfl (by kernel_rfl) (by kernel_rfl) (by kernel_rfl) (fun _ _ _ h => h) (Or.inl ⟨by rfl, fun w' hSw => by have xx := hSw.cells; go_simp⟩) hHeld ?_
                try simp only [Act.put, List.getElem_toArray, List.getElem_cons_succ, List.getElem_cons_zero, List.setIfInBounds_toArray, List.set_cons_succ, List.set_cons_zero]
                refine wpAnyH_take (i := 4) (oi := _) (v := .int .u64 x) rfl (by kernel_rfl) (by kernel_rfl) (by kernel_rfl) (fun _ _ _ h => h) (Or.inl ⟨by rfl, fun w' hSw => by have xx := hSw.cells; go_simp⟩) hHeld ?_
                try simp only [Act.put, List.getElem_toArray, List.getElem_cons_succ, List.getElem_cons_zero, List.setIfInBounds_toArray, List.set_cons_succ, List.set_cons_zero]
                refine wpAnyH_take (i := 5) (oi := _) (v := .pointer (some ⟨wr.heap.size, 3, none⟩)) rfl (by kernel_rfl) (by kernel_rfl) (by kernel_rfl) (fun _ _ _ h => h) (Or.inl ⟨by rfl, fun w' hSw => by have xx := hSw.cells; go_simp⟩) hHeld ?_
                try simp only [Act.put, List.getElem_toArray, List.getElem_cons_succ, List.getElem_cons_zero, List.setIfInBounds_toArray, List.set_cons_succ, List.set_cons_zero]
                refine wpAnyH_take (i := 6) (oi := _) (v := .int .u64 yv) rfl (by kernel_rfl) (by kernel_rfl) (by kernel_rfl) (fun _ _ _ h => h) (Or.inl ⟨by rfl, fun w' hSw => by have xx := hSw.cells; go_simp⟩) hHeld ?_
                try simp only [Act.put, List.getElem_toArray, List.getElem_cons_succ, List.getElem_cons_zero, List.setIfInBounds_toArray, List.set_cons_succ, List.set_cons_zero]
                refine wpAnyH_take (i := 8) (oi := _) (v := .pointer (some ⟨gr, 0, none⟩)) rfl (by kernel_rfl) (by kernel_rfl) (by kernel_rfl) (fun _ _ _ h => h) (Or.inl ⟨by rfl, fun w' hSw => by have xx := hSw.cells; go_simp⟩) hHeld ?_
                try simp only [Act.put, List.getElem_toArray, List.getElem_cons_succ, List.getElem_cons_zero, List.setIfInBounds_toArray, List.set_cons_succ, List.set_cons_zero]
                refine wpAnyH_take (i := 9) (oi := _) (v := .pointer (some ⟨wr.heap.size, 1, none⟩)) rfl (by kernel_rfl) (by kernel_rfl) (by kernel_rfl) (fun _ _ _ h => h) (Or.inl ⟨by rfl, fun w' hSw => by have xx := hSw.cells; go_simp⟩) hHeld ?_
                try simp only [Act.put, List.getElem_toArray, List.getElem_cons_succ, List.getElem_cons_zero, List.setIfInBounds_toArray, List.set_cons_succ, List.set_cons_zero]
                refine wpAnyH_take (i := 10) (oi := _) (v := .int .i64 (i : Int)) rfl (by kernel_rfl) (by kernel_rfl) (by kernel_rfl) (fun _ _ _ h => h) (Or.inl ⟨by rfl, fun w' hSw => by have xx := hSw.cells; go_simp⟩) hHeld ?_
                try simp only [Act.put, List.getElem_toArray, List.getElem_cons_succ, List.getElem_cons_zero, List.setIfInBounds_toArray, List.set_cons_succ, List.set_cons_zero]
                refine wpAnyH_take (i := 11) (oi := _) (v := .pointer (some ⟨wr.heap.size, 2, none⟩)) rfl (by kernel_rfl) (by kernel_rfl) (by kernel_rfl) (fun _ _ _ h => h) (Or.inl ⟨by rfl, fun w' hSw => by have xx := hSw.cells; go_simp⟩) hHeld ?_
                try simp only [Act.put, List.getElem_toArray, List.getElem_cons_succ, List.getElem_cons_zero, List.setIfInBounds_toArray, List.set_cons_succ, List.set_cons_zero]
                refine wpAnyH_take (i := 12) (oi := _) (v := .int .u64 x) rfl (by kernel_rfl) (by kernel_rfl) (by kernel_rfl) (fun _ _ _ h => h) (Or.inl ⟨by rfl, fun w' hSw => by have xx := hSw.cells; go_simp⟩) hHeld ?_
                try simp only [Act.put, List.getElem_toArray, List.getElem_cons_succ, List.getElem_cons_zero, List.setIfInBounds_toArray, List.set_cons_succ, List.set_cons_zero]
                refine wpAnyH_take (i := 13) (oi := _) (v := .pointer (some ⟨wr.heap.size, 3, none⟩)) rfl (by kernel_rfl) (by kernel_rfl) (by kernel_rfl) (fun _ _ _ h => h) (Or.inl ⟨by rfl, fun w' hSw => by have xx := hSw.cells; go_simp⟩) hHeld ?_
                try simp only [Act.put, List.getElem_toArray, List.getElem_cons_succ, List.getElem_cons_zero, List.setIfInBounds_toArray, List.set_cons_succ, List.set_cons_zero]
                refine wpAnyH_take (i := 14) (oi := _) (v := .int .u64 yv) rfl (by kernel_rfl) (by kernel_rfl) (by kernel_rfl) (fun _ _ _ h => h) (Or.inl ⟨by rfl, fun w' hSw => by have xx := hSw.cells; go_simp⟩) hHeld ?_
                try simp only [Act.put, List.getElem_toArray, List.getElem_cons_succ, List.getElem_cons_zero, List.setIfInBounds_toArray, List.set_cons_succ, List.set_cons_zero]
                refine wpAnyH_ready (rs := [7]) (by kernel_rfl) (by simp) ?_
                refine AllReadyH.cons (o := _) rfl (fun K hK => ?_) AllReadyH.nil
                go_simp
                refine (cas_no BD.M i hi hm x yv hxn).mono ?_
                rintro e v1 ⟨rfl, Q1, T1⟩
                refine hK.out _ _ (T1.bk hHeld n1 n2) (fun hHeld => ?_)
                clear hK K
                try simp only [Act.put, List.getElem_toArray, List.getElem_cons_succ, List.getElem_cons_zero, List.setIfInBounds_toArray, List.set_cons_succ, List.set_cons_zero]
                refine wpAnyH_ready (rs := [15]) (by kernel_rfl) (by simp) ?_
                refine AllReadyH.cons (o := _) rfl (fun K hK => ?_) AllReadyH.nil
                go_simp
                refine (rcas_no (BD.R.apart T1 BD.h1.symm BD.h3.symm BD.h2.symm BD.h4.symm) i hi hm x yv hxn).mono ?_
                rintro e v2 ⟨rfl, Q2, T2⟩
                refine hK.out _ _ (T2.bk hHeld n3 n4) (fun hHeld => ?_)
                clear hK K
                try simp only [Act.put, List.getElem_toArray, List.getElem_cons_succ, List.getElem_cons_zero, List.setIfInBounds_toArray, List.set_cons_succ, List.set_cons_zero]
                refine wpAnyH_take (i := 16) (oi := _) (v := .bool true) rfl (by kernel_rfl) (by kernel_rfl) (by kernel_rfl) (fun _ _ _ h => h) (Or.inl ⟨by rfl, fun w' hSw => by go_simp⟩) hHeld ?_
                try simp only [Act.put, List.getElem_toArray, List.getElem_cons_succ, List.getElem_cons_zero, List.setIfInBounds_toArray, List.set_cons_succ, List.set_cons_zero]
                refine wpAnyH_take (i := 17) (oi := _) (v := .bool true) rfl (by kernel_rfl) (by kernel_rfl) (by kernel_rfl) (fun _ _ _ h => h) (Or.inl ⟨by rfl, fun w' hSw => by go_simp⟩) hHeld ?_
                try simp only [Act.put, List.getElem_toArray, List.getElem_cons_succ, List.getElem_cons_zero, List.setIfInBounds_toArray, List.set_cons_succ, List.set_cons_zero]
                have BN := BD.step Q1 T1 Q2 T2
                clear BD Q1 Q2 T1 T2 B1 AB hS0
                refine wpAnyH_done (by kernel_rfl) ?_ _
                have xm := BN.M.B.cells
                have xr := BN.R.B.cells
                have lm := BN.M.lt.1
                have lr := BN.R.lt.1
                try simp only [World.size_alloc, size_setRow, World.size_setCell] at lm lr
                have hnq := neq_acc
                have hgq := guard_accN
                go_wp2
                refine wp_region_grown (by kernel_rfl) (by kernel_rfl) ?_
                have hg := @gcell
                repeat (go_big_quiet_step (fail))
                refine wpQuiet_nil ?_
                rintro v9 ⟨⟨_, hb9⟩, rfl⟩
                clear hg xm xr hnq hgq
                have HN := Lib.hid (BN.keep hb9)
                clear BN hb9
                go_wp2
                go_roundw
                case rel => exact ⟨k + 1, _, _, by omega, by go_num, hLL, HN.out⟩
                case measure => simp [intOf]; omega
        · have hi := hin
          clear hin
          as_aux_lemma =>
            go_wp2
            have hS0 : Bk (wr.alloc (.cells #[.int .i64 3, .int .i64 at_, .int .u64 x, .int .u64 yv] 43)).drew wr.heap.size #[.int .i64 3, .int .i64 at_, .int .u64 x, .int .u64 yv] 43 := AB.keep (Below.drew (Below.refl _ _))
            have BD := B1.keep (w' := (wr.alloc (.cells #[.int .i64 3, .int .i64 at_, .int .u64 x, .int .u64 yv] 43)).drew) (Below.drew (Below.refl _ _))
            refine wp_region_held_drew (S := fun w' => Bk w' wr.heap.size #[.int .i64 3, .int .i64 at_, .int .u64 x, .int .u64 yv] 43) (by kernel_rfl) hS0 (fun hHeld => ?_)
            generalize (wr.alloc (.cells #[.int .i64 3, .int .i64 at_, .int .u64 x, .int .u64 yv] 43)).drew = v0 at *
            refine wpAnyH_take (i := 0) (oi := _) (v := .pointer (some ⟨g, 0, none⟩)) rfl (by kernel_rfl) (by kernel_rfl) (by kernel_rfl) (fun _ _ _ h => h) (Or.inl ⟨by rfl, fun w' hSw => by have xx := hSw.cells; go_simp⟩) hHeld ?_
            try simp only [Act.put, List.getElem_toArray, List.getElem_cons_succ, List.getElem_cons_zero, List.setIfInBounds_toArray, List.set_cons_succ, List.set_cons_zero]
            refine wpAnyH_take (i := 1) (oi := _) (v := .pointer (some ⟨wr.heap.size, 1, none⟩)) rfl (by kernel_rfl) (by kernel_rfl) (by kernel_rfl) (fun _ _ _ h => h) (Or.inl ⟨by rfl, fun w' hSw => by have xx := hSw.cells; go_simp⟩) hHeld ?_
            try simp only [Act.put, List.getElem_toArray, List.getElem_cons_succ, List.getElem_cons_zero, List.setIfInBounds_toArray, List.set_cons_succ, List.set_cons_zero]
            refine wpAnyH_take (i := 2) (oi := _) (v := .int .i64 at_) rfl (by kernel_rfl) (by kernel_rfl) (by kernel_rfl) (fun _ _ _ h => h) (Or.inl ⟨by rfl, fun w' hSw => by have xx := hSw.cells; go_simp⟩) hHeld ?_
            try simp only [Act.put, List.getElem_toArray, List.getElem_cons_succ, List.getElem_cons_zero, List.setIfInBounds_toArray, List.set_cons_succ, List.set_cons_zero]
            refine wpAnyH_take (i := 3) (oi := _) (v := .pointer (some ⟨wr.heap.size, 2, none⟩)) rfl (by kernel_rfl) (by kernel_rfl) (by kernel_rfl) (fun _ _ _ h => h) (Or.inl ⟨by rfl, fun w' hSw => by have xx := hSw.cells; go_simp⟩) hHeld ?_
            try simp only [Act.put, List.getElem_toArray, List.getElem_cons_succ, List.getElem_cons_zero, List.setIfInBounds_toArray, List.set_cons_succ, List.set_cons_zero]
            refine wpAnyH_take (i := 4) (oi := _) (v := .int .u64 x) rfl (by kernel_rfl) (by kernel_rfl) (by kernel_rfl) (fun _ _ _ h => h) (Or.inl ⟨by rfl, fun w' hSw => by have xx := hSw.cells; go_simp⟩) hHeld ?_
            try simp only [Act.put, List.getElem_toArray, List.getElem_cons_succ, List.getElem_cons_zero, List.setIfInBounds_toArray, List.set_cons_succ, List.set_cons_zero]
            refine wpAnyH_take (i := 5) (oi := _) (v := .pointer (some ⟨wr.heap.size, 3, none⟩)) rfl (by kernel_rfl) (by kernel_rfl) (by kernel_rfl) (fun _ _ _ h => h) (Or.inl ⟨by rfl, fun w' hSw => by have xx := hSw.cells; go_simp⟩) hHeld ?_
            try simp only [Act.put, List.getElem_toArray, List.getElem_cons_succ, List.getElem_cons_zero, List.setIfInBounds_toArray, List.set_cons_succ, List.set_cons_zero]
            refine wpAnyH_take (i := 6) (oi := _) (v := .int .u64 yv) rfl (by kernel_rfl) (by kernel_rfl) (by kernel_rfl) (fun _ _ _ h => h) (Or.inl ⟨by rfl, fun w' hSw => by have xx := hSw.cells; go_simp⟩) hHeld ?_
            try simp only [Act.put, List.getElem_toArray, List.getElem_cons_succ, List.getElem_cons_zero, List.setIfInBounds_toArray, List.set_cons_succ, List.set_cons_zero]
            refine wpAnyH_take (i := 8) (oi := _) (v := .pointer (some ⟨gr, 0, none⟩)) rfl (by kernel_rfl) (by kernel_rfl) (by kernel_rfl) (fun _ _ _ h => h) (Or.inl ⟨by rfl, fun w' hSw => by have xx := hSw.cells; go_simp⟩) hHeld ?_
            try simp only [Act.put, List.getElem_toArray, List.getElem_cons_succ, List.getElem_cons_zero, List.setIfInBounds_toArray, List.set_cons_succ, List.set_cons_zero]
            refine wpAnyH_take (i := 9) (oi := _) (v := .pointer (some ⟨wr.heap.size, 1, none⟩)) rfl (by kernel_rfl) (by kernel_rfl) (by kernel_rfl) (fun _ _ _ h => h) (Or.inl ⟨by rfl, fun w' hSw => by have xx := hSw.cells; go_simp⟩) hHeld ?_
            try simp only [Act.put, List.getElem_toArray, List.getElem_cons_succ, List.getElem_cons_zero, List.setIfInBounds_toArray, List.set_cons_succ, List.set_cons_zero]
            refine wpAnyH_take (i := 10) (oi := _) (v := .int .i64 at_) rfl (by kernel_rfl) (by kernel_rfl) (by kernel_rfl) (fun _ _ _ h => h) (Or.inl ⟨by rfl, fun w' hSw => by have xx := hSw.cells; go_simp⟩) hHeld ?_
            try simp only [Act.put, List.getElem_toArray, List.getElem_cons_succ, List.getElem_cons_zero, List.setIfInBounds_toArray, List.set_cons_succ, List.set_cons_zero]
            refine wpAnyH_take (i := 11) (oi := _) (v := .pointer (some ⟨wr.heap.size, 2, none⟩)) rfl (by kernel_rfl) (by kernel_rfl) (by kernel_rfl) (fun _ _ _ h => h) (Or.inl ⟨by rfl, fun w' hSw => by have xx := hSw.cells; go_simp⟩) hHeld ?_
            try simp only [Act.put, List.getElem_toArray, List.getElem_cons_succ, List.getElem_cons_zero, List.setIfInBounds_toArray, List.set_cons_succ, List.set_cons_zero]
            refine wpAnyH_take (i := 12) (oi := _) (v := .int .u64 x) rfl (by kernel_rfl) (by kernel_rfl) (by kernel_rfl) (fun _ _ _ h => h) (Or.inl ⟨by rfl, fun w' hSw => by have xx := hSw.cells; go_simp⟩) hHeld ?_
            try simp only [Act.put, List.getElem_toArray, List.getElem_cons_succ, List.getElem_cons_zero, List.setIfInBounds_toArray, List.set_cons_succ, List.set_cons_zero]
            refine wpAnyH_take (i := 13) (oi := _) (v := .pointer (some ⟨wr.heap.size, 3, none⟩)) rfl (by kernel_rfl) (by kernel_rfl) (by kernel_rfl) (fun _ _ _ h => h) (Or.inl ⟨by rfl, fun w' hSw => by have xx := hSw.cells; go_simp⟩) hHeld ?_
            try simp only [Act.put, List.getElem_toArray, List.getElem_cons_succ, List.getElem_cons_zero, List.setIfInBounds_toArray, List.set_cons_succ, List.set_cons_zero]
            refine wpAnyH_take (i := 14) (oi := _) (v := .int .u64 yv) rfl (by kernel_rfl) (by kernel_rfl) (by kernel_rfl) (fun _ _ _ h => h) (Or.inl ⟨by rfl, fun w' hSw => by have xx := hSw.cells; go_simp⟩) hHeld ?_
            try simp only [Act.put, List.getElem_toArray, List.getElem_cons_succ, List.getElem_cons_zero, List.setIfInBounds_toArray, List.set_cons_succ, List.set_cons_zero]
            refine wpAnyH_ready (rs := [7]) (by kernel_rfl) (by simp) ?_
            refine AllReadyH.cons (o := _) rfl (fun K hK => ?_) AllReadyH.nil
            go_simp
            refine (cas_out BD.M at_ hi hm x yv).mono ?_
            rintro e v1 ⟨rfl, Q1, T1⟩
            refine hK.out _ _ (T1.bk hHeld n1 n2) (fun hHeld => ?_)
            clear hK K
            try simp only [Act.put, List.getElem_toArray, List.getElem_cons_succ, List.getElem_cons_zero, List.setIfInBounds_toArray, List.set_cons_succ, List.set_cons_zero]
            refine wpAnyH_ready (rs := [15]) (by kernel_rfl) (by simp) ?_
            refine AllReadyH.cons (o := _) rfl (fun K hK => ?_) AllReadyH.nil
            go_simp
            refine (rcas_out (BD.R.apart T1 BD.h1.symm BD.h3.symm BD.h2.symm BD.h4.symm) at_ hi hm x yv).mono ?_
            rintro e v2 ⟨rfl, Q2, T2⟩
            refine hK.out _ _ (T2.bk hHeld n3 n4) (fun hHeld => ?_)
            clear hK K
            try simp only [Act.put, List.getElem_toArray, List.getElem_cons_succ, List.getElem_cons_zero, List.setIfInBounds_toArray, List.set_cons_succ, List.set_cons_zero]
            refine wpAnyH_take (i := 16) (oi := _) (v := .bool true) rfl (by kernel_rfl) (by kernel_rfl) (by kernel_rfl) (fun _ _ _ h => h) (Or.inl ⟨by rfl, fun w' hSw => by go_simp⟩) hHeld ?_
            try simp only [Act.put, List.getElem_toArray, List.getElem_cons_succ, List.getElem_cons_zero, List.setIfInBounds_toArray, List.set_cons_succ, List.set_cons_zero]
            refine wpAnyH_take (i := 17) (oi := _) (v := .bool true) rfl (by kernel_rfl) (by kernel_rfl) (by kernel_rfl) (fun _ _ _ h => h) (Or.inl ⟨by rfl, fun w' hSw => by go_simp⟩) hHeld ?_
            try simp only [Act.put, List.getElem_toArray, List.getElem_cons_succ, List.getElem_cons_zero, List.setIfInBounds_toArray, List.set_cons_succ, List.set_cons_zero]
            have BN := BD.step Q1 T1 Q2 T2
            clear BD Q1 Q2 T1 T2 B1 AB hS0
            refine wpAnyH_done (by kernel_rfl) ?_ _
            have xm := BN.M.B.cells
            have xr := BN.R.B.cells
            have lm := BN.M.lt.1
            have lr := BN.R.lt.1
            try simp only [World.size_alloc, size_setRow, World.size_setCell] at lm lr
            have hnq := neq_acc
            have hgq := guard_accN
            go_wp2
            refine wp_region_grown (by kernel_rfl) (by kernel_rfl) ?_
            have hg := @gcell
            repeat (go_big_quiet_step (fail))
            refine wpQuiet_nil ?_
            rintro v9 ⟨⟨_, hb9⟩, rfl⟩
            clear hg xm xr hnq hgq
            have HN := Lib.hid (BN.keep hb9)
            clear BN hb9
            go_wp2
            go_roundw
            case rel => exact ⟨k + 1, _, _, by omega, by go_num, hLL, HN.out⟩
            case measure => simp [intOf]; omega

      by_cases k4 : kd = 4
      · subst k4
        by_cases hin : 0 ≤ at_ ∧ at_ < (L'.length : Int)
        · obtain ⟨i, hi'⟩ : ∃ i : Nat, at_ = (i : Int) := ⟨at_.toNat, by omega⟩
          subst hi'
          have hi : i < L'.length := by omega
          clear hin
          as_aux_lemma =>
            go_wp2
            have hS0 : Bk (wr.alloc (.cells #[.int .i64 4, .int .i64 (i : Int), .int .u64 x, .int .u64 yv] 43)).drew wr.heap.size #[.int .i64 4, .int .i64 (i : Int), .int .u64 x, .int .u64 yv] 43 := AB.keep (Below.drew (Below.refl _ _))
            have BD := B1.keep (w' := (wr.alloc (.cells #[.int .i64 4, .int .i64 (i : Int), .int .u64 x, .int .u64 yv] 43)).drew) (Below.drew (Below.refl _ _))
            refine wp_region_held_drew (S := fun w' => Bk w' wr.heap.size #[.int .i64 4, .int .i64 (i : Int), .int .u64 x, .int .u64 yv] 43) (by kernel_rfl) hS0 (fun hHeld => ?_)
            generalize (wr.alloc (.cells #[.int .i64 4, .int .i64 (i : Int), .int .u64 x, .int .u64 yv] 43)).drew = v0 at *
            refine wpAnyH_take (i := 0) (oi := _) (v := .pointer (some ⟨g, 0, none⟩)) rfl (by kernel_rfl) (by kernel_rfl) (by kernel_rfl) (fun _ _ _ h => h) (Or.inl ⟨by rfl, fun w' hSw => by have xx := hSw.cells; go_simp⟩) hHeld ?_
            try simp only [Act.put, List.getElem_toArray, List.getElem_cons_succ, List.getElem_cons_zero, List.setIfInBounds_toArray, List.set_cons_succ, List.set_cons_zero]
            refine wpAnyH_take (i := 1) (oi := _) (v := .pointer (some ⟨wr.heap.size, 1, none⟩)) rfl (by kernel_rfl) (by kernel_rfl) (by kernel_rfl) (fun _ _ _ h => h) (Or.inl ⟨by rfl, fun w' hSw => by have xx := hSw.cells; go_simp⟩) hHeld ?_
            try simp only [Act.put, List.getElem_toArray, List.getElem_cons_succ, List.getElem_cons_zero, List.setIfInBounds_toArray, List.set_cons_succ, List.set_cons_zero]
            refine wpAnyH_take (i := 2) (oi := _) (v := .int .i64 (i : Int)) rfl (by kernel_rfl) (by kernel_rfl) (by kernel_rfl) (fun _ _ _ h => h) (Or.inl ⟨by rfl, fun w' hSw => by have xx := hSw.cells; go_simp⟩) hHeld ?_
            try simp only [Act.put, List.getElem_toArray, List.getElem_cons_succ, List.getElem_cons_zero, List.setIfInBounds_toArray, List.set_cons_succ, List.set_cons_zero]
            refine wpAnyH_take (i := 3) (oi := _) (v := .pointer (some ⟨wr.heap.size, 2, none⟩)) rfl (by kernel_rfl) (by kernel_rfl) (by kernel_rfl) (fun _ _ _ h => h) (Or.inl ⟨by rfl, fun w' hSw => by have xx := hSw.cells; go_simp⟩) hHeld ?_
            try simp only [Act.put, List.getElem_toArray, List.getElem_cons_succ, List.getElem_cons_zero, List.setIfInBounds_toArray, List.set_cons_succ, List.set_cons_zero]
            refine wpAnyH_take (i := 4) (oi := _) (v := .int .u64 x) rfl (by kernel_rfl) (by kernel_rfl) (by kernel_rfl) (fun _ _ _ h => h) (Or.inl ⟨by rfl, fun w' hSw => by have xx := hSw.cells; go_simp⟩) hHeld ?_
            try simp only [Act.put, List.getElem_toArray, List.getElem_cons_succ, List.getElem_cons_zero, List.setIfInBounds_toArray, List.set_cons_succ, List.set_cons_zero]
            refine wpAnyH_take (i := 6) (oi := _) (v := .pointer (some ⟨gr, 0, none⟩)) rfl (by kernel_rfl) (by kernel_rfl) (by kernel_rfl) (fun _ _ _ h => h) (Or.inl ⟨by rfl, fun w' hSw => by have xx := hSw.cells; go_simp⟩) hHeld ?_
            try simp only [Act.put, List.getElem_toArray, List.getElem_cons_succ, List.getElem_cons_zero, List.setIfInBounds_toArray, List.set_cons_succ, List.set_cons_zero]
            refine wpAnyH_take (i := 7) (oi := _) (v := .pointer (some ⟨wr.heap.size, 1, none⟩)) rfl (by kernel_rfl) (by kernel_rfl) (by kernel_rfl) (fun _ _ _ h => h) (Or.inl ⟨by rfl, fun w' hSw => by have xx := hSw.cells; go_simp⟩) hHeld ?_
            try simp only [Act.put, List.getElem_toArray, List.getElem_cons_succ, List.getElem_cons_zero, List.setIfInBounds_toArray, List.set_cons_succ, List.set_cons_zero]
            refine wpAnyH_take (i := 8) (oi := _) (v := .int .i64 (i : Int)) rfl (by kernel_rfl) (by kernel_rfl) (by kernel_rfl) (fun _ _ _ h => h) (Or.inl ⟨by rfl, fun w' hSw => by have xx := hSw.cells; go_simp⟩) hHeld ?_
            try simp only [Act.put, List.getElem_toArray, List.getElem_cons_succ, List.getElem_cons_zero, List.setIfInBounds_toArray, List.set_cons_succ, List.set_cons_zero]
            refine wpAnyH_take (i := 9) (oi := _) (v := .pointer (some ⟨wr.heap.size, 2, none⟩)) rfl (by kernel_rfl) (by kernel_rfl) (by kernel_rfl) (fun _ _ _ h => h) (Or.inl ⟨by rfl, fun w' hSw => by have xx := hSw.cells; go_simp⟩) hHeld ?_
            try simp only [Act.put, List.getElem_toArray, List.getElem_cons_succ, List.getElem_cons_zero, List.setIfInBounds_toArray, List.set_cons_succ, List.set_cons_zero]
            refine wpAnyH_take (i := 10) (oi := _) (v := .int .u64 x) rfl (by kernel_rfl) (by kernel_rfl) (by kernel_rfl) (fun _ _ _ h => h) (Or.inl ⟨by rfl, fun w' hSw => by have xx := hSw.cells; go_simp⟩) hHeld ?_
            try simp only [Act.put, List.getElem_toArray, List.getElem_cons_succ, List.getElem_cons_zero, List.setIfInBounds_toArray, List.set_cons_succ, List.set_cons_zero]
            refine wpAnyH_ready (rs := [5]) (by kernel_rfl) (by simp) ?_
            refine AllReadyH.cons (o := _) rfl (fun K hK => ?_) AllReadyH.nil
            go_simp
            refine (add_in BD.M i hi hm x).mono ?_
            rintro e v1 ⟨rfl, Q1, T1⟩
            refine hK.out _ _ (T1.bk hHeld n1 n2) (fun hHeld => ?_)
            clear hK K
            try simp only [Act.put, List.getElem_toArray, List.getElem_cons_succ, List.getElem_cons_zero, List.setIfInBounds_toArray, List.set_cons_succ, List.set_cons_zero]
            refine wpAnyH_ready (rs := [11]) (by kernel_rfl) (by simp) ?_
            refine AllReadyH.cons (o := _) rfl (fun K hK => ?_) AllReadyH.nil
            go_simp
            refine (radd_in (BD.R.apart T1 BD.h1.symm BD.h3.symm BD.h2.symm BD.h4.symm) i hi hm x).mono ?_
            rintro e v2 ⟨rfl, Q2, T2⟩
            refine hK.out _ _ (T2.bk hHeld n3 n4) (fun hHeld => ?_)
            clear hK K
            try simp only [Act.put, List.getElem_toArray, List.getElem_cons_succ, List.getElem_cons_zero, List.setIfInBounds_toArray, List.set_cons_succ, List.set_cons_zero]
            refine wpAnyH_take (i := 12) (oi := _) (v := .bool true) rfl (by kernel_rfl) (by kernel_rfl) (by kernel_rfl) (fun _ _ _ h => h) (Or.inl ⟨by rfl, fun w' hSw => by go_simp⟩) hHeld ?_
            try simp only [Act.put, List.getElem_toArray, List.getElem_cons_succ, List.getElem_cons_zero, List.setIfInBounds_toArray, List.set_cons_succ, List.set_cons_zero]
            refine wpAnyH_take (i := 13) (oi := _) (v := .bool true) rfl (by kernel_rfl) (by kernel_rfl) (by kernel_rfl) (fun _ _ _ h => h) (Or.inl ⟨by rfl, fun w' hSw => by go_simp⟩) hHeld ?_
            try simp only [Act.put, List.getElem_toArray, List.getElem_cons_succ, List.getElem_cons_zero, List.setIfInBounds_toArray, List.set_cons_succ, List.set_cons_zero]
            have BN := BD.step Q1 T1 Q2 T2
            clear BD Q1 Q2 T1 T2 B1 AB hS0
            refine wpAnyH_done (by kernel_rfl) ?_ _
            have xm := BN.M.B.cells
            have xr := BN.R.B.cells
            have lm := BN.M.lt.1
            have lr := BN.R.lt.1
            try simp only [World.size_alloc, size_setRow, World.size_setCell] at lm lr
            have hnq := neq_acc
            have hgq := guard_accN
            go_wp2
            refine wp_region_grown (by kernel_rfl) (by kernel_rfl) ?_
            have hg := @gcell
            repeat (go_big_quiet_step (fail))
            refine wpQuiet_nil ?_
            rintro v9 ⟨⟨_, hb9⟩, rfl⟩
            clear hg xm xr hnq hgq
            have HN := Lib.hid (BN.keep hb9)
            clear BN hb9
            go_wp2
            go_roundw
            case rel => exact ⟨k + 1, _, _, by omega, by go_num, (by rw [List.length_set]; exact hLL), HN.out⟩
            case measure => simp [intOf]; omega
        · have hi := hin
          clear hin
          as_aux_lemma =>
            go_wp2
            have hS0 : Bk (wr.alloc (.cells #[.int .i64 4, .int .i64 at_, .int .u64 x, .int .u64 yv] 43)).drew wr.heap.size #[.int .i64 4, .int .i64 at_, .int .u64 x, .int .u64 yv] 43 := AB.keep (Below.drew (Below.refl _ _))
            have BD := B1.keep (w' := (wr.alloc (.cells #[.int .i64 4, .int .i64 at_, .int .u64 x, .int .u64 yv] 43)).drew) (Below.drew (Below.refl _ _))
            refine wp_region_held_drew (S := fun w' => Bk w' wr.heap.size #[.int .i64 4, .int .i64 at_, .int .u64 x, .int .u64 yv] 43) (by kernel_rfl) hS0 (fun hHeld => ?_)
            generalize (wr.alloc (.cells #[.int .i64 4, .int .i64 at_, .int .u64 x, .int .u64 yv] 43)).drew = v0 at *
            refine wpAnyH_take (i := 0) (oi := _) (v := .pointer (some ⟨g, 0, none⟩)) rfl (by kernel_rfl) (by kernel_rfl) (by kernel_rfl) (fun _ _ _ h => h) (Or.inl ⟨by rfl, fun w' hSw => by have xx := hSw.cells; go_simp⟩) hHeld ?_
            try simp only [Act.put, List.getElem_toArray, List.getElem_cons_succ, List.getElem_cons_zero, List.setIfInBounds_toArray, List.set_cons_succ, List.set_cons_zero]
            refine wpAnyH_take (i := 1) (oi := _) (v := .pointer (some ⟨wr.heap.size, 1, none⟩)) rfl (by kernel_rfl) (by kernel_rfl) (by kernel_rfl) (fun _ _ _ h => h) (Or.inl ⟨by rfl, fun w' hSw => by have xx := hSw.cells; go_simp⟩) hHeld ?_
            try simp only [Act.put, List.getElem_toArray, List.getElem_cons_succ, List.getElem_cons_zero, List.setIfInBounds_toArray, List.set_cons_succ, List.set_cons_zero]
            refine wpAnyH_take (i := 2) (oi := _) (v := .int .i64 at_) rfl (by kernel_rfl) (by kernel_rfl) (by kernel_rfl) (fun _ _ _ h => h) (Or.inl ⟨by rfl, fun w' hSw => by have xx := hSw.cells; go_simp⟩) hHeld ?_
            try simp only [Act.put, List.getElem_toArray, List.getElem_cons_succ, List.getElem_cons_zero, List.setIfInBounds_toArray, List.set_cons_succ, List.set_cons_zero]
            refine wpAnyH_take (i := 3) (oi := _) (v := .pointer (some ⟨wr.heap.size, 2, none⟩)) rfl (by kernel_rfl) (by kernel_rfl) (by kernel_rfl) (fun _ _ _ h => h) (Or.inl ⟨by rfl, fun w' hSw => by have xx := hSw.cells; go_simp⟩) hHeld ?_
            try simp only [Act.put, List.getElem_toArray, List.getElem_cons_succ, List.getElem_cons_zero, List.setIfInBounds_toArray, List.set_cons_succ, List.set_cons_zero]
            refine wpAnyH_take (i := 4) (oi := _) (v := .int .u64 x) rfl (by kernel_rfl) (by kernel_rfl) (by kernel_rfl) (fun _ _ _ h => h) (Or.inl ⟨by rfl, fun w' hSw => by have xx := hSw.cells; go_simp⟩) hHeld ?_
            try simp only [Act.put, List.getElem_toArray, List.getElem_cons_succ, List.getElem_cons_zero, List.setIfInBounds_toArray, List.set_cons_succ, List.set_cons_zero]
            refine wpAnyH_take (i := 6) (oi := _) (v := .pointer (some ⟨gr, 0, none⟩)) rfl (by kernel_rfl) (by kernel_rfl) (by kernel_rfl) (fun _ _ _ h => h) (Or.inl ⟨by rfl, fun w' hSw => by have xx := hSw.cells; go_simp⟩) hHeld ?_
            try simp only [Act.put, List.getElem_toArray, List.getElem_cons_succ, List.getElem_cons_zero, List.setIfInBounds_toArray, List.set_cons_succ, List.set_cons_zero]
            refine wpAnyH_take (i := 7) (oi := _) (v := .pointer (some ⟨wr.heap.size, 1, none⟩)) rfl (by kernel_rfl) (by kernel_rfl) (by kernel_rfl) (fun _ _ _ h => h) (Or.inl ⟨by rfl, fun w' hSw => by have xx := hSw.cells; go_simp⟩) hHeld ?_
            try simp only [Act.put, List.getElem_toArray, List.getElem_cons_succ, List.getElem_cons_zero, List.setIfInBounds_toArray, List.set_cons_succ, List.set_cons_zero]
            refine wpAnyH_take (i := 8) (oi := _) (v := .int .i64 at_) rfl (by kernel_rfl) (by kernel_rfl) (by kernel_rfl) (fun _ _ _ h => h) (Or.inl ⟨by rfl, fun w' hSw => by have xx := hSw.cells; go_simp⟩) hHeld ?_
            try simp only [Act.put, List.getElem_toArray, List.getElem_cons_succ, List.getElem_cons_zero, List.setIfInBounds_toArray, List.set_cons_succ, List.set_cons_zero]
            refine wpAnyH_take (i := 9) (oi := _) (v := .pointer (some ⟨wr.heap.size, 2, none⟩)) rfl (by kernel_rfl) (by kernel_rfl) (by kernel_rfl) (fun _ _ _ h => h) (Or.inl ⟨by rfl, fun w' hSw => by have xx := hSw.cells; go_simp⟩) hHeld ?_
            try simp only [Act.put, List.getElem_toArray, List.getElem_cons_succ, List.getElem_cons_zero, List.setIfInBounds_toArray, List.set_cons_succ, List.set_cons_zero]
            refine wpAnyH_take (i := 10) (oi := _) (v := .int .u64 x) rfl (by kernel_rfl) (by kernel_rfl) (by kernel_rfl) (fun _ _ _ h => h) (Or.inl ⟨by rfl, fun w' hSw => by have xx := hSw.cells; go_simp⟩) hHeld ?_
            try simp only [Act.put, List.getElem_toArray, List.getElem_cons_succ, List.getElem_cons_zero, List.setIfInBounds_toArray, List.set_cons_succ, List.set_cons_zero]
            refine wpAnyH_ready (rs := [5]) (by kernel_rfl) (by simp) ?_
            refine AllReadyH.cons (o := _) rfl (fun K hK => ?_) AllReadyH.nil
            go_simp
            refine (add_out BD.M at_ hi hm x).mono ?_
            rintro e v1 ⟨rfl, Q1, T1⟩
            refine hK.out _ _ (T1.bk hHeld n1 n2) (fun hHeld => ?_)
            clear hK K
            try simp only [Act.put, List.getElem_toArray, List.getElem_cons_succ, List.getElem_cons_zero, List.setIfInBounds_toArray, List.set_cons_succ, List.set_cons_zero]
            refine wpAnyH_ready (rs := [11]) (by kernel_rfl) (by simp) ?_
            refine AllReadyH.cons (o := _) rfl (fun K hK => ?_) AllReadyH.nil
            go_simp
            refine (radd_out (BD.R.apart T1 BD.h1.symm BD.h3.symm BD.h2.symm BD.h4.symm) at_ hi hm x).mono ?_
            rintro e v2 ⟨rfl, Q2, T2⟩
            refine hK.out _ _ (T2.bk hHeld n3 n4) (fun hHeld => ?_)
            clear hK K
            try simp only [Act.put, List.getElem_toArray, List.getElem_cons_succ, List.getElem_cons_zero, List.setIfInBounds_toArray, List.set_cons_succ, List.set_cons_zero]
            refine wpAnyH_take (i := 12) (oi := _) (v := .bool true) rfl (by kernel_rfl) (by kernel_rfl) (by kernel_rfl) (fun _ _ _ h => h) (Or.inl ⟨by rfl, fun w' hSw => by go_simp⟩) hHeld ?_
            try simp only [Act.put, List.getElem_toArray, List.getElem_cons_succ, List.getElem_cons_zero, List.setIfInBounds_toArray, List.set_cons_succ, List.set_cons_zero]
            refine wpAnyH_take (i := 13) (oi := _) (v := .bool true) rfl (by kernel_rfl) (by kernel_rfl) (by kernel_rfl) (fun _ _ _ h => h) (Or.inl ⟨by rfl, fun w' hSw => by go_simp⟩) hHeld ?_
            try simp only [Act.put, List.getElem_toArray, List.getElem_cons_succ, List.getElem_cons_zero, List.setIfInBounds_toArray, List.set_cons_succ, List.set_cons_zero]
            have BN := BD.step Q1 T1 Q2 T2
            clear BD Q1 Q2 T1 T2 B1 AB hS0
            refine wpAnyH_done (by kernel_rfl) ?_ _
            have xm := BN.M.B.cells
            have xr := BN.R.B.cells
            have lm := BN.M.lt.1
            have lr := BN.R.lt.1
            try simp only [World.size_alloc, size_setRow, World.size_setCell] at lm lr
            have hnq := neq_acc
            have hgq := guard_accN
            go_wp2
            refine wp_region_grown (by kernel_rfl) (by kernel_rfl) ?_
            have hg := @gcell
            repeat (go_big_quiet_step (fail))
            refine wpQuiet_nil ?_
            rintro v9 ⟨⟨_, hb9⟩, rfl⟩
            clear hg xm xr hnq hgq
            have HN := Lib.hid (BN.keep hb9)
            clear BN hb9
            go_wp2
            go_roundw
            case rel => exact ⟨k + 1, _, _, by omega, by go_num, hLL, HN.out⟩
            case measure => simp [intOf]; omega

      by_cases k5 : kd = 5
      · subst k5
        as_aux_lemma =>
          have hb0 := build_acc0
          go_wp2_with fail
          refine (clear_in B1.M).mono ?_
          rintro e v1 ⟨rfl, Q1, T1⟩
          have R1 := (B1.R.apart T1 B1.h1.symm B1.h3.symm B1.h2.symm B1.h4.symm)
          have Q2 := R1.seen a0
          have T2 := (Touch.refl gr gl2 v1).setRow (rc c a0 ⟨some ⟨gl2, 0, none⟩, L'.length, cpp⟩)
          have BN := B1.step Q1 T1 Q2 T2
          have xr1 := Q2.B.cells
          go_wp2_with (refine Sub.wpList_store_sub rfl 39 _ _ rfl gr 9 #[.int .i64 0, .int .i64 0, .int .u64 0, .int .u64 0, .int .u64 0] rfl rfl 41 (rc c a' ⟨some ⟨gl2, 0, none⟩, L'.length, cpp⟩) (rc c a0 ⟨some ⟨gl2, 0, none⟩, L'.length, cpp⟩) (by exact R1.B) (by kernel_rfl) (Nat.le_of_ble_eq_true (by kernel_rfl)) (by kernel_rfl) (by kernel_rfl) ?_)
          clear xr1 Q1 T1 Q2 T2 R1 B1 AB hb0
          obtain ⟨u5, hu5⟩ : ∃ u, u = v1.setRow gr (rc c a0 ⟨some ⟨gl2, 0, none⟩, L'.length, cpp⟩) := ⟨_, rfl⟩
          rw [← hu5] at BN ⊢
          clear hu5
          try simp only [Act.put]
          have xm := BN.M.B.cells
          have xr := BN.R.B.cells
          have lm := BN.M.lt.1
          have lr := BN.R.lt.1
          try simp only [World.size_alloc, size_setRow, World.size_setCell] at lm lr
          have hnq := neq_acc
          have hgq := guard_accN
          go_wp2
          refine wp_region_grown (by kernel_rfl) (by kernel_rfl) ?_
          have hg := @gcell
          repeat (go_big_quiet_step (fail))
          refine wpQuiet_nil ?_
          rintro v9 ⟨⟨_, hb9⟩, rfl⟩
          clear hg xm xr hnq hgq
          have HN := Lib.hid (BN.keep hb9)
          clear BN hb9
          go_wp2
          go_roundw
          case rel => exact ⟨k + 1, _, _, by omega, by go_num, hLL, HN.out⟩
          case measure => simp [intOf]; omega

      by_cases k6 : kd = 6
      · subst k6
        by_cases hin : 0 ≤ at_ ∧ at_ < (L'.length : Int)
        · obtain ⟨i, hi'⟩ : ∃ i : Nat, at_ = (i : Int) := ⟨at_.toNat, by omega⟩
          subst hi'
          have hi : i < L'.length := by omega
          clear hin
          as_aux_lemma =>
            have xr1 := B1.R.B.cells
            have xa := AB.cells
            have la := AB.lt
            have lr1 := B1.R.lt.1
            try simp only [World.size_alloc] at la lr1
            have c1 : (0 : Int) ≤ (i : Int) := by omega
            have c2 : (i : Int) < (L'.length : Int) := by omega
            have c3 : decide ((i : Int) < (L'.length : Int)) = true := by simp; omega
            have c4 : decide (i < L'.length) = true := by simp; omega
            go_wp2
            refine wp_region_grown (by kernel_rfl) (by kernel_rfl) ?_
            have hg := @gcell
            repeat (go_big_quiet_step (fail))
            refine wpQuiet_nil ?_
            rintro v1 ⟨⟨_, hbv1⟩, rfl⟩
            clear hg
            have B2 := B1.keep hbv1
            have A2 := AB.keep hbv1
            have xa2 := A2.cells
            have xr2 := B2.R.B.cells
            have la2 := A2.lt
            have lr2 := B2.R.lt.1
            clear xr1 xa la lr1 B1 AB hbv1
            have q := B2.R.at hi
            have lq := B2.R.lt.2
            go_wp2
            refine wp_region_grown (by kernel_rfl) (by kernel_rfl) ?_
            have hg := @gcell
            repeat (go_big_quiet_step (fail))
            refine wpQuiet_nil ?_
            rintro v2 ⟨⟨_, hbv2⟩, rfl⟩
            clear hg
            have B3 := B2.keep hbv2
            have A3 := A2.keep hbv2
            have xa3 := A3.cells
            clear q lq xa2 xr2 la2 lr2 B2 A2 hbv2
            go_wp2_with fail
            refine (peek_in B3.M i hi hm).mono ?_
            rintro e v3 ⟨rfl, rfl⟩
            have BN := B3
            clear xa3 A3 B3
            have xm := BN.M.B.cells
            have xr := BN.R.B.cells
            have lm := BN.M.lt.1
            have lr := BN.R.lt.1
            try simp only [World.size_alloc, size_setRow, World.size_setCell] at lm lr
            have hnq := neq_acc
            have hgq := guard_accN
            go_wp2
            refine wp_region_grown (by kernel_rfl) (by kernel_rfl) ?_
            have hg := @gcell
            repeat (go_big_quiet_step (fail))
            refine wpQuiet_nil ?_
            rintro v9 ⟨⟨_, hb9⟩, rfl⟩
            clear hg xm xr hnq hgq
            have HN := Lib.hid (BN.keep hb9)
            clear BN hb9
            go_wp2
            go_roundw
            case rel => exact ⟨k + 1, _, _, by omega, by go_num, hLL, HN.out⟩
            case measure => simp [intOf]; omega
        · have hi := hin
          clear hin
          as_aux_lemma =>
            by_cases h0 : 0 ≤ at_
            · as_aux_lemma =>
                have xr1 := B1.R.B.cells
                have xa := AB.cells
                have la := AB.lt
                have lr1 := B1.R.lt.1
                try simp only [World.size_alloc] at la lr1
                have c1 : decide (0 ≤ at_) = true := by simp; omega
                have c2 : decide (at_ < (L'.length : Int)) = false := by simp; omega
                go_wp2
                refine wp_region_grown (by kernel_rfl) (by kernel_rfl) ?_
                have hg := @gcell
                repeat (go_big_quiet_step (fail))
                refine wpQuiet_nil ?_
                rintro v1 ⟨⟨_, hbv1⟩, rfl⟩
                clear hg
                have B2 := B1.keep hbv1
                have A2 := AB.keep hbv1
                have xa2 := A2.cells
                have xr2 := B2.R.B.cells
                have la2 := A2.lt
                have lr2 := B2.R.lt.1
                clear xr1 xa la lr1 B1 AB hbv1
                go_wp2_with fail
                refine (peek_out B2.M at_ hi hm).mono ?_
                rintro e v3 ⟨rfl, rfl⟩
                have BN := B2
                clear xa2 xr2 la2 lr2 A2 B2
                have xm := BN.M.B.cells
                have xr := BN.R.B.cells
                have lm := BN.M.lt.1
                have lr := BN.R.lt.1
                try simp only [World.size_alloc, size_setRow, World.size_setCell] at lm lr
                have hnq := neq_acc
                have hgq := guard_accN
                go_wp2
                refine wp_region_grown (by kernel_rfl) (by kernel_rfl) ?_
                have hg := @gcell
                repeat (go_big_quiet_step (fail))
                refine wpQuiet_nil ?_
                rintro v9 ⟨⟨_, hb9⟩, rfl⟩
                clear hg xm xr hnq hgq
                have HN := Lib.hid (BN.keep hb9)
                clear BN hb9
                go_wp2
                go_roundw
                case rel => exact ⟨k + 1, _, _, by omega, by go_num, hLL, HN.out⟩
                case measure => simp [intOf]; omega
            · as_aux_lemma =>
                have xr1 := B1.R.B.cells
                have xa := AB.cells
                have la := AB.lt
                have lr1 := B1.R.lt.1
                try simp only [World.size_alloc] at la lr1
                have c1 : decide (0 ≤ at_) = false := by simp; omega
                go_wp2
                refine wp_region_grown (by kernel_rfl) (by kernel_rfl) ?_
                have hg := @gcell
                repeat (go_big_quiet_step (fail))
                refine wpQuiet_nil ?_
                rintro v1 ⟨⟨_, hbv1⟩, rfl⟩
                clear hg
                have B2 := B1.keep hbv1
                have A2 := AB.keep hbv1
                have xa2 := A2.cells
                have xr2 := B2.R.B.cells
                have la2 := A2.lt
                have lr2 := B2.R.lt.1
                clear xr1 xa la lr1 B1 AB hbv1
                go_wp2_with fail
                refine (peek_out B2.M at_ hi hm).mono ?_
                rintro e v3 ⟨rfl, rfl⟩
                have BN := B2
                clear xa2 xr2 la2 lr2 A2 B2
                have xm := BN.M.B.cells
                have xr := BN.R.B.cells
                have lm := BN.M.lt.1
                have lr := BN.R.lt.1
                try simp only [World.size_alloc, size_setRow, World.size_setCell] at lm lr
                have hnq := neq_acc
                have hgq := guard_accN
                go_wp2
                refine wp_region_grown (by kernel_rfl) (by kernel_rfl) ?_
                have hg := @gcell
                repeat (go_big_quiet_step (fail))
                refine wpQuiet_nil ?_
                rintro v9 ⟨⟨_, hb9⟩, rfl⟩
                clear hg xm xr hnq hgq
                have HN := Lib.hid (BN.keep hb9)
                clear BN hb9
                go_wp2
                go_roundw
                case rel => exact ⟨k + 1, _, _, by omega, by go_num, hLL, HN.out⟩
                case measure => simp [intOf]; omega

      have t1 : (kd == 1) = false := by simp [k1]
      have t2 : (kd == 2) = false := by simp [k2]
      have t3 : (kd == 3) = false := by simp [k3]
      have t4 : (kd == 4) = false := by simp [k4]
      have t5 : (kd == 5) = false := by simp [k5]
      have t6 : (kd == 6) = false := by simp [k6]
      clear k1 k2 k3 k4 k5 k6
      have BN := B1
      clear B1 AB
      as_aux_lemma =>
        have xm := BN.M.B.cells
        have xr := BN.R.B.cells
        have lm := BN.M.lt.1
        have lr := BN.R.lt.1
        try simp only [World.size_alloc, size_setRow, World.size_setCell] at lm lr
        have hnq := neq_acc
        have hgq := guard_accN
        go_wp2
        refine wp_region_grown (by kernel_rfl) (by kernel_rfl) ?_
        have hg := @gcell
        repeat (go_big_quiet_step (fail))
        refine wpQuiet_nil ?_
        rintro v9 ⟨⟨_, hb9⟩, rfl⟩
        clear hg xm xr hnq hgq
        have HN := Lib.hid (BN.keep hb9)
        clear BN hb9
        go_wp2
        go_roundw
        case rel => exact ⟨k + 1, _, _, by omega, by go_num, hLL, HN.out⟩
        case measure => simp [intOf]; omega
    · as_aux_lemma =>
        obtain rfl : na = k := by omega
        have hL1 : 0 < L'.length := by rw [hLL]; exact HL0.out.2
        go_wp2_with fail
        refine (memCopy B.M hm hL1).mono ?_
        rintro e v1 ⟨g', gl', cap', rfl, Mk, hb1⟩
        have B1 := B.keep hb1
        have p1 := B.M.lt
        have p2 := B.R.lt
        have p3 := Mk.g0
        have p4 := Mk.gl0
        have hb0 := build_acc0
        have hnq := neq_acc a0
        have hgq := guard_accN a0 a0
        have HML := Lib.hid (And.intro hm hL1)
        clear B hb1
        go_wp2
        have hS0 : Below v1.heap.size v1 v1.drew := Below.drew (Below.refl _ _)
        have hs0 : v1.drew.heap.size = v1.heap.size := rfl
        refine wp_region_held_drew (S := fun w' => Below v1.heap.size v1 w') (by kernel_rfl) hS0 (fun hHeld => ?_)
        generalize v1.drew = u0 at *
        refine wpAnyH_take (i := 0) (oi := _) (v := .pointer (some ⟨g', 0, none⟩)) rfl (by kernel_rfl) (by kernel_rfl) (by kernel_rfl) (fun _ _ _ h => h) (Or.inl ⟨by rfl, fun w' hSw => by go_simp⟩) hHeld ?_
        try simp only [Act.put, List.getElem_toArray, List.getElem_cons_succ, List.getElem_cons_zero, List.setIfInBounds_toArray, List.set_cons_succ, List.set_cons_zero]
        refine wpAnyH_take (i := 1) (oi := _) (v := .bool false) rfl (by kernel_rfl) (by kernel_rfl) (by kernel_rfl) (fun _ _ _ h => h) (Or.inl ⟨by rfl, fun w' hSw => by go_simp⟩) hHeld ?_
        try simp only [Act.put, List.getElem_toArray, List.getElem_cons_succ, List.getElem_cons_zero, List.setIfInBounds_toArray, List.set_cons_succ, List.set_cons_zero]
        refine wpAnyH_take (i := 2) (oi := _) (v := .bool false) rfl (by kernel_rfl) (by kernel_rfl) (by kernel_rfl) (fun _ _ _ h => h) (Or.inl ⟨by rfl, fun w' hSw => by go_simp⟩) hHeld ?_
        try simp only [Act.put, List.getElem_toArray, List.getElem_cons_succ, List.getElem_cons_zero, List.setIfInBounds_toArray, List.set_cons_succ, List.set_cons_zero]
        refine wpAnyH_take (i := 3) (oi := _) (v := .pointer (some ⟨g', 0, none⟩)) rfl (by kernel_rfl) (by kernel_rfl) (by kernel_rfl) (fun _ _ _ h => h) (Or.inl ⟨by rfl, fun w' hSw => by go_simp⟩) hHeld ?_
        try simp only [Act.put, List.getElem_toArray, List.getElem_cons_succ, List.getElem_cons_zero, List.setIfInBounds_toArray, List.set_cons_succ, List.set_cons_zero]
        refine wpAnyH_take (i := 4) (oi := _) (v := .pointer (some ⟨g', 0, none⟩)) rfl (by kernel_rfl) (by kernel_rfl) (by kernel_rfl) (fun _ _ _ h => h) (Or.inl ⟨by rfl, fun w' hSw => by go_simp⟩) hHeld ?_
        try simp only [Act.put, List.getElem_toArray, List.getElem_cons_succ, List.getElem_cons_zero, List.setIfInBounds_toArray, List.set_cons_succ, List.set_cons_zero]
        refine wpAnyH_take (i := 5) (oi := _) (v := .pointer (some ⟨g', 8, none⟩)) rfl (by kernel_rfl) (by kernel_rfl) (by kernel_rfl) (fun _ _ _ h => h) (Or.inl ⟨by rfl, fun w' hSw => by go_simp⟩) hHeld ?_
        try simp only [Act.put, List.getElem_toArray, List.getElem_cons_succ, List.getElem_cons_zero, List.setIfInBounds_toArray, List.set_cons_succ, List.set_cons_zero]
        refine wpAnyH_take (i := 6) (oi := _) (v := av a0) rfl (by kernel_rfl) (by kernel_rfl) (by kernel_rfl) (fun _ _ _ h => h) (Or.inl ⟨by rfl, fun w' hSw => by have xx := (Mk.keep hSw).B.cells; go_simp⟩) hHeld ?_
        try simp only [Act.put, List.getElem_toArray, List.getElem_cons_succ, List.getElem_cons_zero, List.setIfInBounds_toArray, List.set_cons_succ, List.set_cons_zero]
        refine wpAnyH_take (i := 7) (oi := _) (v := av a0) rfl (by kernel_rfl) (by kernel_rfl) (by kernel_rfl) (fun _ _ _ h => h) (Or.inl ⟨by rfl, fun w' hSw => by go_simp; exact ⟨rfl, rfl, rfl, rfl, rfl⟩⟩) hHeld ?_
        try simp only [Act.put, List.getElem_toArray, List.getElem_cons_succ, List.getElem_cons_zero, List.setIfInBounds_toArray, List.set_cons_succ, List.set_cons_zero]
        refine wpAnyH_take (i := 8) (oi := _) (v := .bool false) rfl (by kernel_rfl) (by kernel_rfl) (by kernel_rfl) (fun _ _ _ h => h) (Or.inl ⟨by rfl, fun w' hSw => by go_simp⟩) hHeld ?_
        try simp only [Act.put, List.getElem_toArray, List.getElem_cons_succ, List.getElem_cons_zero, List.setIfInBounds_toArray, List.set_cons_succ, List.set_cons_zero]
        refine wpAnyH_take (i := 9) (oi := _) (v := .bool false) rfl (by kernel_rfl) (by kernel_rfl) (by kernel_rfl) (fun _ _ _ h => h) (Or.inl ⟨by rfl, fun w' hSw => by go_simp⟩) hHeld ?_
        try simp only [Act.put, List.getElem_toArray, List.getElem_cons_succ, List.getElem_cons_zero, List.setIfInBounds_toArray, List.set_cons_succ, List.set_cons_zero]
        refine wpAnyH_take (i := 10) (oi := _) (v := .bool false) rfl (by kernel_rfl) (by kernel_rfl) (by kernel_rfl) (fun _ _ _ h => h) (Or.inl ⟨by rfl, fun w' hSw => by go_simp⟩) hHeld ?_
        try simp only [Act.put, List.getElem_toArray, List.getElem_cons_succ, List.getElem_cons_zero, List.setIfInBounds_toArray, List.set_cons_succ, List.set_cons_zero]
        refine wpAnyH_take (i := 11) (oi := _) (v := .pointer (some ⟨g', 0, none⟩)) rfl (by kernel_rfl) (by kernel_rfl) (by kernel_rfl) (fun _ _ _ h => h) (Or.inl ⟨by rfl, fun w' hSw => by go_simp⟩) hHeld ?_
        try simp only [Act.put, List.getElem_toArray, List.getElem_cons_succ, List.getElem_cons_zero, List.setIfInBounds_toArray, List.set_cons_succ, List.set_cons_zero]
        refine wpAnyH_take (i := 13) (oi := _) (v := .pointer (some ⟨gr, 0, none⟩)) rfl (by kernel_rfl) (by kernel_rfl) (by kernel_rfl) (fun _ _ _ h => h) (Or.inl ⟨by rfl, fun w' hSw => by go_simp⟩) hHeld ?_
        try simp only [Act.put, List.getElem_toArray, List.getElem_cons_succ, List.getElem_cons_zero, List.setIfInBounds_toArray, List.set_cons_succ, List.set_cons_zero]
        refine wpAnyH_take (i := 14) (oi := _) (v := .pointer (some ⟨gr, 0, none⟩)) rfl (by kernel_rfl) (by kernel_rfl) (by kernel_rfl) (fun _ _ _ h => h) (Or.inl ⟨by rfl, fun w' hSw => by go_simp⟩) hHeld ?_
        try simp only [Act.put, List.getElem_toArray, List.getElem_cons_succ, List.getElem_cons_zero, List.setIfInBounds_toArray, List.set_cons_succ, List.set_cons_zero]
        refine wpAnyH_take (i := 15) (oi := _) (v := .pointer (some ⟨gr, 8, none⟩)) rfl (by kernel_rfl) (by kernel_rfl) (by kernel_rfl) (fun _ _ _ h => h) (Or.inl ⟨by rfl, fun w' hSw => by go_simp⟩) hHeld ?_
        try simp only [Act.put, List.getElem_toArray, List.getElem_cons_succ, List.getElem_cons_zero, List.setIfInBounds_toArray, List.set_cons_succ, List.set_cons_zero]
        refine wpAnyH_take (i := 16) (oi := _) (v := .slice (some ⟨gl2, 0, none⟩) L'.length cpp) rfl (by kernel_rfl) (by kernel_rfl) (by kernel_rfl) (fun _ _ _ h => h) (Or.inl ⟨by rfl, fun w' hSw => by have xx := (B1.R.keep hSw).B.cells; go_simp⟩) hHeld ?_
        try simp only [Act.put, List.getElem_toArray, List.getElem_cons_succ, List.getElem_cons_zero, List.setIfInBounds_toArray, List.set_cons_succ, List.set_cons_zero]
        refine wpAnyH_ready (rs := [12]) (by kernel_rfl) (by simp) ?_
        refine AllReadyH.cons (o := _) rfl (fun K hK => ?_) AllReadyH.nil
        go_simp
        refine (all_in (Mk.keep hHeld) HML.out.1).mono ?_
        rintro e u1 ⟨y1, rfl, hy1, hb⟩
        have hHeld' := hHeld.trans (hb.mono hHeld.size)
        refine hK.out _ _ hHeld' (fun hHeld => ?_)
        clear hK K hHeld'
        try simp only [Act.put, List.getElem_toArray, List.getElem_cons_succ, List.getElem_cons_zero, List.setIfInBounds_toArray, List.set_cons_succ, List.set_cons_zero]
        have rd1 := Reads.of_own hy1 rfl
        clear hb hy1
        have rd2 : Reads u1 .u64 (.slice (some ⟨gl2, 0, none⟩) L.length cpp) L' := by rw [← hLL]; exact Reads.of_own (B1.R.keep hHeld).W rfl
        refine wpAnyH_ready (rs := [17]) (by kernel_rfl) (by simp) ?_
        refine AllReadyH.cons (o := _) rfl (fun K hK => ?_) AllReadyH.nil
        go_simp
        refine (same_true rd1 rd2).mono ?_
        rintro e u2 ⟨rfl, hb⟩
        have hHeld' := hHeld.trans (hb.mono hHeld.size)
        refine hK.out _ _ hHeld' (fun hHeld => ?_)
        clear hK K hHeld'
        try simp only [Act.put, List.getElem_toArray, List.getElem_cons_succ, List.getElem_cons_zero, List.setIfInBounds_toArray, List.set_cons_succ, List.set_cons_zero]
        clear hb rd1 rd2
        refine wpAnyH_take (i := 18) (oi := _) (v := .bool false) rfl (by kernel_rfl) (by kernel_rfl) (by kernel_rfl) (fun _ _ _ h => h) (Or.inl ⟨by rfl, fun w' hSw => by go_simp⟩) hHeld ?_
        try simp only [Act.put, List.getElem_toArray, List.getElem_cons_succ, List.getElem_cons_zero, List.setIfInBounds_toArray, List.set_cons_succ, List.set_cons_zero]
        refine wpAnyH_take (i := 19) (oi := _) (v := .bool false) rfl (by kernel_rfl) (by kernel_rfl) (by kernel_rfl) (fun _ _ _ h => h) (Or.inl ⟨by rfl, fun w' hSw => by go_simp⟩) hHeld ?_
        try simp only [Act.put, List.getElem_toArray, List.getElem_cons_succ, List.getElem_cons_zero, List.setIfInBounds_toArray, List.set_cons_succ, List.set_cons_zero]
        refine wpAnyH_done (by kernel_rfl) ?_ _
        have B2 := B1.keep hHeld
        have M2 := Mk.keep hHeld
        have sz2 := hHeld.size
        clear B1 Mk hHeld hS0 hs0 hb0 hnq hgq
        go_wp2_with fail
        refine (store_in M2 0 HML.out.2 HML.out.1 99).mono ?_
        rintro e v4 ⟨rfl, _, T4⟩
        have M4 := B2.M.apart T4 (by omega) (by omega) (by omega) (by omega)
        have R4 := B2.R.apart T4 (by omega) (by omega) (by omega) (by omega)
        have b4 := B2.below.trans (T4.below (base := w3.heap.size) (by have := B2.M.g0; omega) (by have := B2.M.g0; omega) B2.below.size)
        have C4 := HC3.out.keep b4
        have hyr4 := HYR.out.keep b4
        have hr4 := HHR.out.keep (HW3.out.trans (b4.mono HW3.out.size))
        clear B2 M2 T4
        go_wp2
        have hS0 : Below v4.heap.size v4 v4.drew := Below.drew (Below.refl _ _)
        have hs0 : v4.drew.heap.size = v4.heap.size := rfl
        refine wp_region_held_drew (S := fun w' => Below v4.heap.size v4 w') (by kernel_rfl) hS0 (fun hHeld => ?_)
        generalize v4.drew = z0 at *
        refine wpAnyH_take (i := 0) (oi := _) (v := .pointer (some ⟨g, 0, none⟩)) rfl (by kernel_rfl) (by kernel_rfl) (by kernel_rfl) (fun _ _ _ h => h) (Or.inl ⟨by rfl, fun w' hSw => by go_simp⟩) hHeld ?_
        try simp only [Act.put, List.getElem_toArray, List.getElem_cons_succ, List.getElem_cons_zero, List.setIfInBounds_toArray, List.set_cons_succ, List.set_cons_zero]
        refine wpAnyH_take (i := 2) (oi := _) (v := .pointer (some ⟨gr, 0, none⟩)) rfl (by kernel_rfl) (by kernel_rfl) (by kernel_rfl) (fun _ _ _ h => h) (Or.inl ⟨by rfl, fun w' hSw => by go_simp⟩) hHeld ?_
        try simp only [Act.put, List.getElem_toArray, List.getElem_cons_succ, List.getElem_cons_zero, List.setIfInBounds_toArray, List.set_cons_succ, List.set_cons_zero]
        refine wpAnyH_take (i := 3) (oi := _) (v := .pointer (some ⟨gr, 0, none⟩)) rfl (by kernel_rfl) (by kernel_rfl) (by kernel_rfl) (fun _ _ _ h => h) (Or.inl ⟨by rfl, fun w' hSw => by go_simp⟩) hHeld ?_
        try simp only [Act.put, List.getElem_toArray, List.getElem_cons_succ, List.getElem_cons_zero, List.setIfInBounds_toArray, List.set_cons_succ, List.set_cons_zero]
        refine wpAnyH_take (i := 4) (oi := _) (v := .pointer (some ⟨gr, 8, none⟩)) rfl (by kernel_rfl) (by kernel_rfl) (by kernel_rfl) (fun _ _ _ h => h) (Or.inl ⟨by rfl, fun w' hSw => by go_simp⟩) hHeld ?_
        try simp only [Act.put, List.getElem_toArray, List.getElem_cons_succ, List.getElem_cons_zero, List.setIfInBounds_toArray, List.set_cons_succ, List.set_cons_zero]
        refine wpAnyH_take (i := 5) (oi := _) (v := .slice (some ⟨gl2, 0, none⟩) L'.length cpp) rfl (by kernel_rfl) (by kernel_rfl) (by kernel_rfl) (fun _ _ _ h => h) (Or.inl ⟨by rfl, fun w' hSw => by have xx := (R4.keep hSw).B.cells; go_simp⟩) hHeld ?_
        try simp only [Act.put, List.getElem_toArray, List.getElem_cons_succ, List.getElem_cons_zero, List.setIfInBounds_toArray, List.set_cons_succ, List.set_cons_zero]
        refine wpAnyH_ready (rs := [1]) (by kernel_rfl) (by simp) ?_
        refine AllReadyH.cons (o := _) rfl (fun K hK => ?_) AllReadyH.nil
        go_simp
        refine (all_in (M4.keep hHeld) HML.out.1).mono ?_
        rintro e z1 ⟨y1, rfl, hy1, hb⟩
        have hHeld' := hHeld.trans (hb.mono hHeld.size)
        refine hK.out _ _ hHeld' (fun hHeld => ?_)
        clear hK K hHeld'
        try simp only [Act.put, List.getElem_toArray, List.getElem_cons_succ, List.getElem_cons_zero, List.setIfInBounds_toArray, List.set_cons_succ, List.set_cons_zero]
        have rd1 := Reads.of_own hy1 rfl
        clear hb hy1
        have rd2 : Reads z1 .u64 (.slice (some ⟨gl2, 0, none⟩) L.length cpp) L' := by rw [← hLL]; exact Reads.of_own (R4.keep hHeld).W rfl
        refine wpAnyH_ready (rs := [6]) (by kernel_rfl) (by simp) ?_
        refine AllReadyH.cons (o := _) rfl (fun K hK => ?_) AllReadyH.nil
        go_simp
        refine (same_true rd1 rd2).mono ?_
        rintro e z2 ⟨rfl, hb⟩
        have hHeld' := hHeld.trans (hb.mono hHeld.size)
        refine hK.out _ _ hHeld' (fun hHeld => ?_)
        clear hK K hHeld'
        try simp only [Act.put, List.getElem_toArray, List.getElem_cons_succ, List.getElem_cons_zero, List.setIfInBounds_toArray, List.set_cons_succ, List.set_cons_zero]
        clear hb rd1 rd2
        refine wpAnyH_take (i := 7) (oi := _) (v := .bool true) rfl (by kernel_rfl) (by kernel_rfl) (by kernel_rfl) (fun _ _ _ h => h) (Or.inl ⟨by rfl, fun w' hSw => by go_simp⟩) hHeld ?_
        try simp only [Act.put, List.getElem_toArray, List.getElem_cons_succ, List.getElem_cons_zero, List.setIfInBounds_toArray, List.set_cons_succ, List.set_cons_zero]
        refine wpAnyH_take (i := 8) (oi := _) (v := y.v) rfl (by kernel_rfl) (by kernel_rfl) (by kernel_rfl) (fun _ _ _ h => h) (Or.inl ⟨by rfl, fun w' hSw => by go_simp⟩) hHeld ?_
        try simp only [Act.put, List.getElem_toArray, List.getElem_cons_succ, List.getElem_cons_zero, List.setIfInBounds_toArray, List.set_cons_succ, List.set_cons_zero]
        refine wpAnyH_take (i := 9) (oi := _) (v := .slice ad n cap) rfl (by kernel_rfl) (by kernel_rfl) (by kernel_rfl) (fun _ _ _ h => h) (Or.inl ⟨by rfl, fun w' hSw => by go_simp⟩) hHeld ?_
        try simp only [Act.put, List.getElem_toArray, List.getElem_cons_succ, List.getElem_cons_zero, List.setIfInBounds_toArray, List.set_cons_succ, List.set_cons_zero]
        have rd3 : Reads z2 .u64 y.v L := hyr4.keep hHeld
        have rd4 : Reads z2 .u64 (.slice ad n cap) L := hr4.keep hHeld
        refine wpAnyH_ready (rs := [10]) (by kernel_rfl) (by simp) ?_
        refine AllReadyH.cons (o := _) rfl (fun K hK => ?_) AllReadyH.nil
        go_simp
        refine (same_true rd3 rd4).mono ?_
        rintro e z3 ⟨rfl, hb⟩
        have hHeld' := hHeld.trans (hb.mono hHeld.size)
        refine hK.out _ _ hHeld' (fun hHeld => ?_)
        clear hK K hHeld'
        try simp only [Act.put, List.getElem_toArray, List.getElem_cons_succ, List.getElem_cons_zero, List.setIfInBounds_toArray, List.set_cons_succ, List.set_cons_zero]
        clear hb
        refine wpAnyH_take (i := 11) (oi := _) (v := .bool true) rfl (by kernel_rfl) (by kernel_rfl) (by kernel_rfl) (fun _ _ _ h => h) (Or.inl ⟨by rfl, fun w' hSw => by go_simp⟩) hHeld ?_
        try simp only [Act.put, List.getElem_toArray, List.getElem_cons_succ, List.getElem_cons_zero, List.setIfInBounds_toArray, List.set_cons_succ, List.set_cons_zero]
        refine wpAnyH_take (i := 12) (oi := _) (v := .bool true) rfl (by kernel_rfl) (by kernel_rfl) (by kernel_rfl) (fun _ _ _ h => h) (Or.inl ⟨by rfl, fun w' hSw => by go_simp⟩) hHeld ?_
        try simp only [Act.put, List.getElem_toArray, List.getElem_cons_succ, List.getElem_cons_zero, List.setIfInBounds_toArray, List.set_cons_succ, List.set_cons_zero]
        refine wpAnyH_take (i := 13) (oi := _) (v := .pointer (some ⟨g, 0, none⟩)) rfl (by kernel_rfl) (by kernel_rfl) (by kernel_rfl) (fun _ _ _ h => h) (Or.inl ⟨by rfl, fun w' hSw => by go_simp⟩) hHeld ?_
        try simp only [Act.put, List.getElem_toArray, List.getElem_cons_succ, List.getElem_cons_zero, List.setIfInBounds_toArray, List.set_cons_succ, List.set_cons_zero]
        refine wpAnyH_take (i := 14) (oi := _) (v := .pointer (some ⟨g, 0, none⟩)) rfl (by kernel_rfl) (by kernel_rfl) (by kernel_rfl) (fun _ _ _ h => h) (Or.inl ⟨by rfl, fun w' hSw => by go_simp⟩) hHeld ?_
        try simp only [Act.put, List.getElem_toArray, List.getElem_cons_succ, List.getElem_cons_zero, List.setIfInBounds_toArray, List.set_cons_succ, List.set_cons_zero]
        refine wpAnyH_take (i := 15) (oi := _) (v := .pointer (some ⟨g, 0, none⟩)) rfl (by kernel_rfl) (by kernel_rfl) (by kernel_rfl) (fun _ _ _ h => h) (Or.inl ⟨by rfl, fun w' hSw => by go_simp⟩) hHeld ?_
        try simp only [Act.put, List.getElem_toArray, List.getElem_cons_succ, List.getElem_cons_zero, List.setIfInBounds_toArray, List.set_cons_succ, List.set_cons_zero]
        refine wpAnyH_take (i := 16) (oi := _) (v := .pointer (some ⟨g, 0, none⟩)) rfl (by kernel_rfl) (by kernel_rfl) (by kernel_rfl) (fun _ _ _ h => h) (Or.inl ⟨by rfl, fun w' hSw => by go_simp⟩) hHeld ?_
        try simp only [Act.put, List.getElem_toArray, List.getElem_cons_succ, List.getElem_cons_zero, List.setIfInBounds_toArray, List.set_cons_succ, List.set_cons_zero]
        refine wpAnyH_take (i := 17) (oi := _) (v := cv c) rfl (by kernel_rfl) (by kernel_rfl) (by kernel_rfl) (fun _ _ _ h => h) (Or.inl ⟨by rfl, fun w' hSw => by have xx := (M4.keep hSw).B.cells; go_simp⟩) hHeld ?_
        try simp only [Act.put, List.getElem_toArray, List.getElem_cons_succ, List.getElem_cons_zero, List.setIfInBounds_toArray, List.set_cons_succ, List.set_cons_zero]
        refine wpAnyH_take (i := 18) (oi := _) (v := cv c) rfl (by kernel_rfl) (by kernel_rfl) (by kernel_rfl) (fun _ _ _ h => h) (Or.inl ⟨by rfl, fun w' hSw => by have xx := (C4.keep hSw).cells; go_simp⟩) hHeld ?_
        try simp only [Act.put, List.getElem_toArray, List.getElem_cons_succ, List.getElem_cons_zero, List.setIfInBounds_toArray, List.set_cons_succ, List.set_cons_zero]
        refine wpAnyH_take (i := 19) (oi := _) (v := .bool true) rfl (by kernel_rfl) (by kernel_rfl) (by kernel_rfl) (fun _ _ _ h => h) (Or.inl ⟨by rfl, fun w' hSw => by have hq := eql_cfg c; have hgg := guard_cfg c; go_simp⟩) hHeld ?_
        try simp only [Act.put, List.getElem_toArray, List.getElem_cons_succ, List.getElem_cons_zero, List.setIfInBounds_toArray, List.set_cons_succ, List.set_cons_zero]
        refine wpAnyH_take (i := 20) (oi := _) (v := .bool true) rfl (by kernel_rfl) (by kernel_rfl) (by kernel_rfl) (fun _ _ _ h => h) (Or.inl ⟨by rfl, fun w' hSw => by go_simp⟩) hHeld ?_
        try simp only [Act.put, List.getElem_toArray, List.getElem_cons_succ, List.getElem_cons_zero, List.setIfInBounds_toArray, List.set_cons_succ, List.set_cons_zero]
        refine wpAnyH_take (i := 21) (oi := _) (v := .bool true) rfl (by kernel_rfl) (by kernel_rfl) (by kernel_rfl) (fun _ _ _ h => h) (Or.inl ⟨by rfl, fun w' hSw => by go_simp⟩) hHeld ?_
        try simp only [Act.put, List.getElem_toArray, List.getElem_cons_succ, List.getElem_cons_zero, List.setIfInBounds_toArray, List.set_cons_succ, List.set_cons_zero]
        refine wpAnyH_done (by kernel_rfl) ?_ _
        have hfin := HW3.out.trans ((b4.trans (hHeld.mono b4.size)).mono HW3.out.size)
        clear hHeld hS0 hs0 M4 R4 b4 C4 hyr4 hr4
        go_wp2
        go_ret
        exact ⟨rfl, hfin⟩

end Go.Proofs.Ytgjkjobemnhbmaa.Me

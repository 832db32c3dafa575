/- Both and Alike of the laws of layer 6: a memory and the reference's, of the same words (made by genboth.py). -/
import Derived.Test.YtgpdkagmacpghaaRefs
import Derived.Test.YtgpdkagmacpghaaMemCopy
import Derived.Test.YtgpdkagmacpghaaPlans
import Derived.Test.YtgpdkagmacpghaaStepFn
import Derived.IntWalk
import Derived.Laws.StructEq
namespace Go.Proofs.Ytgpdkagmacpghaa.Me
open Go Go.RowKit Go.Proofs.Ytgpdkagmacpghaa.Gro Go.Proofs.Ytgpdkagmacpghaa.Own Go.Proofs.Ytgpdkagmacpghaa.Wd Go.Proofs.Ytgpdkagmacpghaa.Ap Go.Proofs.Ytgpdkagmacpghaa.Pl
set_option linter.unusedVariables false
set_option linter.unusedSimpArgs false
theorem build_ref (c : Cfg) (v : Sl) (w : World) : (Instr.build 84 #[(0, cv c), (1, v.v)]).run Try.prog w = .ok (.agg (rc c a0 v)) w := run_build w _ _ _ (by kernel_rfl)
theorem eql_accA (a : Acc) (w : World) : (binOp .eql 77 (av a) (av a)).run Try.prog w = .ok (.bool true) w := by
  rw [run_eql_struct]
  go_simp
theorem guard_accA (a b : Acc) (x y : Operand) (w : World) : (eqGuard .eql 77 x y (av a) (av b)).run Try.prog w = .ok () w := run_eqGuard_agg w .eql _ x y _ _ (by kernel_rfl)
/-- Both memories, with the same words and the same last access. -/
structure Both2 (w3 : World) (g gl cp g2 gl2 cp2 : Nat) (c : Cfg) (a : Acc) (L : List Int) (w : World) : Prop where
  M : MemAt w3.heap.size w g c a gl cp L
  R : RefMem w3.heap.size w g2 c a gl2 cp2 L
  h1 : g ≠ g2
  h2 : g ≠ gl2
  h3 : gl ≠ g2
  h4 : gl ≠ gl2
  below : Below w3.heap.size w3 w
theorem Both2.keep {w3 w w' : World} {g gl cp g2 gl2 cp2 : Nat} {c : Cfg} {a : Acc} {L : List Int} (h : Both2 w3 g gl cp g2 gl2 cp2 c a L w) (hb : Below w.heap.size w w') : Both2 w3 g gl cp g2 gl2 cp2 c a L w' :=
  ⟨h.M.keep hb, h.R.keep hb, h.h1, h.h2, h.h3, h.h4, h.below.trans (hb.mono h.below.size)⟩
/-- An operation on the one and on the other, in either order. -/
theorem Both2.step {w3 w u v : World} {g gl cp g2 gl2 cp2 : Nat} {c : Cfg} {a a' : Acc} {L L' : List Int} (h : Both2 w3 g gl cp g2 gl2 cp2 c a L w) (M : MemAt w3.heap.size u g c a' gl cp L') (tm : Touch g gl w u) (R : RefMem w3.heap.size v g2 c a' gl2 cp2 L') (tr : Touch g2 gl2 u v) : Both2 w3 g gl cp g2 gl2 cp2 c a' L' v := by
  have b1 := h.below
  have q1 := h.M.g0
  have q2 := h.M.gl0
  have q3 := h.R.g0
  have q4 := h.R.gl0
  exact ⟨M.apart tr h.h1 h.h2 h.h3 h.h4, R, h.h1, h.h2, h.h3, h.h4, (b1.trans (tm.below q1 q2 b1.size)).trans (tr.below q3 q4 (Nat.le_trans b1.size tm.size))⟩
theorem Both2.step' {w3 w u v : World} {g gl cp g2 gl2 cp2 : Nat} {c : Cfg} {a a' : Acc} {L L' : List Int} (h : Both2 w3 g gl cp g2 gl2 cp2 c a L w) (R : RefMem w3.heap.size u g2 c a' gl2 cp2 L') (tr : Touch g2 gl2 w u) (M : MemAt w3.heap.size v g c a' gl cp L') (tm : Touch g gl u v) : Both2 w3 g gl cp g2 gl2 cp2 c a' L' v := by
  have b1 := h.below
  have q1 := h.M.g0
  have q2 := h.M.gl0
  have q3 := h.R.g0
  have q4 := h.R.gl0
  exact ⟨M, R.apart tm h.h1.symm h.h3.symm h.h2.symm h.h4.symm, h.h1, h.h2, h.h3, h.h4, (b1.trans (tr.below q3 q4 b1.size)).trans (tm.below q1 q2 (Nat.le_trans b1.size tr.size))⟩
/-- There is none, or more than is looked at. -/
def BothNo (w : World) (e : Ending) (w' : World) : Prop := (∃ v1 v2, e = .returned (.tuple #[v1, v2, .bool false])) ∧ Below w.heap.size w w'
def BothYes (c : Cfg) (L : List Int) (w : World) (e : Ending) (w' : World) : Prop := ∃ g gl cp g2 gl2 cp2, e = .returned (.tuple #[.pointer (some ⟨g, 0, none⟩), .pointer (some ⟨g2, 0, none⟩), .bool true]) ∧ Both2 w g gl cp g2 gl2 cp2 c a0 L w'
theorem MemAt.base {B B' g gl cap : Nat} {w : World} {c : Cfg} {a : Acc} {L : List Int} (M : MemAt B w g c a gl cap L) (h : B' ≤ B) : MemAt B' w g c a gl cap L := ⟨M.B, owns_base M.W h, Nat.le_trans h M.g0, M.ne⟩
theorem owns_slI' {w : World} {base n size : Nat} {e : TypeId} {v : Value} {xs : List Value} (h : w.ownsRow base e size v n xs) : ∃ y : Sl, v = y.v ∧ y.len = n := by
  rcases h.2 with ⟨rfl, h0⟩ | ⟨g, cap, cur, rfl, _⟩
  · exact ⟨nilS, rfl, h0.symm⟩
  · exact ⟨⟨some ⟨g, 0, none⟩, n, cap⟩, rfl, rfl⟩
set_option maxRecDepth 10000 in
set_option maxHeartbeats 4000000 in
theorem both_great (c : Cfg) (hf : c.Wf) (ad : Option Addr) (n cap : Nat) (hg : greatC c = true) (w : World) : Calls Try.prog 8 #[cv c, .slice ad n cap] w (BothNo w) := by
  have C0 := Bk.new w (ccM c) 24
  have hw0 : Below w.heap.size w (w.alloc (.cells (ccM c) 24)) := (Below.refl _ _).alloc (Nat.le_refl _) _
  have HG := Lib.hid (fun w => hg ▸ greatMem c hf w)
  go_enter Try.func8, Try.ntmps8
  go_wp2_with (refine wpList_load_row rfl 24 _ rfl w.heap.size rfl _ (ccM c) (0, 0) _ (by exact C0) Try.underlying24 rfl (by kernel_rfl) ?_)
  refine (HG.out _).mono ?_
  rintro e w1 ⟨rfl, hb1⟩
  have C1 := C0.keep hb1
  have hw1 := hw0.trans (hb1.mono hw0.size)
  clear C0 hw0 hb1 HG
  go_wp2
  go_ret3
  exact ⟨⟨_, _, rfl⟩, hw1⟩
set_option maxRecDepth 10000 in
set_option maxHeartbeats 4000000 in
theorem both_long (c : Cfg) (hf : c.Wf) (ad : Option Addr) (n cap : Nat) (hg : greatC c = false) (hn : 400 < n) (hm : n ≤ 9223372036854775807) (w : World) : Calls Try.prog 8 #[cv c, .slice ad n cap] w (BothNo w) := by
  have C0 := Bk.new w (ccM c) 24
  have hw0 : Below w.heap.size w (w.alloc (.cells (ccM c) 24)) := (Below.refl _ _).alloc (Nat.le_refl _) _
  have HG := Lib.hid (fun w => hg ▸ greatMem c hf w)
  have d1 : decide ((400 : Int) < (n : Int)) = true := by simp; omega
  go_enter Try.func8, Try.ntmps8
  go_wp2_with (refine wpList_load_row rfl 24 _ rfl w.heap.size rfl _ (ccM c) (0, 0) _ (by exact C0) Try.underlying24 rfl (by kernel_rfl) ?_)
  refine (HG.out _).mono ?_
  rintro e w1 ⟨rfl, hb1⟩
  have C1 := C0.keep hb1
  have hw1 := hw0.trans (hb1.mono hw0.size)
  clear C0 hw0 hb1 HG
  go_wp2
  go_ret3
  exact ⟨⟨_, _, rfl⟩, hw1⟩
set_option maxRecDepth 10000 in
set_option maxHeartbeats 4000000 in
theorem both_yes (c : Cfg) (hf : c.Wf) (ad : Option Addr) (n cap : Nat) (hg : greatC c = false) (hn : n ≤ 400) (hk : Ok c) (L : List Int) (hl : L.length = n) (hs : (n : Int) = siz c) (w : World) (hr : Reads w .u64 (.slice ad n cap) L) : Calls Try.prog 8 #[cv c, .slice ad n cap] w (BothYes c L w) := by
  have C0 := Bk.new w (ccM c) 24
  have hw0 : Below w.heap.size w (w.alloc (.cells (ccM c) 24)) := (Below.refl _ _).alloc (Nat.le_refl _) _
  have HG := Lib.hid (fun w => hg ▸ greatMem c hf w)
  have d1 : decide ((400 : Int) < (n : Int)) = false := by simp; omega
  have HFR := Lib.hid (fun w hr => from_ok c hf hk ⟨ad, n, cap⟩ L (by rw [hl]; exact hs) w hr)
  have HLN := Lib.hid hl
  have HS := Lib.hid hs
  have HR := Lib.hid hr
  have HAL := Lib.hid (refAll c hk)
  have HSP := Lib.hid (spots_len hk)
  have hbr := build_ref c
  clear hl hs hr
  go_enter Try.func8, Try.ntmps8
  go_wp2_with (refine wpList_load_row rfl 24 _ rfl w.heap.size rfl _ (ccM c) (0, 0) _ (by exact C0) Try.underlying24 rfl (by kernel_rfl) ?_)
  refine (HG.out _).mono ?_
  rintro e w1 ⟨rfl, hb1⟩
  have C1 := C0.keep hb1
  have hw1 := hw0.trans (hb1.mono hw0.size)
  clear C0 hw0 hb1 HG
  go_wp2_with (first | (refine wpList_load_row rfl 24 _ rfl w.heap.size rfl _ (ccM c) (0, 0) _ (by exact C1) Try.underlying24 rfl (by kernel_rfl) ?_))
  refine (HFR.out _ (HR.out.keep hw1)).mono ?_
  rintro e w2 ⟨g, gl, cp, rfl, M2, hb2⟩
  have C2 := C1.keep hb2
  have hw2 := hw1.trans (hb2.mono hw1.size)
  have hw1sz := hw1.size
  clear C1 hw1 hb2
  have hw20 := hw1sz
  have hL0 : L.length ≤ 1000 ∧ 0 < L.length := by
    have := HLN.out
    have q1 := hk.ww
    have q2 := hk.sl
    have q3 := hk.en
    have q4 := hk.bl
    have q5 := hk.wd
    have := mul_range (a := c.sl) (b := c.bl) (A := 8) (B := 16) (by omega) (by omega) (by omega) (by omega)
    have := mul_range (a := c.sl * c.bl) (b := 1 + c.wd) (A := 128) (B := 5) (by omega) (by omega) (by omega) (by omega)
    have h2 := HS.out
    rw [siz, if_pos (okB_of_ok hk)] at h2
    omega
  have HL0 := Lib.hid hL0
  clear hL0 hk
  have HR2 := Lib.hid (HR.out.keep (hw2.drew))
  have hS0 : Below w.heap.size w w2.drew := hw2.drew
  have HC2 := Lib.hid (C2.keep (Below.drew (Below.refl _ _)))
  have M3 := M2.keep (Below.drew (Below.refl w2.heap.size w2))
  have lc2 := C2.lt
  clear C2 M2 hw2
  go_wp2
  refine wp_region_held_drew (S := fun w' => Below w2.drew.heap.size w2.drew w') (by kernel_rfl) (Below.refl _ _) (fun hHeld => ?_)
  obtain ⟨v0, hv0⟩ : ∃ u, u = w2.drew := ⟨_, rfl⟩
  have lc3 : w.heap.size < v0.heap.size := by rw [hv0]; simpa using lc2
  rw [← hv0] at hHeld HR2 HC2 M3 hS0 ⊢
  clear hv0 lc2
  refine wpAnyH_take (i := 0) (oi := _) (v := .pointer (some ⟨g, 0, none⟩)) rfl (by kernel_rfl) (by kernel_rfl) (by kernel_rfl) (fun _ _ _ h => h) (Or.inl ⟨by rfl, fun w' hSw => by go_simp⟩) hHeld ?_
  try simp only [Act.put, List.getElem_toArray, List.getElem_cons_succ, List.getElem_cons_zero, List.setIfInBounds_toArray, List.set_cons_succ, List.set_cons_zero]
  refine wpAnyH_take (i := 1) (oi := _) (v := cv c) rfl (by kernel_rfl) (by kernel_rfl) (by kernel_rfl) (fun _ _ _ h => h) (Or.inl ⟨by rfl, fun w' hSw => by have xx := (HC2.out.keep hSw).cells; go_simp⟩) hHeld ?_
  try simp only [Act.put, List.getElem_toArray, List.getElem_cons_succ, List.getElem_cons_zero, List.setIfInBounds_toArray, List.set_cons_succ, List.set_cons_zero]
  refine wpAnyH_take (i := 2) (oi := _) (v := .slice ad n cap) rfl (by kernel_rfl) (by kernel_rfl) (by kernel_rfl) (fun _ _ _ h => h) (Or.inl ⟨by rfl, fun w' hSw => by go_simp⟩) hHeld ?_
  try simp only [Act.put, List.getElem_toArray, List.getElem_cons_succ, List.getElem_cons_zero, List.setIfInBounds_toArray, List.set_cons_succ, List.set_cons_zero]
  refine wpAnyH_take (i := 6) (oi := _) (v := .int .i64 0) rfl (by kernel_rfl) (by kernel_rfl) (by kernel_rfl) (fun _ _ _ h => h) (Or.inl ⟨by rfl, fun w' hSw => by go_simp⟩) hHeld ?_
  try simp only [Act.put, List.getElem_toArray, List.getElem_cons_succ, List.getElem_cons_zero, List.setIfInBounds_toArray, List.set_cons_succ, List.set_cons_zero]
  refine wpAnyH_take (i := 7) (oi := _) (v := .bool true) rfl (by kernel_rfl) (by kernel_rfl) (by kernel_rfl) (fun _ _ _ h => h) (Or.inl ⟨by rfl, fun w' hSw => by go_simp⟩) hHeld ?_
  try simp only [Act.put, List.getElem_toArray, List.getElem_cons_succ, List.getElem_cons_zero, List.setIfInBounds_toArray, List.set_cons_succ, List.set_cons_zero]
  refine wpAnyH_ready (rs := [3]) (by kernel_rfl) (by simp) ?_
  refine AllReadyH.cons (o := _) rfl (fun K hK => ?_) AllReadyH.nil
  go_simp
  obtain ⟨ads, hads⟩ : ∃ u : Sl, u = ⟨ad, n, cap⟩ := ⟨_, rfl⟩
  refine (copyWords (v := ⟨ad, n, cap⟩) HL0.out.1 HR2.out).mono ?_
  rintro e w4 ⟨y, rfl, hy, hb4⟩
  clear hads ads
  refine hK.out _ _ hb4 (fun hHeld => ?_)
  clear hK K
  obtain ⟨gl2, cp2, hyv, hgl0, hgl1, hc1, hc2, _⟩ := owns_cells hy HL0.out.2
  obtain ⟨ad', ln, cpp⟩ := y
  simp only [Value.slice.injEq] at hyv
  obtain ⟨rfl, rfl, rfl⟩ := hyv
  have M4 := M3.keep hb4
  have lt3 := M3.lt
  have hS4 : Below w.heap.size w w4 := hS0.trans (hb4.mono hS0.size)
  clear M3 hc1 hc2
  have s4 := hb4.size
  refine wpAnyH_take (i := 4) (oi := _) (v := .agg (rc c a0 ⟨some ⟨gl2, 0, none⟩, L.length, cpp⟩)) rfl (by kernel_rfl) (by kernel_rfl) (by kernel_rfl) (fun _ _ _ h => h) (Or.inl ⟨by rfl, fun w' hSw => by have hbr := build_ref c; go_simp; try exact ⟨rfl, rfl, rfl, rfl, rfl⟩⟩) hHeld ?_
  try simp only [Act.put, List.getElem_toArray, List.getElem_cons_succ, List.getElem_cons_zero, List.setIfInBounds_toArray, List.set_cons_succ, List.set_cons_zero]
  refine wpAnyH_take (i := 8) (oi := _) (v := .bool true) rfl (by kernel_rfl) (by kernel_rfl) (by kernel_rfl) (fun _ _ _ h => h) (Or.inl ⟨by rfl, fun w' hSw => by go_simp⟩) hHeld ?_
  try simp only [Act.put, List.getElem_toArray, List.getElem_cons_succ, List.getElem_cons_zero, List.setIfInBounds_toArray, List.set_cons_succ, List.set_cons_zero]
  refine wpAnyH_take (i := 9) (oi := _) (v := .pointer (some ⟨g, 0, none⟩)) rfl (by kernel_rfl) (by kernel_rfl) (by kernel_rfl) (fun _ _ _ h => h) (Or.inl ⟨by rfl, fun w' hSw => by go_simp⟩) hHeld ?_
  try simp only [Act.put, List.getElem_toArray, List.getElem_cons_succ, List.getElem_cons_zero, List.setIfInBounds_toArray, List.set_cons_succ, List.set_cons_zero]
  refine wpAnyH_take (i := 10) (oi := _) (v := .bool true) rfl (by kernel_rfl) (by kernel_rfl) (by kernel_rfl) (fun _ _ _ h => h) (Or.inl ⟨by rfl, fun w' hSw => by go_simp⟩) hHeld ?_
  try simp only [Act.put, List.getElem_toArray, List.getElem_cons_succ, List.getElem_cons_zero, List.setIfInBounds_toArray, List.set_cons_succ, List.set_cons_zero]
  refine wpAnyH_take (i := 11) (oi := _) (v := .bool true) rfl (by kernel_rfl) (by kernel_rfl) (by kernel_rfl) (fun _ _ _ h => h) (Or.inl ⟨by rfl, fun w' hSw => by go_simp⟩) hHeld ?_
  try simp only [Act.put, List.getElem_toArray, List.getElem_cons_succ, List.getElem_cons_zero, List.setIfInBounds_toArray, List.set_cons_succ, List.set_cons_zero]
  refine wpAnyH_take (i := 12) (oi := _) (v := .bool true) rfl (by kernel_rfl) (by kernel_rfl) (by kernel_rfl) (fun _ _ _ h => h) (Or.inl ⟨by rfl, fun w' hSw => by go_simp⟩) hHeld ?_
  try simp only [Act.put, List.getElem_toArray, List.getElem_cons_succ, List.getElem_cons_zero, List.setIfInBounds_toArray, List.set_cons_succ, List.set_cons_zero]
  refine wpAnyH_take (i := 13) (oi := _) (v := .slice ad n cap) rfl (by kernel_rfl) (by kernel_rfl) (by kernel_rfl) (fun _ _ _ h => h) (Or.inl ⟨by rfl, fun w' hSw => by go_simp⟩) hHeld ?_
  try simp only [Act.put, List.getElem_toArray, List.getElem_cons_succ, List.getElem_cons_zero, List.setIfInBounds_toArray, List.set_cons_succ, List.set_cons_zero]
  refine wpAnyH_take (i := 14) (oi := _) (v := .int .i64 (n : Int)) rfl (by kernel_rfl) (by kernel_rfl) (by kernel_rfl) (fun _ _ _ h => h) (Or.inl ⟨by rfl, fun w' hSw => by go_simp⟩) hHeld ?_
  try simp only [Act.put, List.getElem_toArray, List.getElem_cons_succ, List.getElem_cons_zero, List.setIfInBounds_toArray, List.set_cons_succ, List.set_cons_zero]
  refine wpAnyH_take (i := 15) (oi := _) (v := cv c) rfl (by kernel_rfl) (by kernel_rfl) (by kernel_rfl) (fun _ _ _ h => h) (Or.inl ⟨by rfl, fun w' hSw => by have xx := (HC2.out.keep hSw).cells; go_simp⟩) hHeld ?_
  try simp only [Act.put, List.getElem_toArray, List.getElem_cons_succ, List.getElem_cons_zero, List.setIfInBounds_toArray, List.set_cons_succ, List.set_cons_zero]
  refine wpAnyH_ready (rs := [5, 16]) (by kernel_rfl) (by simp) ?_
  refine AllReadyH.cons (o := _) rfl (fun K hK => ?_) (AllReadyH.cons (o := _) rfl (fun K hK => ?_) AllReadyH.nil)
  · go_simp
    have al : Below w4.heap.size w4 (w4.alloc (.cells (rc c a0 ⟨some ⟨gl2, 0, none⟩, L.length, cpp⟩) 84)) := (Below.refl _ _).alloc (Nat.le_refl _) _
    have R5 : RefMem w.heap.size (w4.alloc (.cells (rc c a0 ⟨some ⟨gl2, 0, none⟩, L.length, cpp⟩) 84)) w4.heap.size c a0 gl2 cpp L := ⟨Bk.new _ _ _, (owns_base hy hS0.size).alloc _, hS4.size, by omega⟩
    have B5 : Both2 w g gl cp w4.heap.size gl2 cpp c a0 L (w4.alloc (.cells (rc c a0 ⟨some ⟨gl2, 0, none⟩, L.length, cpp⟩) 84)) := ⟨(MemAt.base (M4.keep al) hw20), R5, by omega, by omega, by omega, by omega, hS4.trans (al.mono hS4.size)⟩
    refine hK.out _ _ (hHeld.trans (al.mono hHeld.size)) (fun hHeld => ?_)
    clear hK K R5 M4 hy
    generalize w4.alloc (.cells (rc c a0 ⟨some ⟨gl2, 0, none⟩, L.length, cpp⟩) 84) = w5 at *
    refine wpAnyH_ready (rs := [16]) (by kernel_rfl) (by simp) ?_
    refine AllReadyH.cons (o := _) rfl (fun K hK => ?_) AllReadyH.nil
    go_simp
    refine (HAL.out _).mono ?_
    rintro e w6 ⟨v, rfl, hv, hb5⟩
    obtain ⟨z, hz, hzl⟩ := owns_slI' hv
    subst hz
    have hzn : n = z.len := by have := HS.out; have := HSP.out; omega
    have e1 : ((n : Int) == (z.len : Int)) = true := by rw [← hzn]; simp
    have e2 : (n == z.len) = true := by rw [← hzn]; simp
    have s5 := hb5.size
    have B6 := B5.keep hb5
    refine hK.out _ _ (hHeld.trans (hb5.mono hHeld.size)) (fun hHeld => ?_)
    clear hK K hv hzl hzn
    refine wpAnyH_take (i := 17) (oi := _) (v := .int .i64 (z.len : Int)) rfl (by kernel_rfl) (by kernel_rfl) (by kernel_rfl) (fun _ _ _ h => h) (Or.inl ⟨by rfl, fun w' hSw => by go_simp⟩) hHeld ?_
    try simp only [Act.put, List.getElem_toArray, List.getElem_cons_succ, List.getElem_cons_zero, List.setIfInBounds_toArray, List.set_cons_succ, List.set_cons_zero]
    refine wpAnyH_take (i := 18) (oi := _) (v := .bool true) rfl (by kernel_rfl) (by kernel_rfl) (by kernel_rfl) (fun _ _ _ h => h) (Or.inl ⟨by rfl, fun w' hSw => by go_simp⟩) hHeld ?_
    try simp only [Act.put, List.getElem_toArray, List.getElem_cons_succ, List.getElem_cons_zero, List.setIfInBounds_toArray, List.set_cons_succ, List.set_cons_zero]
    refine wpAnyH_take (i := 19) (oi := _) (v := .bool true) rfl (by kernel_rfl) (by kernel_rfl) (by kernel_rfl) (fun _ _ _ h => h) (Or.inl ⟨by rfl, fun w' hSw => by go_simp⟩) hHeld ?_
    try simp only [Act.put, List.getElem_toArray, List.getElem_cons_succ, List.getElem_cons_zero, List.setIfInBounds_toArray, List.set_cons_succ, List.set_cons_zero]
    refine wpAnyH_take (i := 20) (oi := _) (v := .pointer (some ⟨g, 0, none⟩)) rfl (by kernel_rfl) (by kernel_rfl) (by kernel_rfl) (fun _ _ _ h => h) (Or.inl ⟨by rfl, fun w' hSw => by go_simp⟩) hHeld ?_
    try simp only [Act.put, List.getElem_toArray, List.getElem_cons_succ, List.getElem_cons_zero, List.setIfInBounds_toArray, List.set_cons_succ, List.set_cons_zero]
    refine wpAnyH_take (i := 21) (oi := _) (v := .pointer (some ⟨w4.heap.size, 0, none⟩)) rfl (by kernel_rfl) (by kernel_rfl) (by kernel_rfl) (fun _ _ _ h => h) (Or.inl ⟨by rfl, fun w' hSw => by go_simp⟩) hHeld ?_
    try simp only [Act.put, List.getElem_toArray, List.getElem_cons_succ, List.getElem_cons_zero, List.setIfInBounds_toArray, List.set_cons_succ, List.set_cons_zero]
    refine wpAnyH_take (i := 22) (oi := _) (v := .bool true) rfl (by kernel_rfl) (by kernel_rfl) (by kernel_rfl) (fun _ _ _ h => h) (Or.inl ⟨by rfl, fun w' hSw => by go_simp⟩) hHeld ?_
    try simp only [Act.put, List.getElem_toArray, List.getElem_cons_succ, List.getElem_cons_zero, List.setIfInBounds_toArray, List.set_cons_succ, List.set_cons_zero]
    refine wpAnyH_done (by kernel_rfl) ?_ _
    go_wp2
    go_ret3
    exact ⟨_, _, _, _, _, _, rfl, B6⟩
  · go_simp
    refine (HAL.out _).mono ?_
    rintro e w5 ⟨v, rfl, hv, hb5⟩
    obtain ⟨z, hz, hzl⟩ := owns_slI' hv
    subst hz
    have hzn : n = z.len := by have := HS.out; have := HSP.out; omega
    have e1 : ((n : Int) == (z.len : Int)) = true := by rw [← hzn]; simp
    have e2 : (n == z.len) = true := by rw [← hzn]; simp
    have s5 := hb5.size
    have M5 := M4.keep hb5
    have hS5 : Below w.heap.size w w5 := hS4.trans (hb5.mono hS4.size)
    refine hK.out _ _ (hHeld.trans (hb5.mono hHeld.size)) (fun hHeld => ?_)
    clear hK K hv hzl hzn
    refine wpAnyH_take (i := 17) (oi := _) (v := .int .i64 (z.len : Int)) rfl (by kernel_rfl) (by kernel_rfl) (by kernel_rfl) (fun _ _ _ h => h) (Or.inl ⟨by rfl, fun w' hSw => by go_simp⟩) hHeld ?_
    try simp only [Act.put, List.getElem_toArray, List.getElem_cons_succ, List.getElem_cons_zero, List.setIfInBounds_toArray, List.set_cons_succ, List.set_cons_zero]
    refine wpAnyH_take (i := 18) (oi := _) (v := .bool true) rfl (by kernel_rfl) (by kernel_rfl) (by kernel_rfl) (fun _ _ _ h => h) (Or.inl ⟨by rfl, fun w' hSw => by go_simp⟩) hHeld ?_
    try simp only [Act.put, List.getElem_toArray, List.getElem_cons_succ, List.getElem_cons_zero, List.setIfInBounds_toArray, List.set_cons_succ, List.set_cons_zero]
    refine wpAnyH_take (i := 19) (oi := _) (v := .bool true) rfl (by kernel_rfl) (by kernel_rfl) (by kernel_rfl) (fun _ _ _ h => h) (Or.inl ⟨by rfl, fun w' hSw => by go_simp⟩) hHeld ?_
    try simp only [Act.put, List.getElem_toArray, List.getElem_cons_succ, List.getElem_cons_zero, List.setIfInBounds_toArray, List.set_cons_succ, List.set_cons_zero]
    refine wpAnyH_take (i := 20) (oi := _) (v := .pointer (some ⟨g, 0, none⟩)) rfl (by kernel_rfl) (by kernel_rfl) (by kernel_rfl) (fun _ _ _ h => h) (Or.inl ⟨by rfl, fun w' hSw => by go_simp⟩) hHeld ?_
    try simp only [Act.put, List.getElem_toArray, List.getElem_cons_succ, List.getElem_cons_zero, List.setIfInBounds_toArray, List.set_cons_succ, List.set_cons_zero]
    refine wpAnyH_ready (rs := [5]) (by kernel_rfl) (by simp) ?_
    refine AllReadyH.cons (o := _) rfl (fun K hK => ?_) AllReadyH.nil
    go_simp
    have al : Below w5.heap.size w5 (w5.alloc (.cells (rc c a0 ⟨some ⟨gl2, 0, none⟩, L.length, cpp⟩) 84)) := (Below.refl _ _).alloc (Nat.le_refl _) _
    have R6 : RefMem w.heap.size (w5.alloc (.cells (rc c a0 ⟨some ⟨gl2, 0, none⟩, L.length, cpp⟩) 84)) w5.heap.size c a0 gl2 cpp L := ⟨Bk.new _ _ _, (owns_base (owns_below hy hb5 (fun k hk => by simp [Value.ownBlock] at hk; omega)) hS0.size).alloc _, hS5.size, by omega⟩
    have B6 : Both2 w g gl cp w5.heap.size gl2 cpp c a0 L (w5.alloc (.cells (rc c a0 ⟨some ⟨gl2, 0, none⟩, L.length, cpp⟩) 84)) := ⟨(MemAt.base (M5.keep al) hw20), R6, by omega, by omega, by omega, by omega, hS5.trans (al.mono hS5.size)⟩
    refine hK.out _ _ (hHeld.trans (al.mono hHeld.size)) (fun hHeld => ?_)
    clear hK K R6 M5 hy
    generalize w5.alloc (.cells (rc c a0 ⟨some ⟨gl2, 0, none⟩, L.length, cpp⟩) 84) = w6 at *
    refine wpAnyH_take (i := 21) (oi := _) (v := .pointer (some ⟨w5.heap.size, 0, none⟩)) rfl (by kernel_rfl) (by kernel_rfl) (by kernel_rfl) (fun _ _ _ h => h) (Or.inl ⟨by rfl, fun w' hSw => by go_simp⟩) hHeld ?_
    try simp only [Act.put, List.getElem_toArray, List.getElem_cons_succ, List.getElem_cons_zero, List.setIfInBounds_toArray, List.set_cons_succ, List.set_cons_zero]
    refine wpAnyH_take (i := 22) (oi := _) (v := .bool true) rfl (by kernel_rfl) (by kernel_rfl) (by kernel_rfl) (fun _ _ _ h => h) (Or.inl ⟨by rfl, fun w' hSw => by go_simp⟩) hHeld ?_
    try simp only [Act.put, List.getElem_toArray, List.getElem_cons_succ, List.getElem_cons_zero, List.setIfInBounds_toArray, List.set_cons_succ, List.set_cons_zero]
    refine wpAnyH_done (by kernel_rfl) ?_ _
    go_wp2
    go_ret3
    exact ⟨_, _, _, _, _, _, rfl, B6⟩
set_option maxRecDepth 10000 in
set_option maxHeartbeats 4000000 in
theorem both_bad (c : Cfg) (hf : c.Wf) (ad : Option Addr) (n cap : Nat) (hg : greatC c = false) (hn : n ≤ 400) (hk : chk c ≠ 0) (L : List Int) (hl : L.length = n) (w : World) (hr : Reads w .u64 (.slice ad n cap) L) : Calls Try.prog 8 #[cv c, .slice ad n cap] w (BothNo w) := by
  have C0 := Bk.new w (ccM c) 24
  have hw0 : Below w.heap.size w (w.alloc (.cells (ccM c) 24)) := (Below.refl _ _).alloc (Nat.le_refl _) _
  have HG := Lib.hid (fun w => hg ▸ greatMem c hf w)
  have d1 : decide ((400 : Int) < (n : Int)) = false := by simp; omega
  have HFR := Lib.hid (fun w => from_no c hf hk ⟨ad, n, cap⟩ w)
  have HLN := Lib.hid hl
  have HR := Lib.hid hr
  have k1 : (chk c == 0) = false := by simp [hk]
  have hg400 := Lib.hid hn
  clear hl hr hn
  go_enter Try.func8, Try.ntmps8
  go_wp2_with (refine wpList_load_row rfl 24 _ rfl w.heap.size rfl _ (ccM c) (0, 0) _ (by exact C0) Try.underlying24 rfl (by kernel_rfl) ?_)
  refine (HG.out _).mono ?_
  rintro e w1 ⟨rfl, hb1⟩
  have C1 := C0.keep hb1
  have hw1 := hw0.trans (hb1.mono hw0.size)
  clear C0 hw0 hb1 HG
  go_wp2_with (first | (refine wpList_load_row rfl 24 _ rfl w.heap.size rfl _ (ccM c) (0, 0) _ (by exact C1) Try.underlying24 rfl (by kernel_rfl) ?_))
  refine (HFR.out _).mono ?_
  rintro e w2 ⟨rfl, hb2⟩
  have C2 := C1.keep hb2
  have hw2 := hw1.trans (hb2.mono hw1.size)
  have HL0 := Lib.hid (show L.length ≤ 1000 by have := HLN.out; have h400 := hg400.out; omega)
  clear C1 hw1 hb2
  have HR2 := Lib.hid (HR.out.keep (hw2.drew))
  have hS0 : Below w.heap.size w w2.drew := hw2.drew
  have HC2 := Lib.hid (C2.keep (Below.drew (Below.refl _ _)))
  have lc2 := C2.lt
  clear C2 hw2
  go_wp2
  refine wp_region_held_drew (S := fun w' => Below w2.drew.heap.size w2.drew w') (by kernel_rfl) (Below.refl _ _) (fun hHeld => ?_)
  obtain ⟨v0, hv0⟩ : ∃ u, u = w2.drew := ⟨_, rfl⟩
  have lc3 : w.heap.size < v0.heap.size := by rw [hv0]; simpa using lc2
  rw [← hv0] at hHeld HR2 HC2 hS0 ⊢
  clear hv0 lc2
  refine wpAnyH_take (i := 0) (oi := _) (v := .pointer none) rfl (by kernel_rfl) (by kernel_rfl) (by kernel_rfl) (fun _ _ _ h => h) (Or.inl ⟨by rfl, fun w' hSw => by go_simp⟩) hHeld ?_
  try simp only [Act.put, List.getElem_toArray, List.getElem_cons_succ, List.getElem_cons_zero, List.setIfInBounds_toArray, List.set_cons_succ, List.set_cons_zero]
  refine wpAnyH_take (i := 1) (oi := _) (v := cv c) rfl (by kernel_rfl) (by kernel_rfl) (by kernel_rfl) (fun _ _ _ h => h) (Or.inl ⟨by rfl, fun w' hSw => by have xx := (HC2.out.keep hSw).cells; go_simp⟩) hHeld ?_
  try simp only [Act.put, List.getElem_toArray, List.getElem_cons_succ, List.getElem_cons_zero, List.setIfInBounds_toArray, List.set_cons_succ, List.set_cons_zero]
  refine wpAnyH_take (i := 2) (oi := _) (v := .slice ad n cap) rfl (by kernel_rfl) (by kernel_rfl) (by kernel_rfl) (fun _ _ _ h => h) (Or.inl ⟨by rfl, fun w' hSw => by go_simp⟩) hHeld ?_
  try simp only [Act.put, List.getElem_toArray, List.getElem_cons_succ, List.getElem_cons_zero, List.setIfInBounds_toArray, List.set_cons_succ, List.set_cons_zero]
  refine wpAnyH_take (i := 6) (oi := _) (v := .int .i64 (chk c)) rfl (by kernel_rfl) (by kernel_rfl) (by kernel_rfl) (fun _ _ _ h => h) (Or.inl ⟨by rfl, fun w' hSw => by go_simp⟩) hHeld ?_
  try simp only [Act.put, List.getElem_toArray, List.getElem_cons_succ, List.getElem_cons_zero, List.setIfInBounds_toArray, List.set_cons_succ, List.set_cons_zero]
  refine wpAnyH_take (i := 7) (oi := _) (v := .bool false) rfl (by kernel_rfl) (by kernel_rfl) (by kernel_rfl) (fun _ _ _ h => h) (Or.inl ⟨by rfl, fun w' hSw => by go_simp⟩) hHeld ?_
  try simp only [Act.put, List.getElem_toArray, List.getElem_cons_succ, List.getElem_cons_zero, List.setIfInBounds_toArray, List.set_cons_succ, List.set_cons_zero]
  refine wpAnyH_ready (rs := [3]) (by kernel_rfl) (by simp) ?_
  refine AllReadyH.cons (o := _) rfl (fun K hK => ?_) AllReadyH.nil
  go_simp
  refine (copyWords (v := ⟨ad, n, cap⟩) HL0.out HR2.out).mono ?_
  rintro e w4 ⟨y, rfl, hy, hb4⟩
  refine hK.out _ _ hb4 (fun hHeld => ?_)
  clear hK K hy
  have s4 := hb4.size
  refine wpAnyH_take (i := 4) (oi := _) (v := .agg (rc c a0 y)) rfl (by kernel_rfl) (by kernel_rfl) (by kernel_rfl) (fun _ _ _ h => h) (Or.inl ⟨by rfl, fun w' hSw => by have hbr := build_ref c; go_simp; try exact ⟨rfl, rfl, rfl, rfl, rfl⟩⟩) hHeld ?_
  try simp only [Act.put, List.getElem_toArray, List.getElem_cons_succ, List.getElem_cons_zero, List.setIfInBounds_toArray, List.set_cons_succ, List.set_cons_zero]
  refine wpAnyH_take (i := 8) (oi := _) (v := .bool false) rfl (by kernel_rfl) (by kernel_rfl) (by kernel_rfl) (fun _ _ _ h => h) (Or.inl ⟨by rfl, fun w' hSw => by go_simp⟩) hHeld ?_
  try simp only [Act.put, List.getElem_toArray, List.getElem_cons_succ, List.getElem_cons_zero, List.setIfInBounds_toArray, List.set_cons_succ, List.set_cons_zero]
  refine wpAnyH_take (i := 9) (oi := _) (v := undef) rfl (by kernel_rfl) (by kernel_rfl) (by kernel_rfl) (fun _ _ _ h => h) (Or.inr ⟨by rfl, rfl⟩) hHeld ?_
  try simp only [Act.put, List.getElem_toArray, List.getElem_cons_succ, List.getElem_cons_zero, List.setIfInBounds_toArray, List.set_cons_succ, List.set_cons_zero]
  refine wpAnyH_take (i := 10) (oi := _) (v := undef) rfl (by kernel_rfl) (by kernel_rfl) (by kernel_rfl) (fun _ _ _ h => h) (Or.inr ⟨by rfl, rfl⟩) hHeld ?_
  try simp only [Act.put, List.getElem_toArray, List.getElem_cons_succ, List.getElem_cons_zero, List.setIfInBounds_toArray, List.set_cons_succ, List.set_cons_zero]
  refine wpAnyH_take (i := 11) (oi := _) (v := .bool false) rfl (by kernel_rfl) (by kernel_rfl) (by kernel_rfl) (fun _ _ _ h => h) (Or.inl ⟨by rfl, fun w' hSw => by go_simp⟩) hHeld ?_
  try simp only [Act.put, List.getElem_toArray, List.getElem_cons_succ, List.getElem_cons_zero, List.setIfInBounds_toArray, List.set_cons_succ, List.set_cons_zero]
  refine wpAnyH_take (i := 12) (oi := _) (v := .bool false) rfl (by kernel_rfl) (by kernel_rfl) (by kernel_rfl) (fun _ _ _ h => h) (Or.inl ⟨by rfl, fun w' hSw => by go_simp⟩) hHeld ?_
  try simp only [Act.put, List.getElem_toArray, List.getElem_cons_succ, List.getElem_cons_zero, List.setIfInBounds_toArray, List.set_cons_succ, List.set_cons_zero]
  refine wpAnyH_take (i := 13) (oi := _) (v := undef) rfl (by kernel_rfl) (by kernel_rfl) (by kernel_rfl) (fun _ _ _ h => h) (Or.inr ⟨by rfl, rfl⟩) hHeld ?_
  try simp only [Act.put, List.getElem_toArray, List.getElem_cons_succ, List.getElem_cons_zero, List.setIfInBounds_toArray, List.set_cons_succ, List.set_cons_zero]
  refine wpAnyH_take (i := 14) (oi := _) (v := undef) rfl (by kernel_rfl) (by kernel_rfl) (by kernel_rfl) (fun _ _ _ h => h) (Or.inr ⟨by rfl, rfl⟩) hHeld ?_
  try simp only [Act.put, List.getElem_toArray, List.getElem_cons_succ, List.getElem_cons_zero, List.setIfInBounds_toArray, List.set_cons_succ, List.set_cons_zero]
  refine wpAnyH_take (i := 15) (oi := _) (v := undef) rfl (by kernel_rfl) (by kernel_rfl) (by kernel_rfl) (fun _ _ _ h => h) (Or.inr ⟨by rfl, rfl⟩) hHeld ?_
  try simp only [Act.put, List.getElem_toArray, List.getElem_cons_succ, List.getElem_cons_zero, List.setIfInBounds_toArray, List.set_cons_succ, List.set_cons_zero]
  refine wpAnyH_take (i := 16) (oi := _) (v := undef) rfl (by kernel_rfl) (by kernel_rfl) (by kernel_rfl) (fun _ _ _ h => h) (Or.inr ⟨by rfl, rfl⟩) hHeld ?_
  try simp only [Act.put, List.getElem_toArray, List.getElem_cons_succ, List.getElem_cons_zero, List.setIfInBounds_toArray, List.set_cons_succ, List.set_cons_zero]
  refine wpAnyH_take (i := 17) (oi := _) (v := undef) rfl (by kernel_rfl) (by kernel_rfl) (by kernel_rfl) (fun _ _ _ h => h) (Or.inr ⟨by rfl, rfl⟩) hHeld ?_
  try simp only [Act.put, List.getElem_toArray, List.getElem_cons_succ, List.getElem_cons_zero, List.setIfInBounds_toArray, List.set_cons_succ, List.set_cons_zero]
  refine wpAnyH_take (i := 18) (oi := _) (v := undef) rfl (by kernel_rfl) (by kernel_rfl) (by kernel_rfl) (fun _ _ _ h => h) (Or.inr ⟨by rfl, rfl⟩) hHeld ?_
  try simp only [Act.put, List.getElem_toArray, List.getElem_cons_succ, List.getElem_cons_zero, List.setIfInBounds_toArray, List.set_cons_succ, List.set_cons_zero]
  refine wpAnyH_take (i := 19) (oi := _) (v := .bool false) rfl (by kernel_rfl) (by kernel_rfl) (by kernel_rfl) (fun _ _ _ h => h) (Or.inl ⟨by rfl, fun w' hSw => by go_simp⟩) hHeld ?_
  try simp only [Act.put, List.getElem_toArray, List.getElem_cons_succ, List.getElem_cons_zero, List.setIfInBounds_toArray, List.set_cons_succ, List.set_cons_zero]
  refine wpAnyH_take (i := 20) (oi := _) (v := .pointer none) rfl (by kernel_rfl) (by kernel_rfl) (by kernel_rfl) (fun _ _ _ h => h) (Or.inl ⟨by rfl, fun w' hSw => by go_simp⟩) hHeld ?_
  try simp only [Act.put, List.getElem_toArray, List.getElem_cons_succ, List.getElem_cons_zero, List.setIfInBounds_toArray, List.set_cons_succ, List.set_cons_zero]
  refine wpAnyH_ready (rs := [5]) (by kernel_rfl) (by simp) ?_
  refine AllReadyH.cons (o := _) rfl (fun K hK => ?_) AllReadyH.nil
  go_simp
  have al : Below w4.heap.size w4 (w4.alloc (.cells (rc c a0 y) 84)) := (Below.refl _ _).alloc (Nat.le_refl _) _
  refine hK.out _ _ (hHeld.trans (al.mono hHeld.size)) (fun hHeld => ?_)
  clear hK K
  have hw5 : Below w.heap.size w (w4.alloc (.cells (rc c a0 y) 84)) := hS0.trans ((hb4.trans (al.mono hb4.size)).mono hS0.size)
  clear al
  refine wpAnyH_take (i := 21) (oi := _) (v := .pointer (some ⟨w4.heap.size, 0, none⟩)) rfl (by kernel_rfl) (by kernel_rfl) (by kernel_rfl) (fun _ _ _ h => h) (Or.inl ⟨by rfl, fun w' hSw => by go_simp⟩) hHeld ?_
  try simp only [Act.put, List.getElem_toArray, List.getElem_cons_succ, List.getElem_cons_zero, List.setIfInBounds_toArray, List.set_cons_succ, List.set_cons_zero]
  refine wpAnyH_take (i := 22) (oi := _) (v := .bool false) rfl (by kernel_rfl) (by kernel_rfl) (by kernel_rfl) (fun _ _ _ h => h) (Or.inl ⟨by rfl, fun w' hSw => by go_simp⟩) hHeld ?_
  try simp only [Act.put, List.getElem_toArray, List.getElem_cons_succ, List.getElem_cons_zero, List.setIfInBounds_toArray, List.set_cons_succ, List.set_cons_zero]
  refine wpAnyH_done (by kernel_rfl) ?_ _
  go_wp2
  go_ret3
  exact ⟨⟨_, _, rfl⟩, hw5⟩
set_option maxRecDepth 10000 in
set_option maxHeartbeats 4000000 in
theorem both_form (c : Cfg) (hf : c.Wf) (ad : Option Addr) (n cap : Nat) (hg : greatC c = false) (hn : n ≤ 400) (hk : Ok c) (hs : (n : Int) ≠ siz c) (L : List Int) (hl : L.length = n) (w : World) (hr : Reads w .u64 (.slice ad n cap) L) : Calls Try.prog 8 #[cv c, .slice ad n cap] w (BothNo w) := by
  have C0 := Bk.new w (ccM c) 24
  have hw0 : Below w.heap.size w (w.alloc (.cells (ccM c) 24)) := (Below.refl _ _).alloc (Nat.le_refl _) _
  have HG := Lib.hid (fun w => hg ▸ greatMem c hf w)
  have d1 : decide ((400 : Int) < (n : Int)) = false := by simp; omega
  have HFR := Lib.hid (fun w => from_form c hf hk ⟨ad, n, cap⟩ hs w)
  have HLN := Lib.hid hl
  have HR := Lib.hid hr
  have hg400 := Lib.hid hn
  clear hl hr hn
  go_enter Try.func8, Try.ntmps8
  go_wp2_with (refine wpList_load_row rfl 24 _ rfl w.heap.size rfl _ (ccM c) (0, 0) _ (by exact C0) Try.underlying24 rfl (by kernel_rfl) ?_)
  refine (HG.out _).mono ?_
  rintro e w1 ⟨rfl, hb1⟩
  have C1 := C0.keep hb1
  have hw1 := hw0.trans (hb1.mono hw0.size)
  clear C0 hw0 hb1 HG
  go_wp2_with (first | (refine wpList_load_row rfl 24 _ rfl w.heap.size rfl _ (ccM c) (0, 0) _ (by exact C1) Try.underlying24 rfl (by kernel_rfl) ?_))
  refine (HFR.out _).mono ?_
  rintro e w2 ⟨rfl, hb2⟩
  have C2 := C1.keep hb2
  have hw2 := hw1.trans (hb2.mono hw1.size)
  have HL0 := Lib.hid (show L.length ≤ 1000 by have := HLN.out; have h400 := hg400.out; omega)
  clear C1 hw1 hb2
  have HR2 := Lib.hid (HR.out.keep (hw2.drew))
  have hS0 : Below w.heap.size w w2.drew := hw2.drew
  have HC2 := Lib.hid (C2.keep (Below.drew (Below.refl _ _)))
  have lc2 := C2.lt
  clear C2 hw2
  go_wp2
  refine wp_region_held_drew (S := fun w' => Below w2.drew.heap.size w2.drew w') (by kernel_rfl) (Below.refl _ _) (fun hHeld => ?_)
  obtain ⟨v0, hv0⟩ : ∃ u, u = w2.drew := ⟨_, rfl⟩
  have lc3 : w.heap.size < v0.heap.size := by rw [hv0]; simpa using lc2
  rw [← hv0] at hHeld HR2 HC2 hS0 ⊢
  clear hv0 lc2
  refine wpAnyH_take (i := 0) (oi := _) (v := .pointer none) rfl (by kernel_rfl) (by kernel_rfl) (by kernel_rfl) (fun _ _ _ h => h) (Or.inl ⟨by rfl, fun w' hSw => by go_simp⟩) hHeld ?_
  try simp only [Act.put, List.getElem_toArray, List.getElem_cons_succ, List.getElem_cons_zero, List.setIfInBounds_toArray, List.set_cons_succ, List.set_cons_zero]
  refine wpAnyH_take (i := 1) (oi := _) (v := cv c) rfl (by kernel_rfl) (by kernel_rfl) (by kernel_rfl) (fun _ _ _ h => h) (Or.inl ⟨by rfl, fun w' hSw => by have xx := (HC2.out.keep hSw).cells; go_simp⟩) hHeld ?_
  try simp only [Act.put, List.getElem_toArray, List.getElem_cons_succ, List.getElem_cons_zero, List.setIfInBounds_toArray, List.set_cons_succ, List.set_cons_zero]
  refine wpAnyH_take (i := 2) (oi := _) (v := .slice ad n cap) rfl (by kernel_rfl) (by kernel_rfl) (by kernel_rfl) (fun _ _ _ h => h) (Or.inl ⟨by rfl, fun w' hSw => by go_simp⟩) hHeld ?_
  try simp only [Act.put, List.getElem_toArray, List.getElem_cons_succ, List.getElem_cons_zero, List.setIfInBounds_toArray, List.set_cons_succ, List.set_cons_zero]
  refine wpAnyH_take (i := 6) (oi := _) (v := .int .i64 3) rfl (by kernel_rfl) (by kernel_rfl) (by kernel_rfl) (fun _ _ _ h => h) (Or.inl ⟨by rfl, fun w' hSw => by go_simp⟩) hHeld ?_
  try simp only [Act.put, List.getElem_toArray, List.getElem_cons_succ, List.getElem_cons_zero, List.setIfInBounds_toArray, List.set_cons_succ, List.set_cons_zero]
  refine wpAnyH_take (i := 7) (oi := _) (v := .bool false) rfl (by kernel_rfl) (by kernel_rfl) (by kernel_rfl) (fun _ _ _ h => h) (Or.inl ⟨by rfl, fun w' hSw => by go_simp⟩) hHeld ?_
  try simp only [Act.put, List.getElem_toArray, List.getElem_cons_succ, List.getElem_cons_zero, List.setIfInBounds_toArray, List.set_cons_succ, List.set_cons_zero]
  refine wpAnyH_ready (rs := [3]) (by kernel_rfl) (by simp) ?_
  refine AllReadyH.cons (o := _) rfl (fun K hK => ?_) AllReadyH.nil
  go_simp
  refine (copyWords (v := ⟨ad, n, cap⟩) HL0.out HR2.out).mono ?_
  rintro e w4 ⟨y, rfl, hy, hb4⟩
  refine hK.out _ _ hb4 (fun hHeld => ?_)
  clear hK K hy
  have s4 := hb4.size
  refine wpAnyH_take (i := 4) (oi := _) (v := .agg (rc c a0 y)) rfl (by kernel_rfl) (by kernel_rfl) (by kernel_rfl) (fun _ _ _ h => h) (Or.inl ⟨by rfl, fun w' hSw => by have hbr := build_ref c; go_simp; try exact ⟨rfl, rfl, rfl, rfl, rfl⟩⟩) hHeld ?_
  try simp only [Act.put, List.getElem_toArray, List.getElem_cons_succ, List.getElem_cons_zero, List.setIfInBounds_toArray, List.set_cons_succ, List.set_cons_zero]
  refine wpAnyH_take (i := 8) (oi := _) (v := .bool false) rfl (by kernel_rfl) (by kernel_rfl) (by kernel_rfl) (fun _ _ _ h => h) (Or.inl ⟨by rfl, fun w' hSw => by go_simp⟩) hHeld ?_
  try simp only [Act.put, List.getElem_toArray, List.getElem_cons_succ, List.getElem_cons_zero, List.setIfInBounds_toArray, List.set_cons_succ, List.set_cons_zero]
  refine wpAnyH_take (i := 9) (oi := _) (v := undef) rfl (by kernel_rfl) (by kernel_rfl) (by kernel_rfl) (fun _ _ _ h => h) (Or.inr ⟨by rfl, rfl⟩) hHeld ?_
  try simp only [Act.put, List.getElem_toArray, List.getElem_cons_succ, List.getElem_cons_zero, List.setIfInBounds_toArray, List.set_cons_succ, List.set_cons_zero]
  refine wpAnyH_take (i := 10) (oi := _) (v := undef) rfl (by kernel_rfl) (by kernel_rfl) (by kernel_rfl) (fun _ _ _ h => h) (Or.inr ⟨by rfl, rfl⟩) hHeld ?_
  try simp only [Act.put, List.getElem_toArray, List.getElem_cons_succ, List.getElem_cons_zero, List.setIfInBounds_toArray, List.set_cons_succ, List.set_cons_zero]
  refine wpAnyH_take (i := 11) (oi := _) (v := .bool false) rfl (by kernel_rfl) (by kernel_rfl) (by kernel_rfl) (fun _ _ _ h => h) (Or.inl ⟨by rfl, fun w' hSw => by go_simp⟩) hHeld ?_
  try simp only [Act.put, List.getElem_toArray, List.getElem_cons_succ, List.getElem_cons_zero, List.setIfInBounds_toArray, List.set_cons_succ, List.set_cons_zero]
  refine wpAnyH_take (i := 12) (oi := _) (v := .bool false) rfl (by kernel_rfl) (by kernel_rfl) (by kernel_rfl) (fun _ _ _ h => h) (Or.inl ⟨by rfl, fun w' hSw => by go_simp⟩) hHeld ?_
  try simp only [Act.put, List.getElem_toArray, List.getElem_cons_succ, List.getElem_cons_zero, List.setIfInBounds_toArray, List.set_cons_succ, List.set_cons_zero]
  refine wpAnyH_take (i := 13) (oi := _) (v := undef) rfl (by kernel_rfl) (by kernel_rfl) (by kernel_rfl) (fun _ _ _ h => h) (Or.inr ⟨by rfl, rfl⟩) hHeld ?_
  try simp only [Act.put, List.getElem_toArray, List.getElem_cons_succ, List.getElem_cons_zero, List.setIfInBounds_toArray, List.set_cons_succ, List.set_cons_zero]
  refine wpAnyH_take (i := 14) (oi := _) (v := undef) rfl (by kernel_rfl) (by kernel_rfl) (by kernel_rfl) (fun _ _ _ h => h) (Or.inr ⟨by rfl, rfl⟩) hHeld ?_
  try simp only [Act.put, List.getElem_toArray, List.getElem_cons_succ, List.getElem_cons_zero, List.setIfInBounds_toArray, List.set_cons_succ, List.set_cons_zero]
  refine wpAnyH_take (i := 15) (oi := _) (v := undef) rfl (by kernel_rfl) (by kernel_rfl) (by kernel_rfl) (fun _ _ _ h => h) (Or.inr ⟨by rfl, rfl⟩) hHeld ?_
  try simp only [Act.put, List.getElem_toArray, List.getElem_cons_succ, List.getElem_cons_zero, List.setIfInBounds_toArray, List.set_cons_succ, List.set_cons_zero]
  refine wpAnyH_take (i := 16) (oi := _) (v := undef) rfl (by kernel_rfl) (by kernel_rfl) (by kernel_rfl) (fun _ _ _ h => h) (Or.inr ⟨by rfl, rfl⟩) hHeld ?_
  try simp only [Act.put, List.getElem_toArray, List.getElem_cons_succ, List.getElem_cons_zero, List.setIfInBounds_toArray, List.set_cons_succ, List.set_cons_zero]
  refine wpAnyH_take (i := 17) (oi := _) (v := undef) rfl (by kernel_rfl) (by kernel_rfl) (by kernel_rfl) (fun _ _ _ h => h) (Or.inr ⟨by rfl, rfl⟩) hHeld ?_
  try simp only [Act.put, List.getElem_toArray, List.getElem_cons_succ, List.getElem_cons_zero, List.setIfInBounds_toArray, List.set_cons_succ, List.set_cons_zero]
  refine wpAnyH_take (i := 18) (oi := _) (v := undef) rfl (by kernel_rfl) (by kernel_rfl) (by kernel_rfl) (fun _ _ _ h => h) (Or.inr ⟨by rfl, rfl⟩) hHeld ?_
  try simp only [Act.put, List.getElem_toArray, List.getElem_cons_succ, List.getElem_cons_zero, List.setIfInBounds_toArray, List.set_cons_succ, List.set_cons_zero]
  refine wpAnyH_take (i := 19) (oi := _) (v := .bool false) rfl (by kernel_rfl) (by kernel_rfl) (by kernel_rfl) (fun _ _ _ h => h) (Or.inl ⟨by rfl, fun w' hSw => by go_simp⟩) hHeld ?_
  try simp only [Act.put, List.getElem_toArray, List.getElem_cons_succ, List.getElem_cons_zero, List.setIfInBounds_toArray, List.set_cons_succ, List.set_cons_zero]
  refine wpAnyH_take (i := 20) (oi := _) (v := .pointer none) rfl (by kernel_rfl) (by kernel_rfl) (by kernel_rfl) (fun _ _ _ h => h) (Or.inl ⟨by rfl, fun w' hSw => by go_simp⟩) hHeld ?_
  try simp only [Act.put, List.getElem_toArray, List.getElem_cons_succ, List.getElem_cons_zero, List.setIfInBounds_toArray, List.set_cons_succ, List.set_cons_zero]
  refine wpAnyH_ready (rs := [5]) (by kernel_rfl) (by simp) ?_
  refine AllReadyH.cons (o := _) rfl (fun K hK => ?_) AllReadyH.nil
  go_simp
  have al : Below w4.heap.size w4 (w4.alloc (.cells (rc c a0 y) 84)) := (Below.refl _ _).alloc (Nat.le_refl _) _
  refine hK.out _ _ (hHeld.trans (al.mono hHeld.size)) (fun hHeld => ?_)
  clear hK K
  have hw5 : Below w.heap.size w (w4.alloc (.cells (rc c a0 y) 84)) := hS0.trans ((hb4.trans (al.mono hb4.size)).mono hS0.size)
  clear al
  refine wpAnyH_take (i := 21) (oi := _) (v := .pointer (some ⟨w4.heap.size, 0, none⟩)) rfl (by kernel_rfl) (by kernel_rfl) (by kernel_rfl) (fun _ _ _ h => h) (Or.inl ⟨by rfl, fun w' hSw => by go_simp⟩) hHeld ?_
  try simp only [Act.put, List.getElem_toArray, List.getElem_cons_succ, List.getElem_cons_zero, List.setIfInBounds_toArray, List.set_cons_succ, List.set_cons_zero]
  refine wpAnyH_take (i := 22) (oi := _) (v := .bool false) rfl (by kernel_rfl) (by kernel_rfl) (by kernel_rfl) (fun _ _ _ h => h) (Or.inl ⟨by rfl, fun w' hSw => by go_simp⟩) hHeld ?_
  try simp only [Act.put, List.getElem_toArray, List.getElem_cons_succ, List.getElem_cons_zero, List.setIfInBounds_toArray, List.set_cons_succ, List.set_cons_zero]
  refine wpAnyH_done (by kernel_rfl) ?_ _
  go_wp2
  go_ret3
  exact ⟨⟨_, _, rfl⟩, hw5⟩
end Go.Proofs.Ytgpdkagmacpghaa.Me

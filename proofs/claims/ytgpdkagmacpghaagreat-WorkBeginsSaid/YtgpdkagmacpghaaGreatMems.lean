/- Package memory: the record, slices.Clone, From, New. -/
import Derived.Test.YtgpdkagmacpghaaGreatApp
import Derived.Test.YtgpdkagmacpghaaGreatFirsts
import Derived.Test.YtgpdkagmacpghaaGreatRows2
import Derived.Deep.WholeRow
import Derived.Deep.RegionHeld3
import Derived.Lib.SliceRun
import Derived.RegionTactic
import Derived.Test.YtgpdkagmacpghaaGreatGrowTail
import Derived.BigRegion
namespace Go.Proofs.YtgpdkagmacpghaaGreat.Me
open Go Go.RowKit Go.Proofs.YtgpdkagmacpghaaGreat.Gro Go.Proofs.YtgpdkagmacpghaaGreat.Own Go.Proofs.YtgpdkagmacpghaaGreat.Wd Go.Proofs.YtgpdkagmacpghaaGreat.Ap Go.Proofs.YtgpdkagmacpghaaGreat.Pl
set_option linter.unusedVariables false
set_option linter.unusedSimpArgs false

structure Acc where
  (kd at_ x y old : Int)
  deriving DecidableEq
def a0 : Acc := ⟨0, 0, 0, 0, 0⟩
abbrev av (a : Acc) : Value := .agg #[.int .i64 a.kd, .int .i64 a.at_, .int .u64 a.x, .int .u64 a.y, .int .u64 a.old]
abbrev mc (c : Cfg) (a : Acc) (v : Sl) : Array Value := #[.int .i64 c.ww, .int .i64 c.sl, .int .i64 c.bl, .int .i64 c.wd, .int .i64 c.en, .int .i64 c.rk, .int .i64 c.bg, .int .u64 c.la, .int .i64 a.kd, .int .i64 a.at_, .int .u64 a.x, .int .u64 a.y, .int .u64 a.old, .slice v.ad v.len v.cap]
theorem elemW : Elem Tryz.prog 31 22 1 8 := elem44
/-- slices.Clone of words. -/
theorem clone_none (n cap : Nat) (w : World) : Calls Tryz.prog 55 #[.slice none n cap] w fun e w' => e = .returned (.slice none 0 0) ∧ Below w.heap.size w w' := by
  have hq := fun w => Lib.run_eql_slice_nil (P := Tryz.prog) w 31 22 none n cap 0 0 Tryz.underlying31
  go_enter Tryz.func55, Tryz.ntmps55
  go_wp2
  go_ret
  exact ⟨rfl, Below.refl _ _⟩
theorem clone_some (a : Addr) (n cap : Nat) (L : List Int) (hL : L.length ≤ 1000) (w : World) (hr : Reads w .u64 (.slice (some a) n cap) L) : Calls Tryz.prog 55 #[.slice (some a) n cap] w fun e w' => ∃ y : Sl, e = .returned y.v ∧ w'.ownsRow w.heap.size 22 1 y.v L.length (L.map (.int .u64)) ∧ Below w.heap.size w w' := by
  have hq := fun w => Lib.run_eql_slice_nil (P := Tryz.prog) w 31 22 (some a) n cap 0 0 Tryz.underlying31
  have ho : (w.alloc (.cells #[] 22)).ownsRow w.heap.size 22 1 (.slice (some ⟨w.heap.size, 0, none⟩) 0 0) 0 (([] : List Int).map (Value.int .u64)) := World.ownsRow_lit w #[] 0 (Nat.le_refl _) (by unfold maxLen; omega) rfl
  have hr2 := hr.keep ((Below.refl w.heap.size w).alloc (Nat.le_refl _) (.cells #[] 22))
  go_enter Tryz.func55, Tryz.ntmps55
  go_wp2_with (at_builtin; refine append_any elemW rfl _ _ rfl w.heap.size _ 0 [] rfl ho _ L rfl hr2 (by omega) (by simp) ?_; intro y w3 h3 hb3)
  go_ret
  refine ⟨y, rfl, ?_, ((Below.refl w.heap.size w).alloc (Nat.le_refl _) _).trans hb3⟩
  simpa using h3
theorem clone {v : Sl} {L : List Int} (hL : L.length ≤ 1000) {w : World} (hr : Reads w .u64 v.v L) : Calls Tryz.prog 55 #[v.v] w fun e w' => ∃ y : Sl, e = .returned y.v ∧ w'.ownsRow w.heap.size 22 1 y.v L.length (L.map (.int .u64)) ∧ Below w.heap.size w w' := by
  obtain ⟨ad, n, cap⟩ := v
  cases ad with
  | none =>
    have hl : L = [] := by
      obtain ⟨ad, cap, he, _, _, h3⟩ := hr
      simp only [Value.slice.injEq] at he
      rcases h3 with h3 | ⟨b, off, rfl, _⟩
      · exact h3
      · exact absurd he.1 (by simp)
    subst hl
    exact (clone_none n cap w).mono fun e w' ⟨h1, h2⟩ => ⟨nilS, h1, World.ownsRow_nil _ _ _ _, h2⟩
  | some a => exact clone_some a n cap L hL w hr
/-- A memory: its record's block, its words' block. -/
structure MemAt (base : Nat) (w : World) (g : Nat) (c : Cfg) (a : Acc) (gl cap : Nat) (L : List Int) : Prop where
  B : Bk w g (mc c a ⟨some ⟨gl, 0, none⟩, L.length, cap⟩) 130
  W : w.ownsRow base 22 1 (.slice (some ⟨gl, 0, none⟩) L.length cap) L.length (L.map (.int .u64))
  g0 : base ≤ g
  ne : g ≠ gl
theorem info58 : (Tryz.prog.info? 130).map (·.size) = some 14 := by kernel_rfl
theorem build_mem (c : Cfg) (v : Sl) (w : World) : (Instr.build 130 #[(0, cv c), (2, v.v)]).run Tryz.prog w = .ok (.agg (mc c a0 v)) w := run_build w _ _ _ (by kernel_rfl)
theorem from_no (c : Cfg) (hf : c.Wf) (h : chk c ≠ 0) (v : Sl) (w : World) : Calls Tryz.prog 74 #[cv c, v.v] w fun e w' => e = .returned (.tuple #[.pointer none, .int .i64 (chk c)]) ∧ Below w.heap.size w w' := by
  have hn : nc c = ⟨0, 0, 0, 0, 0, 0, 0, 0⟩ := by rw [nc, if_neg h]
  have hp := newPlan c hf
  rw [hn] at hp
  have HP := Lib.hid hp
  have hv1 : (chk c != 0) = true := by simp [h]
  clear hp hn h
  go_enter Tryz.func74, Tryz.ntmps74
  go_wp2_with (go_at_call 98; refine (HP.out _).mono ?_; rintro e w1 ⟨rfl, hb1⟩)
  go_ret2
  exact ⟨rfl, (((Below.refl _ _).alloc (Nat.le_refl _) _).trans (hb1.mono (by simp))).alloc (by have := hb1.size; simp at this; omega) _⟩
theorem box8 {c : Cfg} {w : World} {g : Nat} {t : TypeId} (h : Bk w g #[.int .i64 c.ww, .int .i64 c.sl, .int .i64 c.bl, .int .i64 c.wd, .int .i64 c.en, .int .i64 c.rk, .int .i64 c.bg, .int .u64 c.la] t) : w.cell? ⟨g, 0, none⟩ = some (.int .i64 c.ww) ∧ w.cell? ⟨g, 1, none⟩ = some (.int .i64 c.sl) ∧ w.cell? ⟨g, 2, none⟩ = some (.int .i64 c.bl) ∧ w.cell? ⟨g, 3, none⟩ = some (.int .i64 c.wd) ∧ w.cell? ⟨g, 4, none⟩ = some (.int .i64 c.en) ∧ w.cell? ⟨g, 5, none⟩ = some (.int .i64 c.rk) ∧ w.cell? ⟨g, 6, none⟩ = some (.int .i64 c.bg) ∧ w.cell? ⟨g, 7, none⟩ = some (.int .u64 c.la) :=
  ⟨h.cells 0, h.cells 1, h.cells 2, h.cells 3, h.cells 4, h.cells 5, h.cells 6, h.cells 7⟩
abbrev ccM (c : Cfg) : Array Value := #[.int .i64 c.ww, .int .i64 c.sl, .int .i64 c.bl, .int .i64 c.wd, .int .i64 c.en, .int .i64 c.rk, .int .i64 c.bg, .int .u64 c.la]
theorem from_form (c : Cfg) (hf : c.Wf) (h : Ok c) (v : Sl) (hl : (v.len : Int) ≠ siz c) (w : World) : Calls Tryz.prog 74 #[cv c, v.v] w fun e w' => e = .returned (.tuple #[.pointer none, .int .i64 3]) ∧ Below w.heap.size w w' := by
  have hv := chk_ok.2 h
  have hn : nc c = c := by rw [nc, if_pos hv]
  have hp := newPlan c hf
  rw [hn, hv] at hp
  have HP := Lib.hid hp
  have HS := Lib.hid (size c hf)
  have hne : ((v.len : Int) != siz c) = true := by simp [hl]
  clear hp hn hv hl
  go_enter Tryz.func74, Tryz.ntmps74
  go_wp2_with fail
  refine (HP.out _).mono ?_
  rintro e w1 ⟨rfl, hb1⟩
  have P1 := Bk.new w1 (ccM c) 128
  have x1 := P1.cells
  have hw1 : Below w.heap.size w w1 := ((Below.refl _ _).alloc (Nat.le_refl _) _).trans (hb1.mono (by simp))
  have hw2 := hw1.alloc hw1.size (.cells (ccM c) 128)
  go_wp2_with fail
  refine (HS.out _).mono ?_
  rintro e w2 ⟨rfl, hb2⟩
  go_wp2
  go_ret2
  exact ⟨rfl, hw2.trans (hb2.mono hw2.size)⟩
theorem from_ok (c : Cfg) (hf : c.Wf) (h : Ok c) (v : Sl) (L : List Int) (hl : (L.length : Int) = siz c) (w : World) (hr : Reads w .u64 v.v L) : Calls Tryz.prog 74 #[cv c, v.v] w fun e w' => ∃ g gl cap, e = .returned (.tuple #[.pointer (some ⟨g, 0, none⟩), .int .i64 0]) ∧ MemAt w.heap.size w' g c a0 gl cap L ∧ Below w.heap.size w w' := by
  have hv := chk_ok.2 h
  have hn : nc c = c := by rw [nc, if_pos hv]
  have hp := newPlan c hf
  rw [hn, hv] at hp
  have HP := Lib.hid hp
  have HS := Lib.hid (size c hf)
  have hlen := reads_len hr
  have hne : ((v.len : Int) != siz c) = false := by rw [hlen, hl]; simp
  have hbm := build_mem c
  have hmax : L.length ≤ 1000 ∧ 0 < L.length := by
    have h2 := tot_ok (okB_of_ok h)
    have h3 := h.ww
    have h4 := h.sl
    have h5 := h.wd
    have h6 := h.en
    rw [siz, if_pos (okB_of_ok h)] at hl
    have := mul_range (a := c.sl * c.bl) (b := 1 + c.wd) (A := 128) (B := 5) h2.2.1 h2.2.2 (by omega) (by omega)
    omega
  have HM := Lib.hid hmax
  clear hp hn hv hl hlen hmax
  go_enter Tryz.func74, Tryz.ntmps74
  go_wp2_with fail
  refine (HP.out _).mono ?_
  rintro e w1 ⟨rfl, hb1⟩
  have hw1 : Below w.heap.size w w1 := ((Below.refl _ _).alloc (Nat.le_refl _) _).trans (hb1.mono (by simp))
  have hw2 := hw1.alloc hw1.size (.cells (ccM c) 128)
  have P1 := Bk.new w1 (ccM c) 128
  have x1 := P1.cells
  go_wp2_with fail
  refine (HS.out _).mono ?_
  rintro e w2 ⟨rfl, hb2⟩
  have P2 := P1.keep hb2
  have x2 := P2.cells
  have l2 := P2.lt
  have hw3 := hw2.trans (hb2.mono hw2.size)
  clear x1 P1
  go_wp2
  have hr2 := hr.keep hw3
  go_region_held3 (fun w' => w'.cell? ⟨w1.heap.size, 0, none⟩ = some (.int .i64 c.ww) ∧ w'.cell? ⟨w1.heap.size, 1, none⟩ = some (.int .i64 c.sl) ∧ w'.cell? ⟨w1.heap.size, 2, none⟩ = some (.int .i64 c.bl) ∧ w'.cell? ⟨w1.heap.size, 3, none⟩ = some (.int .i64 c.wd) ∧ w'.cell? ⟨w1.heap.size, 4, none⟩ = some (.int .i64 c.en) ∧ w'.cell? ⟨w1.heap.size, 5, none⟩ = some (.int .i64 c.rk) ∧ w'.cell? ⟨w1.heap.size, 6, none⟩ = some (.int .i64 c.bg) ∧ w'.cell? ⟨w1.heap.size, 7, none⟩ = some (.int .u64 c.la)) (first | exact box8 (w := w2.drew) P2 | exact box8 P5 | exact box8 (P5.alloc _)) ((go_at_call 55; refine (clone HM.out.1 (w := w2.drew) hr2).mono ?_; rintro e w5 ⟨y, rfl, hy, hb5⟩; have P5 := Bk.keep (w := w2.drew) P2 hb5))
  go_wp2
  obtain ⟨gl, cap, hyv, hgl0, hgl1, hc1, hc2, _⟩ := owns_cells hy HM.out.2
  obtain ⟨ad, ln, cp⟩ := y
  simp only [Value.slice.injEq] at hyv
  obtain ⟨rfl, rfl, rfl⟩ := hyv
  go_ret2
  have hw5 : Below w.heap.size w w5 := (Below.drew hw3).trans (hb5.mono hw3.size)
  refine ⟨w5.heap.size, gl, cp, rfl, ⟨Bk.new w5 (mc c a0 ⟨some ⟨gl, 0, none⟩, L.length, cp⟩) _, ?_, hw5.size, by omega⟩, hw5.alloc hw5.size _⟩
  exact (owns_base hy hw3.size).alloc _
theorem firstL_len {c : Cfg} (h : Ok c) : ((firstL c).length : Int) = siz c := by
  rw [firstL, if_pos (chk_ok.2 h), first_len]; exact spots_len h
abbrev S8 (c : Cfg) (g : Nat) (w' : World) : Prop := w'.cell? ⟨g, 0, none⟩ = some (.int .i64 c.ww) ∧ w'.cell? ⟨g, 1, none⟩ = some (.int .i64 c.sl) ∧ w'.cell? ⟨g, 2, none⟩ = some (.int .i64 c.bl) ∧ w'.cell? ⟨g, 3, none⟩ = some (.int .i64 c.wd) ∧ w'.cell? ⟨g, 4, none⟩ = some (.int .i64 c.en) ∧ w'.cell? ⟨g, 5, none⟩ = some (.int .i64 c.rk) ∧ w'.cell? ⟨g, 6, none⟩ = some (.int .i64 c.bg) ∧ w'.cell? ⟨g, 7, none⟩ = some (.int .u64 c.la)
theorem firstSl (c : Cfg) (hf : c.Wf) (w : World) : Calls Tryz.prog 75 #[cv c] w fun e w' => ∃ v : Sl, e = .returned v.v ∧ Reads w' .u64 v.v (firstL c) ∧ Below w.heap.size w w' :=
  (planFirst c hf w).mono fun e w' ⟨v, h1, h2, h3⟩ => by
    have h2' := h2
    obtain ⟨ad, cap, rfl, _⟩ := h2
    exact ⟨⟨ad, _, cap⟩, h1, h2', h3⟩
theorem newMem_ok (c : Cfg) (hf : c.Wf) (h : Ok c) (w : World) : Calls Tryz.prog 38 #[cv c] w fun e w' => ∃ g gl cap, e = .returned (.tuple #[.pointer (some ⟨g, 0, none⟩), .int .i64 0]) ∧ MemAt w.heap.size w' g c a0 gl cap (firstL c) ∧ Below w.heap.size w w' := by
  have C0 := Bk.new w (ccM c) 24
  have hw0 : Below w.heap.size w (w.alloc (.cells (ccM c) 24)) := (Below.refl _ _).alloc (Nat.le_refl _) _
  have hfm := fun (v : Sl) (w : World) hr => from_ok c hf h v (firstL c) (firstL_len h) w hr
  have HF := Lib.hid hfm
  clear hfm
  go_enter Tryz.func38, Tryz.ntmps38
  go_wp2
  generalize hw : w.alloc (.cells (ccM c) 24) = wa at *
  have HW := Lib.hid hw
  clear hw
  go_region_held3 (fun w' => w'.cell? ⟨w.heap.size, 0, none⟩ = some (.int .i64 c.ww) ∧ w'.cell? ⟨w.heap.size, 1, none⟩ = some (.int .i64 c.sl) ∧ w'.cell? ⟨w.heap.size, 2, none⟩ = some (.int .i64 c.bl) ∧ w'.cell? ⟨w.heap.size, 3, none⟩ = some (.int .i64 c.wd) ∧ w'.cell? ⟨w.heap.size, 4, none⟩ = some (.int .i64 c.en) ∧ w'.cell? ⟨w.heap.size, 5, none⟩ = some (.int .i64 c.rk) ∧ w'.cell? ⟨w.heap.size, 6, none⟩ = some (.int .i64 c.bg) ∧ w'.cell? ⟨w.heap.size, 7, none⟩ = some (.int .u64 c.la)) (first | exact box8 (w := wa.drew) C0 | exact box8 C6 | exact box8 C5) (first | (go_at_call 75; refine (firstSl c hf _).mono ?_; rintro e w5 ⟨v, rfl, R5, hb5⟩; have C5 := Bk.keep (w := wa.drew) C0 hb5; have hw5 := (Below.drew hw0).trans (hb5.mono hw0.size)) | (go_at_call 74; refine (HF.out v _ R5).mono ?_; rintro e w6 ⟨g, gl, cap, rfl, M6, hb6⟩; have C6 := C5.keep hb6; have hw6 := hw5.trans (hb6.mono hw5.size)))
  go_wp2
  go_ret2
  refine ⟨g, gl, cap, rfl, ⟨M6.B, owns_base M6.W hw5.size, Nat.le_trans hw5.size M6.g0, M6.ne⟩, hw6⟩
theorem newMem_no (c : Cfg) (hf : c.Wf) (h : chk c ≠ 0) (w : World) : Calls Tryz.prog 38 #[cv c] w fun e w' => e = .returned (.tuple #[.pointer none, .int .i64 (chk c)]) ∧ Below w.heap.size w w' := by
  have C0 := Bk.new w (ccM c) 24
  have hw0 : Below w.heap.size w (w.alloc (.cells (ccM c) 24)) := (Below.refl _ _).alloc (Nat.le_refl _) _
  go_enter Tryz.func38, Tryz.ntmps38
  go_wp2
  generalize hw : w.alloc (.cells (ccM c) 24) = wa at *
  have HW := Lib.hid hw
  clear hw
  go_region_held3 (fun w' => w'.cell? ⟨w.heap.size, 0, none⟩ = some (.int .i64 c.ww) ∧ w'.cell? ⟨w.heap.size, 1, none⟩ = some (.int .i64 c.sl) ∧ w'.cell? ⟨w.heap.size, 2, none⟩ = some (.int .i64 c.bl) ∧ w'.cell? ⟨w.heap.size, 3, none⟩ = some (.int .i64 c.wd) ∧ w'.cell? ⟨w.heap.size, 4, none⟩ = some (.int .i64 c.en) ∧ w'.cell? ⟨w.heap.size, 5, none⟩ = some (.int .i64 c.rk) ∧ w'.cell? ⟨w.heap.size, 6, none⟩ = some (.int .i64 c.bg) ∧ w'.cell? ⟨w.heap.size, 7, none⟩ = some (.int .u64 c.la)) (first | exact box8 (w := wa.drew) C0 | exact box8 C6 | exact box8 C5) (first | (go_at_call 75; refine (firstSl c hf _).mono ?_; rintro e w5 ⟨v, rfl, R5, hb5⟩; have C5 := Bk.keep (w := wa.drew) C0 hb5; have hw5 := (Below.drew hw0).trans (hb5.mono hw0.size)) | (go_at_call 74; refine (from_no c hf h v _).mono ?_; rintro e w6 ⟨rfl, hb6⟩; have C6 := C5.keep hb6; have hw6 := hw5.trans (hb6.mono hw5.size)))
  go_wp2
  go_ret2
  exact ⟨rfl, hw6⟩
end Go.Proofs.YtgpdkagmacpghaaGreat.Me

/- The operations of a memory, on none and on one. -/
namespace Go.Proofs.YtgpdkagmacpghaaGreat.Me
open Go Go.RowKit Go.Proofs.YtgpdkagmacpghaaGreat.Gro Go.Proofs.YtgpdkagmacpghaaGreat.Own Go.Proofs.YtgpdkagmacpghaaGreat.Wd Go.Proofs.YtgpdkagmacpghaaGreat.Ap Go.Proofs.YtgpdkagmacpghaaGreat.Pl
set_option linter.unusedVariables false
set_option linter.unusedSimpArgs false

/-- All but two blocks are as they were. -/
structure Touch (g gl : Nat) (w w' : World) : Prop where
  os : w'.os = w.os
  tape : w'.tape = w.tape
  output : w'.output = w.output
  size : w.heap.size ≤ w'.heap.size
  block : ∀ k, k < w.heap.size → k ≠ g → k ≠ gl → w'.heap[k]? = w.heap[k]?
section
variable {g gl base : Nat} {w w1 w2 w' : World}
theorem Touch.refl (g gl : Nat) (w : World) : Touch g gl w w := ⟨rfl, rfl, rfl, Nat.le_refl _, fun _ _ _ _ => rfl⟩
theorem Touch.trans (h : Touch g gl w w1) (k : Touch g gl w1 w2) : Touch g gl w w2 :=
  ⟨k.os.trans h.os, k.tape.trans h.tape, k.output.trans h.output, Nat.le_trans h.size k.size, fun j hj h1 h2 => (k.block j (Nat.lt_of_lt_of_le hj h.size) h1 h2).trans (h.block j hj h1 h2)⟩
theorem Touch.of_below (h : Below w.heap.size w w') : Touch g gl w w' := ⟨h.os, h.tape, h.output, h.size, fun k hk _ _ => h.block k hk⟩
theorem Touch.below (h : Touch g gl w w') (hg : base ≤ g) (hl : base ≤ gl) (hb : base ≤ w.heap.size) : Below base w w' := ⟨h.os, h.tape, h.output, h.size, fun k hk => h.block k (by omega) (by omega) (by omega)⟩
theorem Touch.setCell (h : Touch g gl w w1) {p : Addr} (hp : p.block = g ∨ p.block = gl ∨ w.heap.size ≤ p.block) (v : Value) : Touch g gl w (w1.setCell p v) :=
  ⟨h.os, h.tape, h.output, by simpa using h.size, fun k hk h1 h2 => (heap_setCell_other w1 p k v (by omega)).trans (h.block k hk h1 h2)⟩
theorem Touch.alloc (h : Touch g gl w w1) (o : Obj) : Touch g gl w (w1.alloc o) :=
  ⟨h.os, h.tape, h.output, by have := h.size; simp; omega, fun k hk h1 h2 => (Below.heap_alloc w1 o k (Nat.lt_of_lt_of_le hk h.size)).trans (h.block k hk h1 h2)⟩
theorem Touch.drew (h : Touch g gl w w1) : Touch g gl w w1.drew := ⟨h.os, h.tape, h.output, h.size, h.block⟩
theorem Touch.bk (h : Touch g gl w w') {b : Nat} {cs : Array Value} {t : TypeId} (hb : Bk w b cs t) (h1 : b ≠ g) (h2 : b ≠ gl) : Bk w' b cs t := (h.block b hb.lt h1 h2).trans hb
end
theorem own_setCell_ne {w : World} {base n cap gl : Nat} {e : TypeId} {xs : List Value} (h : w.ownsRow base e 1 (.slice (some ⟨gl, 0, none⟩) n cap) n xs) {p : Addr} (hp : p.block ≠ gl) (v : Value) : (w.setCell p v).ownsRow base e 1 (.slice (some ⟨gl, 0, none⟩) n cap) n xs := by
  refine ⟨h.1, ?_⟩
  rcases h.2 with ⟨he, _⟩ | ⟨g', cap', cur, he, hge, hh, rest⟩
  · cases he
  · have e1 : gl = g' := (by simpa using he : gl = g' ∧ cap = cap').1
    subst e1
    exact .inr ⟨gl, cap', cur, he, hge, (heap_setCell_other w p gl v (Ne.symm hp)).trans hh, rest⟩
section
variable {base : Nat} {w w' : World} {g gl cap : Nat} {c : Cfg} {a : Acc} {L : List Int}
theorem MemAt.at (M : MemAt base w g c a gl cap L) {i : Nat} (hi : i < L.length) : w.cell? ⟨gl, i, none⟩ = some (.int .u64 L[i]) := by
  rw [World.ownsRow.cellAt M.W i (by simpa using hi)]; simp [hi]
theorem MemAt.lt (M : MemAt base w g c a gl cap L) : g < w.heap.size ∧ gl < w.heap.size := ⟨M.B.lt, (World.ownsRow.lt M.W gl rfl).2⟩
theorem MemAt.gl0 (M : MemAt base w g c a gl cap L) : base ≤ gl := (World.ownsRow.lt M.W gl rfl).1
theorem MemAt.keep (M : MemAt base w g c a gl cap L) (hb : Below w.heap.size w w') : MemAt base w' g c a gl cap L :=
  ⟨M.B.keep hb, owns_below M.W hb (fun k hk => by simp [Value.ownBlock] at hk; have := M.lt.2; omega), M.g0, M.ne⟩
/-- Another memory's changes. -/
theorem MemAt.apart (M : MemAt base w g c a gl cap L) {g' gl' : Nat} (h : Touch g' gl' w w') (h1 : g ≠ g') (h2 : g ≠ gl') (h3 : gl ≠ g') (h4 : gl ≠ gl') : MemAt base w' g c a gl cap L := by
  refine ⟨h.bk M.B h1 h2, ⟨M.W.1, ?_⟩, M.g0, M.ne⟩
  rcases M.W.2 with ⟨he, _⟩ | ⟨g1, cap', cur, he, hge, hh, rest⟩
  · cases he
  · have e1 : gl = g1 := (by simpa using he : gl = g1 ∧ cap = cap').1
    subst e1
    exact .inr ⟨gl, cap', cur, he, hge, (h.block gl M.lt.2 h3 h4).trans hh, rest⟩
/-- A word is stored. -/
theorem MemAt.write (M : MemAt base w g c a gl cap L) (i : Nat) (v : Int) : MemAt base (w.setCell ⟨gl, i, none⟩ (.int .u64 v)) g c a gl cap (L.set i v) := by
  have h := World.ownsRow.stored M.W i (.int .u64 v)
  refine ⟨?_, ?_, M.g0, M.ne⟩
  · rw [List.length_set]
    exact M.B.setCell_far (a := ⟨gl, i, none⟩) M.ne _
  · rw [List.length_set, List.map_set]
    exact h.1
end
theorem has_nil (at_ : Int) (w : World) : Calls Tryz.prog 223 #[.pointer none, .int .i64 at_] w fun e w' => e = .returned (.bool false) ∧ w = w' := by
  go_enter Tryz.func223, Tryz.ntmps223
  go_wp2
  go_ret
  exact ⟨rfl, rfl⟩
theorem clear_nil (w : World) : Calls Tryz.prog 224 #[.pointer none] w fun e w' => e = .returned (.tuple #[]) ∧ w = w' := by
  go_enter Tryz.func224, Tryz.ntmps224
  go_wp2
  go_end0
  exact ⟨rfl, rfl⟩
theorem record_nil (r : Acc) (w : World) : Calls Tryz.prog 207 #[.pointer none, av r] w fun e w' => e = .returned (.tuple #[.int .u64 0, .bool false]) ∧ Below w.heap.size w w' := by
  go_enter Tryz.func207, Tryz.ntmps207
  go_wp2_with (first | (go_at_call 223; refine (has_nil _ _).mono ?_; rintro e w1 ⟨rfl, rfl⟩) | (go_at_call 224; refine (clear_nil _).mono ?_; rintro e w1 ⟨rfl, rfl⟩))
  go_ret2
  exact ⟨rfl, (Below.refl _ _).alloc (Nat.le_refl _) _⟩
theorem build_load (at_ : Int) (w : World) : (Instr.build 62 #[(0, .int .i64 1), (1, .int .i64 at_)]).run Tryz.prog w = .ok (av ⟨1, at_, 0, 0, 0⟩) w := run_build w _ _ _ (by kernel_rfl)
theorem load_nil (at_ : Int) (w : World) : Calls Tryz.prog 173 #[.pointer none, .int .i64 at_] w fun e w' => e = .returned (.int .u64 0) ∧ Below w.heap.size w w' := by
  have hb := build_load at_
  go_enter Tryz.func173, Tryz.ntmps173
  go_wp2_with (go_at_call 207; refine (record_nil ⟨1, at_, 0, 0, 0⟩ _).mono ?_; rintro e w1 ⟨rfl, hb1⟩)
  go_ret
  exact ⟨rfl, hb1⟩
theorem build_cas (at_ x y : Int) (w : World) : (Instr.build 62 #[(0, .int .i64 3), (1, .int .i64 at_), (2, .int .u64 x), (3, .int .u64 y)]).run Tryz.prog w = .ok (av ⟨3, at_, x, y, 0⟩) w := run_build w _ _ _ (by kernel_rfl)
theorem cas_nil (at_ x y : Int) (w : World) : Calls Tryz.prog 178 #[.pointer none, .int .i64 at_, .int .u64 x, .int .u64 y] w fun e w' => e = .returned (.bool false) ∧ Below w.heap.size w w' := by
  have hb := build_cas at_ x y
  go_enter Tryz.func178, Tryz.ntmps178
  go_wp2_with (go_at_call 207; refine (record_nil ⟨3, at_, x, y, 0⟩ _).mono ?_; rintro e w1 ⟨rfl, hb1⟩)
  go_ret
  exact ⟨rfl, hb1⟩
theorem build_add (at_ x : Int) (w : World) : (Instr.build 62 #[(0, .int .i64 4), (1, .int .i64 at_), (2, .int .u64 x)]).run Tryz.prog w = .ok (av ⟨4, at_, x, 0, 0⟩) w := run_build w _ _ _ (by kernel_rfl)
theorem add_nil (at_ x : Int) (w : World) : Calls Tryz.prog 211 #[.pointer none, .int .i64 at_, .int .u64 x] w fun e w' => e = .returned (.int .u64 0) ∧ Below w.heap.size w w' := by
  have hb := build_add at_ x
  go_enter Tryz.func211, Tryz.ntmps211
  go_wp2_with (go_at_call 207; refine (record_nil ⟨4, at_, x, 0, 0⟩ _).mono ?_; rintro e w1 ⟨rfl, hb1⟩)
  go_ret
  exact ⟨rfl, hb1⟩
theorem build_store (at_ x : Int) (w : World) : (Instr.build 62 #[(0, .int .i64 2), (1, .int .i64 at_), (2, .int .u64 x)]).run Tryz.prog w = .ok (av ⟨2, at_, x, 0, 0⟩) w := run_build w _ _ _ (by kernel_rfl)
theorem store_nil (at_ x : Int) (w : World) : Calls Tryz.prog 170 #[.pointer none, .int .i64 at_, .int .u64 x] w fun e w' => e = .returned (.tuple #[]) ∧ Below w.heap.size w w' := by
  have hb := build_store at_ x
  go_enter Tryz.func170, Tryz.ntmps170
  go_wp2_with (go_at_call 207; refine (record_nil ⟨2, at_, x, 0, 0⟩ _).mono ?_; rintro e w1 ⟨rfl, hb1⟩)
  go_end0
  exact ⟨rfl, hb1⟩
theorem all_nil (w : World) : Calls Tryz.prog 56 #[.pointer none] w fun e w' => e = .returned (.slice none 0 0) ∧ w = w' := by
  go_enter Tryz.func56, Tryz.ntmps56
  go_wp2
  go_ret
  exact ⟨rfl, rfl⟩
end Go.Proofs.YtgpdkagmacpghaaGreat.Me

/- The operations of a memory that is there. -/
namespace Go.Proofs.YtgpdkagmacpghaaGreat.Me
open Go Go.RowKit Go.Proofs.YtgpdkagmacpghaaGreat.Gro Go.Proofs.YtgpdkagmacpghaaGreat.Own Go.Proofs.YtgpdkagmacpghaaGreat.Wd Go.Proofs.YtgpdkagmacpghaaGreat.Ap Go.Proofs.YtgpdkagmacpghaaGreat.Pl
set_option linter.unusedVariables false
set_option linter.unusedSimpArgs false

section
variable {base : Nat} {w : World} {g gl cap : Nat} {c : Cfg} {a : Acc} {L : List Int}
theorem has_in (M : MemAt base w g c a gl cap L) (i : Nat) (hi : i < L.length) (hm : L.length ≤ 1000) : Calls Tryz.prog 223 #[.pointer (some ⟨g, 0, none⟩), .int .i64 (i : Int)] w fun e w' => e = .returned (.bool true) ∧ w = w' := by
  have x := M.B.cells
  have h0 : (0 : Int) ≤ (i : Int) := by omega
  have h1 : (i : Int) < (L.length : Int) := by omega
  go_enter Tryz.func223, Tryz.ntmps223
  go_wp2
  go_ret
  exact ⟨rfl, rfl⟩
theorem has_out (M : MemAt base w g c a gl cap L) (i : Int) (hi : ¬ (0 ≤ i ∧ i < (L.length : Int))) (hm : L.length ≤ 1000) : Calls Tryz.prog 223 #[.pointer (some ⟨g, 0, none⟩), .int .i64 i] w fun e w' => e = .returned (.bool false) ∧ w = w' := by
  have x := M.B.cells
  by_cases h0 : 0 ≤ i
  · have h1 : decide (i < (L.length : Int)) = false := by simp; omega
    go_enter Tryz.func223, Tryz.ntmps223
    go_wp2
    go_ret
    exact ⟨rfl, rfl⟩
  · have h1 : decide (0 ≤ i) = false := by simp; omega
    go_enter Tryz.func223, Tryz.ntmps223
    go_wp2
    go_ret
    exact ⟨rfl, rfl⟩
/-- The last access is written. -/
theorem MemAt.seen (M : MemAt base w g c a gl cap L) (r : Acc) : MemAt base (((((w.setCell ⟨g, 8, none⟩ (.int .i64 r.kd)).setCell ⟨g, 9, none⟩ (.int .i64 r.at_)).setCell ⟨g, 10, none⟩ (.int .u64 r.x)).setCell ⟨g, 11, none⟩ (.int .u64 r.y)).setCell ⟨g, 12, none⟩ (.int .u64 r.old)) g c r gl cap L ∧
    Touch g gl w (((((w.setCell ⟨g, 8, none⟩ (.int .i64 r.kd)).setCell ⟨g, 9, none⟩ (.int .i64 r.at_)).setCell ⟨g, 10, none⟩ (.int .u64 r.x)).setCell ⟨g, 11, none⟩ (.int .u64 r.y)).setCell ⟨g, 12, none⟩ (.int .u64 r.old)) := by
  refine ⟨⟨?_, ?_, M.g0, M.ne⟩, ?_⟩
  · exact ((((M.B.setCell 8 (.int .i64 r.kd)).setCell 9 (.int .i64 r.at_)).setCell 10 (.int .u64 r.x)).setCell 11 (.int .u64 r.y)).setCell 12 (.int .u64 r.old)
  · have hne : (⟨g, 8, none⟩ : Addr).block ≠ gl := M.ne
    exact own_setCell_ne (own_setCell_ne (own_setCell_ne (own_setCell_ne (own_setCell_ne M.W (p := ⟨g, 8, none⟩) M.ne _) (p := ⟨g, 9, none⟩) M.ne _) (p := ⟨g, 10, none⟩) M.ne _) (p := ⟨g, 11, none⟩) M.ne _) (p := ⟨g, 12, none⟩) M.ne _
  · exact (((((Touch.refl g gl w).setCell (p := ⟨g, 8, none⟩) (.inl rfl) _).setCell (p := ⟨g, 9, none⟩) (.inl rfl) _).setCell (p := ⟨g, 10, none⟩) (.inl rfl) _).setCell (p := ⟨g, 11, none⟩) (.inl rfl) _).setCell (p := ⟨g, 12, none⟩) (.inl rfl) _
theorem clear_in (M : MemAt base w g c a gl cap L) : Calls Tryz.prog 224 #[.pointer (some ⟨g, 0, none⟩)] w fun e w' => e = .returned (.tuple #[]) ∧ MemAt base w' g c a0 gl cap L ∧ Touch g gl w w' := by
  have x := M.B.cells
  have z := M.B.frozen
  have hM := M.seen a0
  have hs := M.lt.1
  go_enter Tryz.func224, Tryz.ntmps224
  go_wp2
  go_end0
  exact ⟨rfl, hM⟩
theorem record_in (M : MemAt base w g c a gl cap L) (i : Nat) (hi : i < L.length) (hm : L.length ≤ 1000) (kd xx yy : Int) : Calls Tryz.prog 207 #[.pointer (some ⟨g, 0, none⟩), av ⟨kd, i, xx, yy, 0⟩] w fun e w' => e = .returned (.tuple #[.int .u64 L[i], .bool true]) ∧ MemAt base w' g c ⟨kd, i, xx, yy, L[i]⟩ gl cap L ∧ Touch g gl w w' := by
  have hb0 : Below w.heap.size w (w.alloc (.cells #[.int .i64 kd, .int .i64 i, .int .u64 xx, .int .u64 yy, .int .u64 0] 62)) := (Below.refl _ _).alloc (Nat.le_refl _) _
  have M1 := M.keep hb0
  have h0 : (0 : Int) ≤ (i : Int) := by omega
  have h1 : (i : Int) < (L.length : Int) := by omega
  have x := M1.B.cells
  have z := M1.B.frozen
  have q := M1.at hi
  have hs := M.lt.1
  have hs2 := M.lt.2
  go_enter Tryz.func207, Tryz.ntmps207
  go_wp2_with (go_at_call 223; refine (has_in M1 i hi hm).mono ?_; rintro e w1 ⟨rfl, rfl⟩)
  have hb1 : Below w.heap.size w (w.alloc (.cells #[.int .i64 kd, .int .i64 i, .int .u64 xx, .int .u64 yy, .int .u64 L[i]] 62)).drew := ((Below.refl _ _).alloc (Nat.le_refl _) _).drew
  have M2 := M.keep hb1
  have T1 := Touch.of_below (g := g) (gl := gl) hb1
  go_region
  all_goals
    have QB : Bk (w.alloc (.cells #[.int .i64 kd, .int .i64 i, .int .u64 xx, .int .u64 yy, .int .u64 L[i]] 62)).drew w.heap.size #[.int .i64 kd, .int .i64 i, .int .u64 xx, .int .u64 yy, .int .u64 L[i]] 62 := Bk.new _ _ _
    generalize (w.alloc (.cells #[.int .i64 kd, .int .i64 i, .int .u64 xx, .int .u64 yy, .int .u64 L[i]] 62)).drew = w2 at *
    have hgb : g ≠ w.heap.size := by omega
    generalize w.heap.size = gb at *
    have x2 := M2.B.cells
    have z2 := M2.B.frozen
    have q2 := QB.cells
    clear x z q M1 hb0
    go_wp2
    go_ret2
    have h := M2.seen ⟨kd, i, xx, yy, L[i]⟩
    exact ⟨rfl, h.1, T1.trans h.2⟩
theorem load_in (M : MemAt base w g c a gl cap L) (i : Nat) (hi : i < L.length) (hm : L.length ≤ 1000) : Calls Tryz.prog 173 #[.pointer (some ⟨g, 0, none⟩), .int .i64 (i : Int)] w fun e w' => e = .returned (.int .u64 L[i]) ∧ MemAt base w' g c ⟨1, i, 0, 0, L[i]⟩ gl cap L ∧ Touch g gl w w' := by
  have hb := build_load (i : Int)
  go_enter Tryz.func173, Tryz.ntmps173
  go_wp2_with fail
  refine (record_in M i hi hm 1 0 0).mono ?_
  rintro e w1 ⟨rfl, M1, t1⟩
  go_wp2
  go_ret
  exact ⟨rfl, M1, t1⟩
theorem store_in (M : MemAt base w g c a gl cap L) (i : Nat) (hi : i < L.length) (hm : L.length ≤ 1000) (v : Int) : Calls Tryz.prog 170 #[.pointer (some ⟨g, 0, none⟩), .int .i64 (i : Int), .int .u64 v] w fun e w' => e = .returned (.tuple #[]) ∧ MemAt base w' g c ⟨2, i, v, 0, L[i]⟩ gl cap (L.set i v) ∧ Touch g gl w w' := by
  have hb := build_store (i : Int) v
  go_enter Tryz.func170, Tryz.ntmps170
  go_wp2_with fail
  refine (record_in M i hi hm 2 v 0).mono ?_
  rintro e w1 ⟨rfl, M1, t1⟩
  have x1 := M1.B.cells
  have q1 := M1.at hi
  have fz := World.ownsRow.frozenAt M1.W
  have h0 : (0 : Int) ≤ (i : Int) := by omega
  have h1 : (i : Int) < (L.length : Int) := by omega
  go_wp2
  go_end0
  exact ⟨rfl, M1.write i v, t1.setCell (p := ⟨gl, i, none⟩) (.inr (.inl rfl)) _⟩
theorem cas_yes (M : MemAt base w g c a gl cap L) (i : Nat) (hi : i < L.length) (hm : L.length ≤ 1000) (y : Int) : Calls Tryz.prog 178 #[.pointer (some ⟨g, 0, none⟩), .int .i64 (i : Int), .int .u64 L[i], .int .u64 y] w fun e w' => e = .returned (.bool true) ∧ MemAt base w' g c ⟨3, i, L[i], y, L[i]⟩ gl cap (L.set i y) ∧ Touch g gl w w' := by
  have hb := build_cas (i : Int) L[i] y
  go_enter Tryz.func178, Tryz.ntmps178
  go_wp2_with fail
  refine (record_in M i hi hm 3 L[i] y).mono ?_
  rintro e w1 ⟨rfl, M1, t1⟩
  have x1 := M1.B.cells
  have q1 := M1.at hi
  have fz := World.ownsRow.frozenAt M1.W
  have h0 : (0 : Int) ≤ (i : Int) := by omega
  have h1 : (i : Int) < (L.length : Int) := by omega
  go_wp2
  go_ret
  exact ⟨rfl, M1.write i y, t1.setCell (p := ⟨gl, i, none⟩) (.inr (.inl rfl)) _⟩
theorem cas_no (M : MemAt base w g c a gl cap L) (i : Nat) (hi : i < L.length) (hm : L.length ≤ 1000) (x y : Int) (hx : L[i] ≠ x) : Calls Tryz.prog 178 #[.pointer (some ⟨g, 0, none⟩), .int .i64 (i : Int), .int .u64 x, .int .u64 y] w fun e w' => e = .returned (.bool false) ∧ MemAt base w' g c ⟨3, i, x, y, L[i]⟩ gl cap L ∧ Touch g gl w w' := by
  have hb := build_cas (i : Int) x y
  have hne : (L[i] != x) = true := by simp [hx]
  clear hx
  go_enter Tryz.func178, Tryz.ntmps178
  go_wp2_with fail
  refine (record_in M i hi hm 3 x y).mono ?_
  rintro e w1 ⟨rfl, M1, t1⟩
  go_wp2
  go_ret
  exact ⟨rfl, M1, t1⟩
theorem add_in (M : MemAt base w g c a gl cap L) (i : Nat) (hi : i < L.length) (hm : L.length ≤ 1000) (v : Int) : Calls Tryz.prog 211 #[.pointer (some ⟨g, 0, none⟩), .int .i64 (i : Int), .int .u64 v] w fun e w' => e = .returned (.int .u64 L[i]) ∧ MemAt base w' g c ⟨4, i, v, 0, L[i]⟩ gl cap (L.set i (IntKind.u64.wrap (L[i] + v))) ∧ Touch g gl w w' := by
  have hb := build_add (i : Int) v
  go_enter Tryz.func211, Tryz.ntmps211
  go_wp2_with fail
  refine (record_in M i hi hm 4 v 0).mono ?_
  rintro e w1 ⟨rfl, M1, t1⟩
  have x1 := M1.B.cells
  have q1 := M1.at hi
  have fz := World.ownsRow.frozenAt M1.W
  have h0 : (0 : Int) ≤ (i : Int) := by omega
  have h1 : (i : Int) < (L.length : Int) := by omega
  go_wp2
  go_ret
  exact ⟨rfl, M1.write i _, t1.setCell (p := ⟨gl, i, none⟩) (.inr (.inl rfl)) _⟩
theorem record_out (M : MemAt base w g c a gl cap L) (i : Int) (hi : ¬ (0 ≤ i ∧ i < (L.length : Int))) (hm : L.length ≤ 1000) (kd x y : Int) : Calls Tryz.prog 207 #[.pointer (some ⟨g, 0, none⟩), av ⟨kd, i, x, y, 0⟩] w fun e w' => e = .returned (.tuple #[.int .u64 0, .bool false]) ∧ MemAt base w' g c a0 gl cap L ∧ Touch g gl w w' := by
  have hb0 : Below w.heap.size w (w.alloc (.cells #[.int .i64 kd, .int .i64 i, .int .u64 x, .int .u64 y, .int .u64 0] 62)) := (Below.refl _ _).alloc (Nat.le_refl _) _
  have M1 := M.keep hb0
  go_enter Tryz.func207, Tryz.ntmps207
  go_wp2_with (first | (go_at_call 223; refine (has_out M1 i hi hm).mono ?_; rintro e w1 ⟨rfl, rfl⟩) | (go_at_call 224; refine (clear_in M1).mono ?_; rintro e w1 ⟨rfl, M2, t2⟩))
  go_ret2
  exact ⟨rfl, M2, (Touch.of_below hb0).trans t2⟩
theorem load_out (M : MemAt base w g c a gl cap L) (i : Int) (hi : ¬ (0 ≤ i ∧ i < (L.length : Int))) (hm : L.length ≤ 1000) : Calls Tryz.prog 173 #[.pointer (some ⟨g, 0, none⟩), .int .i64 i] w fun e w' => e = .returned (.int .u64 0) ∧ MemAt base w' g c a0 gl cap L ∧ Touch g gl w w' := by
  have hb := build_load i
  go_enter Tryz.func173, Tryz.ntmps173
  go_wp2_with fail
  refine (record_out M i hi hm 1 0 0).mono ?_
  rintro e w1 ⟨rfl, M1, t1⟩
  go_wp2
  go_ret
  exact ⟨rfl, M1, t1⟩
theorem cas_out (M : MemAt base w g c a gl cap L) (i : Int) (hi : ¬ (0 ≤ i ∧ i < (L.length : Int))) (hm : L.length ≤ 1000) (x y : Int) : Calls Tryz.prog 178 #[.pointer (some ⟨g, 0, none⟩), .int .i64 i, .int .u64 x, .int .u64 y] w fun e w' => e = .returned (.bool false) ∧ MemAt base w' g c a0 gl cap L ∧ Touch g gl w w' := by
  have hb := build_cas i x y
  go_enter Tryz.func178, Tryz.ntmps178
  go_wp2_with fail
  refine (record_out M i hi hm 3 x y).mono ?_
  rintro e w1 ⟨rfl, M1, t1⟩
  go_wp2
  go_ret
  exact ⟨rfl, M1, t1⟩
theorem add_out (M : MemAt base w g c a gl cap L) (i : Int) (hi : ¬ (0 ≤ i ∧ i < (L.length : Int))) (hm : L.length ≤ 1000) (x : Int) : Calls Tryz.prog 211 #[.pointer (some ⟨g, 0, none⟩), .int .i64 i, .int .u64 x] w fun e w' => e = .returned (.int .u64 0) ∧ MemAt base w' g c a0 gl cap L ∧ Touch g gl w w' := by
  have hb := build_add i x
  go_enter Tryz.func211, Tryz.ntmps211
  go_wp2_with fail
  refine (record_out M i hi hm 4 x 0).mono ?_
  rintro e w1 ⟨rfl, M1, t1⟩
  go_wp2
  go_ret
  exact ⟨rfl, M1, t1⟩
theorem store_out (M : MemAt base w g c a gl cap L) (i : Int) (hi : ¬ (0 ≤ i ∧ i < (L.length : Int))) (hm : L.length ≤ 1000) (x : Int) : Calls Tryz.prog 170 #[.pointer (some ⟨g, 0, none⟩), .int .i64 i, .int .u64 x] w fun e w' => e = .returned (.tuple #[]) ∧ MemAt base w' g c a0 gl cap L ∧ Touch g gl w w' := by
  have hb := build_store i x
  go_enter Tryz.func170, Tryz.ntmps170
  go_wp2_with fail
  refine (record_out M i hi hm 2 x 0).mono ?_
  rintro e w1 ⟨rfl, M1, t1⟩
  go_wp2
  go_end0
  exact ⟨rfl, M1, t1⟩
end
end Go.Proofs.YtgpdkagmacpghaaGreat.Me

/- Package memory: the record, slices.Clone, From, New. -/
import Derived.Test.YticgpikpefgldaaApp
import Derived.Test.YticgpikpefgldaaRefFirst
import Derived.Test.YticgpikpefgldaaRows2
import Derived.Deep.WholeRow
import Derived.Deep.RegionHeld3
import Derived.Lib.SliceRun
import Derived.RegionTactic
import Derived.Test.YticgpikpefgldaaGrowTail
import Derived.BigRegion
namespace Go.Proofs.Yticgpikpefgldaa.Me
open Go Go.RowKit Go.Proofs.Yticgpikpefgldaa.Gro Go.Proofs.Yticgpikpefgldaa.Own Go.Proofs.Yticgpikpefgldaa.Wd Go.Proofs.Yticgpikpefgldaa.Ap Go.Proofs.Yticgpikpefgldaa.Pl
set_option linter.unusedVariables false
set_option linter.unusedSimpArgs false

structure Acc where
  (kd at_ x y old : Int)
  deriving DecidableEq
def a0 : Acc := ⟨0, 0, 0, 0, 0⟩
abbrev av (a : Acc) : Value := .agg #[.int .i64 a.kd, .int .i64 a.at_, .int .u64 a.x, .int .u64 a.y, .int .u64 a.old]
abbrev mc (c : Cfg) (a : Acc) (v : Sl) : Array Value := #[.int .i64 c.ww, .int .i64 c.sl, .int .i64 c.bl, .int .i64 c.wd, .int .i64 c.en, .int .i64 c.rk, .int .i64 c.bg, .int .u64 c.la, .int .i64 a.kd, .int .i64 a.at_, .int .u64 a.x, .int .u64 a.y, .int .u64 a.old, .slice v.ad v.len v.cap]
theorem elemW : Elem Try.prog 25 22 1 8 := elem44
/-- slices.Clone of words. -/
theorem clone_none (n cap : Nat) (w : World) : Calls Try.prog 62 #[.slice none n cap] w fun e w' => e = .returned (.slice none 0 0) ∧ Below w.heap.size w w' := by
  have hq := fun w => Lib.run_eql_slice_nil (P := Try.prog) w 25 22 none n cap 0 0 Try.underlying25
  go_enter Try.func62, Try.ntmps62
  go_wp2
  go_ret
  exact ⟨rfl, Below.refl _ _⟩
theorem clone_some (a : Addr) (n cap : Nat) (L : List Int) (hL : L.length ≤ 1000) (w : World) (hr : Reads w .u64 (.slice (some a) n cap) L) : Calls Try.prog 62 #[.slice (some a) n cap] w fun e w' => ∃ y : Sl, e = .returned y.v ∧ w'.ownsRow w.heap.size 22 1 y.v L.length (L.map (.int .u64)) ∧ Below w.heap.size w w' := by
  have hq := fun w => Lib.run_eql_slice_nil (P := Try.prog) w 25 22 (some a) n cap 0 0 Try.underlying25
  have ho : (w.alloc (.cells #[] 22)).ownsRow w.heap.size 22 1 (.slice (some ⟨w.heap.size, 0, none⟩) 0 0) 0 (([] : List Int).map (Value.int .u64)) := World.ownsRow_lit w #[] 0 (Nat.le_refl _) (by unfold maxLen; omega) rfl
  have hr2 := hr.keep ((Below.refl w.heap.size w).alloc (Nat.le_refl _) (.cells #[] 22))
  go_enter Try.func62, Try.ntmps62
  go_wp2_with (at_builtin; refine append_any elemW rfl _ _ rfl w.heap.size _ 0 [] rfl ho _ L rfl hr2 (by omega) (by simp) ?_; intro y w3 h3 hb3)
  go_ret
  refine ⟨y, rfl, ?_, ((Below.refl w.heap.size w).alloc (Nat.le_refl _) _).trans hb3⟩
  simpa using h3
theorem clone {v : Sl} {L : List Int} (hL : L.length ≤ 1000) {w : World} (hr : Reads w .u64 v.v L) : Calls Try.prog 62 #[v.v] w fun e w' => ∃ y : Sl, e = .returned y.v ∧ w'.ownsRow w.heap.size 22 1 y.v L.length (L.map (.int .u64)) ∧ Below w.heap.size w w' := by
  obtain ⟨ad, n, cap⟩ := v
  cases ad with
  | none =>
    have hl : L = [] := by
      obtain ⟨ad, cap, he, _, _, h3⟩ := hr
      simp only [Value.slice.injEq] at he
      rcases h3 with h3 | ⟨b, off, rfl, _⟩
      · exact h3
      · exact absurd he.1 (by simp)
    subst hl
    exact (clone_none n cap w).mono fun e w' ⟨h1, h2⟩ => ⟨nilS, h1, World.ownsRow_nil _ _ _ _, h2⟩
  | some a => exact clone_some a n cap L hL w hr
/-- A memory: its record's block, its words' block. -/
structure MemAt (base : Nat) (w : World) (g : Nat) (c : Cfg) (a : Acc) (gl cap : Nat) (L : List Int) : Prop where
  B : Bk w g (mc c a ⟨some ⟨gl, 0, none⟩, L.length, cap⟩) 93
  W : w.ownsRow base 22 1 (.slice (some ⟨gl, 0, none⟩) L.length cap) L.length (L.map (.int .u64))
  g0 : base ≤ g
  ne : g ≠ gl
theorem info58 : (Try.prog.info? 93).map (·.size) = some 14 := by kernel_rfl
theorem build_mem (c : Cfg) (v : Sl) (w : World) : (Instr.build 93 #[(0, cv c), (2, v.v)]).run Try.prog w = .ok (.agg (mc c a0 v)) w := run_build w _ _ _ (by kernel_rfl)
theorem from_no (c : Cfg) (hf : c.Wf) (h : chk c ≠ 0) (v : Sl) (w : World) : Calls Try.prog 51 #[cv c, v.v] w fun e w' => e = .returned (.tuple #[.pointer none, .int .i64 (chk c)]) ∧ Below w.heap.size w w' := by
  have hn : nc c = ⟨0, 0, 0, 0, 0, 0, 0, 0⟩ := by rw [nc, if_neg h]
  have hp := newPlan c hf
  rw [hn] at hp
  have HP := Lib.hid hp
  have hv1 : (chk c != 0) = true := by simp [h]
  clear hp hn h
  go_enter Try.func51, Try.ntmps51
  go_wp2_with (go_at_call 64; refine (HP.out _).mono ?_; rintro e w1 ⟨rfl, hb1⟩)
  go_ret2
  exact ⟨rfl, (((Below.refl _ _).alloc (Nat.le_refl _) _).trans (hb1.mono (by simp))).alloc (by have := hb1.size; simp at this; omega) _⟩
theorem box8 {c : Cfg} {w : World} {g : Nat} {t : TypeId} (h : Bk w g #[.int .i64 c.ww, .int .i64 c.sl, .int .i64 c.bl, .int .i64 c.wd, .int .i64 c.en, .int .i64 c.rk, .int .i64 c.bg, .int .u64 c.la] t) : w.cell? ⟨g, 0, none⟩ = some (.int .i64 c.ww) ∧ w.cell? ⟨g, 1, none⟩ = some (.int .i64 c.sl) ∧ w.cell? ⟨g, 2, none⟩ = some (.int .i64 c.bl) ∧ w.cell? ⟨g, 3, none⟩ = some (.int .i64 c.wd) ∧ w.cell? ⟨g, 4, none⟩ = some (.int .i64 c.en) ∧ w.cell? ⟨g, 5, none⟩ = some (.int .i64 c.rk) ∧ w.cell? ⟨g, 6, none⟩ = some (.int .i64 c.bg) ∧ w.cell? ⟨g, 7, none⟩ = some (.int .u64 c.la) :=
  ⟨h.cells 0, h.cells 1, h.cells 2, h.cells 3, h.cells 4, h.cells 5, h.cells 6, h.cells 7⟩
abbrev ccM (c : Cfg) : Array Value := #[.int .i64 c.ww, .int .i64 c.sl, .int .i64 c.bl, .int .i64 c.wd, .int .i64 c.en, .int .i64 c.rk, .int .i64 c.bg, .int .u64 c.la]
theorem from_form (c : Cfg) (hf : c.Wf) (h : Ok c) (v : Sl) (hl : (v.len : Int) ≠ siz c) (w : World) : Calls Try.prog 51 #[cv c, v.v] w fun e w' => e = .returned (.tuple #[.pointer none, .int .i64 3]) ∧ Below w.heap.size w w' := by
  have hv := chk_ok.2 h
  have hn : nc c = c := by rw [nc, if_pos hv]
  have hp := newPlan c hf
  rw [hn, hv] at hp
  have HP := Lib.hid hp
  have HS := Lib.hid (size c hf)
  have hne : ((v.len : Int) != siz c) = true := by simp [hl]
  clear hp hn hv hl
  go_enter Try.func51, Try.ntmps51
  go_wp2_with fail
  refine (HP.out _).mono ?_
  rintro e w1 ⟨rfl, hb1⟩
  have P1 := Bk.new w1 (ccM c) 91
  have x1 := P1.cells
  have hw1 : Below w.heap.size w w1 := ((Below.refl _ _).alloc (Nat.le_refl _) _).trans (hb1.mono (by simp))
  have hw2 := hw1.alloc hw1.size (.cells (ccM c) 91)
  go_wp2_with fail
  refine (HS.out _).mono ?_
  rintro e w2 ⟨rfl, hb2⟩
  go_wp2
  go_ret2
  exact ⟨rfl, hw2.trans (hb2.mono hw2.size)⟩
theorem from_ok (c : Cfg) (hf : c.Wf) (h : Ok c) (v : Sl) (L : List Int) (hl : (L.length : Int) = siz c) (w : World) (hr : Reads w .u64 v.v L) : Calls Try.prog 51 #[cv c, v.v] w fun e w' => ∃ g gl cap, e = .returned (.tuple #[.pointer (some ⟨g, 0, none⟩), .int .i64 0]) ∧ MemAt w.heap.size w' g c a0 gl cap L ∧ Below w.heap.size w w' := by
  have hv := chk_ok.2 h
  have hn : nc c = c := by rw [nc, if_pos hv]
  have hp := newPlan c hf
  rw [hn, hv] at hp
  have HP := Lib.hid hp
  have HS := Lib.hid (size c hf)
  have hlen := reads_len hr
  have hne : ((v.len : Int) != siz c) = false := by rw [hlen, hl]; simp
  have hbm := build_mem c
  have hmax : L.length ≤ 1000 ∧ 0 < L.length := by
    have h2 := tot_ok (okB_of_ok h)
    have h3 := h.ww
    have h4 := h.sl
    have h5 := h.wd
    have h6 := h.en
    rw [siz, if_pos (okB_of_ok h)] at hl
    have := mul_range (a := c.sl * c.bl) (b := 1 + c.wd) (A := 128) (B := 5) h2.2.1 h2.2.2 (by omega) (by omega)
    omega
  have HM := Lib.hid hmax
  clear hp hn hv hl hlen hmax
  go_enter Try.func51, Try.ntmps51
  go_wp2_with fail
  refine (HP.out _).mono ?_
  rintro e w1 ⟨rfl, hb1⟩
  have hw1 : Below w.heap.size w w1 := ((Below.refl _ _).alloc (Nat.le_refl _) _).trans (hb1.mono (by simp))
  have hw2 := hw1.alloc hw1.size (.cells (ccM c) 91)
  have P1 := Bk.new w1 (ccM c) 91
  have x1 := P1.cells
  go_wp2_with fail
  refine (HS.out _).mono ?_
  rintro e w2 ⟨rfl, hb2⟩
  have P2 := P1.keep hb2
  have x2 := P2.cells
  have l2 := P2.lt
  have hw3 := hw2.trans (hb2.mono hw2.size)
  clear x1 P1
  go_wp2
  have hr2 := hr.keep hw3
  go_region_held3 (fun w' => w'.cell? ⟨w1.heap.size, 0, none⟩ = some (.int .i64 c.ww) ∧ w'.cell? ⟨w1.heap.size, 1, none⟩ = some (.int .i64 c.sl) ∧ w'.cell? ⟨w1.heap.size, 2, none⟩ = some (.int .i64 c.bl) ∧ w'.cell? ⟨w1.heap.size, 3, none⟩ = some (.int .i64 c.wd) ∧ w'.cell? ⟨w1.heap.size, 4, none⟩ = some (.int .i64 c.en) ∧ w'.cell? ⟨w1.heap.size, 5, none⟩ = some (.int .i64 c.rk) ∧ w'.cell? ⟨w1.heap.size, 6, none⟩ = some (.int .i64 c.bg) ∧ w'.cell? ⟨w1.heap.size, 7, none⟩ = some (.int .u64 c.la)) (first | exact box8 (w := w2.drew) P2 | exact box8 P5 | exact box8 (P5.alloc _)) ((go_at_call 62; refine (clone HM.out.1 (w := w2.drew) hr2).mono ?_; rintro e w5 ⟨y, rfl, hy, hb5⟩; have P5 := Bk.keep (w := w2.drew) P2 hb5))
  go_wp2
  obtain ⟨gl, cap, hyv, hgl0, hgl1, hc1, hc2, _⟩ := owns_cells hy HM.out.2
  obtain ⟨ad, ln, cp⟩ := y
  simp only [Value.slice.injEq] at hyv
  obtain ⟨rfl, rfl, rfl⟩ := hyv
  go_ret2
  have hw5 : Below w.heap.size w w5 := (Below.drew hw3).trans (hb5.mono hw3.size)
  refine ⟨w5.heap.size, gl, cp, rfl, ⟨Bk.new w5 (mc c a0 ⟨some ⟨gl, 0, none⟩, L.length, cp⟩) _, ?_, hw5.size, by omega⟩, hw5.alloc hw5.size _⟩
  exact (owns_base hy hw3.size).alloc _
theorem firstL_len {c : Cfg} (h : Ok c) : ((firstL c).length : Int) = siz c := by
  rw [firstL, if_pos (chk_ok.2 h), first_len]; exact spots_len h
abbrev S8 (c : Cfg) (g : Nat) (w' : World) : Prop := w'.cell? ⟨g, 0, none⟩ = some (.int .i64 c.ww) ∧ w'.cell? ⟨g, 1, none⟩ = some (.int .i64 c.sl) ∧ w'.cell? ⟨g, 2, none⟩ = some (.int .i64 c.bl) ∧ w'.cell? ⟨g, 3, none⟩ = some (.int .i64 c.wd) ∧ w'.cell? ⟨g, 4, none⟩ = some (.int .i64 c.en) ∧ w'.cell? ⟨g, 5, none⟩ = some (.int .i64 c.rk) ∧ w'.cell? ⟨g, 6, none⟩ = some (.int .i64 c.bg) ∧ w'.cell? ⟨g, 7, none⟩ = some (.int .u64 c.la)
theorem firstSl (c : Cfg) (hf : c.Wf) (w : World) : Calls Try.prog 98 #[cv c] w fun e w' => ∃ v : Sl, e = .returned v.v ∧ Reads w' .u64 v.v (firstL c) ∧ Below w.heap.size w w' :=
  (planFirst c hf w).mono fun e w' ⟨v, h1, h2, h3⟩ => by
    have h2' := h2
    obtain ⟨ad, cap, rfl, _⟩ := h2
    exact ⟨⟨ad, _, cap⟩, h1, h2', h3⟩
theorem newMem_ok (c : Cfg) (hf : c.Wf) (h : Ok c) (w : World) : Calls Try.prog 48 #[cv c] w fun e w' => ∃ g gl cap, e = .returned (.tuple #[.pointer (some ⟨g, 0, none⟩), .int .i64 0]) ∧ MemAt w.heap.size w' g c a0 gl cap (firstL c) ∧ Below w.heap.size w w' := by
  have C0 := Bk.new w (ccM c) 24
  have hw0 : Below w.heap.size w (w.alloc (.cells (ccM c) 24)) := (Below.refl _ _).alloc (Nat.le_refl _) _
  have hfm := fun (v : Sl) (w : World) hr => from_ok c hf h v (firstL c) (firstL_len h) w hr
  have HF := Lib.hid hfm
  clear hfm
  go_enter Try.func48, Try.ntmps48
  go_wp2
  generalize hw : w.alloc (.cells (ccM c) 24) = wa at *
  have HW := Lib.hid hw
  clear hw
  go_region_held3 (fun w' => w'.cell? ⟨w.heap.size, 0, none⟩ = some (.int .i64 c.ww) ∧ w'.cell? ⟨w.heap.size, 1, none⟩ = some (.int .i64 c.sl) ∧ w'.cell? ⟨w.heap.size, 2, none⟩ = some (.int .i64 c.bl) ∧ w'.cell? ⟨w.heap.size, 3, none⟩ = some (.int .i64 c.wd) ∧ w'.cell? ⟨w.heap.size, 4, none⟩ = some (.int .i64 c.en) ∧ w'.cell? ⟨w.heap.size, 5, none⟩ = some (.int .i64 c.rk) ∧ w'.cell? ⟨w.heap.size, 6, none⟩ = some (.int .i64 c.bg) ∧ w'.cell? ⟨w.heap.size, 7, none⟩ = some (.int .u64 c.la)) (first | exact box8 (w := wa.drew) C0 | exact box8 C6 | exact box8 C5) (first | (go_at_call 98; refine (firstSl c hf _).mono ?_; rintro e w5 ⟨v, rfl, R5, hb5⟩; have C5 := Bk.keep (w := wa.drew) C0 hb5; have hw5 := (Below.drew hw0).trans (hb5.mono hw0.size)) | (go_at_call 51; refine (HF.out v _ R5).mono ?_; rintro e w6 ⟨g, gl, cap, rfl, M6, hb6⟩; have C6 := C5.keep hb6; have hw6 := hw5.trans (hb6.mono hw5.size)))
  go_wp2
  go_ret2
  refine ⟨g, gl, cap, rfl, ⟨M6.B, owns_base M6.W hw5.size, Nat.le_trans hw5.size M6.g0, M6.ne⟩, hw6⟩
theorem newMem_no (c : Cfg) (hf : c.Wf) (h : chk c ≠ 0) (w : World) : Calls Try.prog 48 #[cv c] w fun e w' => e = .returned (.tuple #[.pointer none, .int .i64 (chk c)]) ∧ Below w.heap.size w w' := by
  have C0 := Bk.new w (ccM c) 24
  have hw0 : Below w.heap.size w (w.alloc (.cells (ccM c) 24)) := (Below.refl _ _).alloc (Nat.le_refl _) _
  go_enter Try.func48, Try.ntmps48
  go_wp2
  generalize hw : w.alloc (.cells (ccM c) 24) = wa at *
  have HW := Lib.hid hw
  clear hw
  go_region_held3 (fun w' => w'.cell? ⟨w.heap.size, 0, none⟩ = some (.int .i64 c.ww) ∧ w'.cell? ⟨w.heap.size, 1, none⟩ = some (.int .i64 c.sl) ∧ w'.cell? ⟨w.heap.size, 2, none⟩ = some (.int .i64 c.bl) ∧ w'.cell? ⟨w.heap.size, 3, none⟩ = some (.int .i64 c.wd) ∧ w'.cell? ⟨w.heap.size, 4, none⟩ = some (.int .i64 c.en) ∧ w'.cell? ⟨w.heap.size, 5, none⟩ = some (.int .i64 c.rk) ∧ w'.cell? ⟨w.heap.size, 6, none⟩ = some (.int .i64 c.bg) ∧ w'.cell? ⟨w.heap.size, 7, none⟩ = some (.int .u64 c.la)) (first | exact box8 (w := wa.drew) C0 | exact box8 C6 | exact box8 C5) (first | (go_at_call 98; refine (firstSl c hf _).mono ?_; rintro e w5 ⟨v, rfl, R5, hb5⟩; have C5 := Bk.keep (w := wa.drew) C0 hb5; have hw5 := (Below.drew hw0).trans (hb5.mono hw0.size)) | (go_at_call 51; refine (from_no c hf h v _).mono ?_; rintro e w6 ⟨rfl, hb6⟩; have C6 := C5.keep hb6; have hw6 := hw5.trans (hb6.mono hw5.size)))
  go_wp2
  go_ret2
  exact ⟨rfl, hw6⟩
end Go.Proofs.Yticgpikpefgldaa.Me

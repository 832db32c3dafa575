/- The law StackTakes (made by genstk.py). -/
import Derived.Test.YtblkfbbdeodpjaaStkNum
import Derived.Test.YtblkfbbdeodpjaaLists
import Derived.Test.YtblkfbbdeodpjaaStackAwake
import Derived.Test.YtblkfbbdeodpjaaBoth
import Derived.Test.YtblkfbbdeodpjaaSts
import Derived.Test.YtblkfbbdeodpjaaRefStep
namespace Go.Proofs.Ytblkfbbdeodpjaa.Me
open Go Go.RowKit Go.Proofs.Ytblkfbbdeodpjaa.Gro Go.Proofs.Ytblkfbbdeodpjaa.Own Go.Proofs.Ytblkfbbdeodpjaa.Wd Go.Proofs.Ytblkfbbdeodpjaa.Ap Go.Proofs.Ytblkfbbdeodpjaa.Pl Go.Proofs.Ytblkfbbdeodpjaa.Wo
set_option linter.unusedVariables false
set_option linter.unusedSimpArgs false
structure Skw (w0 : World) (c : Cfg) (g gl cp gx : Nat) (y : Sl) (l : List Int) (a : Acc) (L : List Int) (s : Wk) (w : World) : Prop where
  C : Bk w w0.heap.size (ccM c) 24
  M : MemAt w0.heap.size w g c a gl cp L
  X : Bk w gx (wc s) 46
  R : Reads w .i64 y.v l
  hb : Below w0.heap.size w0 w
  n1 : w0.heap.size < g
  n2 : w0.heap.size < gl
  n3 : gx ≠ g
  n4 : gx ≠ gl
  n5 : w0.heap.size < gx
  y1 : l = [] ∨ ∀ d, y.ad = some d → d.block ≠ g
  y2 : l = [] ∨ ∀ d, y.ad = some d → d.block ≠ gl
  y3 : l = [] ∨ ∀ d, y.ad = some d → d.block ≠ gx
section
variable {w0 w u : World} {c : Cfg} {g gl cp gx : Nat} {y : Sl} {l : List Int} {a a' : Acc} {L L' : List Int} {s s' : Wk}
theorem Skw.keep (h : Skw w0 c g gl cp gx y l a L s w) (hb : Below w.heap.size w u) : Skw w0 c g gl cp gx y l a L s u :=
  ⟨h.C.keep hb, h.M.keep hb, h.X.keep hb, h.R.keep hb, h.hb.trans (hb.mono h.hb.size), h.n1, h.n2, h.n3, h.n4, h.n5, h.y1, h.y2, h.y3⟩
theorem Skw.row (h : Skw w0 c g gl cp gx y l a L s w) (s' : Wk) : Skw w0 c g gl cp gx y l a L s' (w.setRow gx (wc s')) :=
  have e := h.n1
  have e2 := h.n2
  have e5 := h.n5
  have e3 := h.n3
  have e4 := h.n4
  ⟨h.C.setRow_far (by omega) _, h.M.apart (g' := gx) (gl' := gx) ((Touch.refl gx gx w).setRow _) (by omega) (by omega) (by omega) (by omega), h.X.setRow _, reads_row h.R h.y3 _, below_setRow h.hb (by omega) _, h.n1, h.n2, h.n3, h.n4, h.n5, h.y1, h.y2, h.y3⟩
theorem Skw.step (h : Skw w0 c g gl cp gx y l a L s w) (M' : MemAt w0.heap.size u g c a' gl cp L') (T : Touch g gl w u) (s' : Wk) : Skw w0 c g gl cp gx y l a' L' s' (u.setRow gx (wc s')) :=
  have e := h.n1
  have e2 := h.n2
  have e5 := h.n5
  have e3 := h.n3
  have e4 := h.n4
  have q : Skw w0 c g gl cp gx y l a' L' s u := ⟨T.bk h.C (by omega) (by omega), M', T.bk h.X h.n3 h.n4, reads_touch h.R T h.y1 h.y2, h.hb.trans (T.below (base := w0.heap.size) (by omega) (by omega) h.hb.size), h.n1, h.n2, h.n3, h.n4, h.n5, h.y1, h.y2, h.y3⟩
  q.row s'
end
theorem reads_tail {w : World} {b o n cap : Nat} {x : Int} {l : List Int} (h : Reads w .i64 (.slice (some ⟨b, o, none⟩) n cap) (x :: l)) : Reads w .i64 (.slice (some ⟨b, o + 1, none⟩) (n - 1) (cap - 1)) l := by
  obtain ⟨ad, cap', e, h1, h2, h3⟩ := h
  simp only [Value.slice.injEq, List.length_cons] at e
  obtain ⟨rfl, rfl, rfl⟩ := e
  refine ⟨_, _, rfl, by simp at h1; omega, by omega, ?_⟩
  rcases h3 with h3 | ⟨b', off, e2, hb, hc⟩
  · cases h3
  · simp only [Option.some.injEq, Addr.mk.injEq, and_true] at e2
    obtain ⟨rfl, rfl⟩ := e2
    exact .inr ⟨b, o + 1, rfl, hb, fun i hi => by
      have := hc (i + 1) (by simpa using hi)
      rw [show o + 1 + i = o + (i + 1) by omega]
      simpa using this⟩
theorem reads_tail2 {w : World} {b o cap : Nat} {x : Int} {l : List Int} (h : Reads w .i64 (.slice (some ⟨b, o, none⟩) (l.length + 1) cap) (x :: l)) : Reads w .i64 (.slice (if cap = 1 then some ⟨b, o, none⟩ else some ⟨b, o + 1, none⟩) l.length (cap - 1)) l := by
  have ht := reads_tail h
  split
  · rename_i hc
    subst hc
    obtain ⟨ad, cap', e, h1, h2, h3⟩ := h
    simp only [Value.slice.injEq, List.length_cons] at e
    obtain ⟨rfl, _, rfl⟩ := e
    have hl : l = [] := by cases l with
      | nil => rfl
      | cons a t => simp at h1
    subst hl
    exact ⟨_, 0, rfl, Nat.le_refl _, Nat.zero_le _, .inl rfl⟩
  · exact ht
theorem reads_block {w : World} {b o n cap : Nat} {x : Int} {l : List Int} (h : Reads w .i64 (.slice (some ⟨b, o, none⟩) n cap) (x :: l)) : b < w.heap.size := by
  obtain ⟨ad, cap', e, h1, h2, h3⟩ := h
  simp only [Value.slice.injEq, List.length_cons] at e
  obtain ⟨rfl, rfl, rfl⟩ := e
  rcases h3 with h3 | ⟨b', off, e2, hb, hc⟩
  · cases h3
  · simp only [Option.some.injEq, Addr.mk.injEq, and_true] at e2
    obtain ⟨rfl, rfl⟩ := e2
    exact hb
theorem own_block {B : Nat} {w : World} {t : TypeId} {y : Sl} {l : List Int} (h : Owned B w .i64 t y l) : ∀ d, y.ad = some d → B ≤ d.block ∧ d.block < w.heap.size := by
  intro d hd
  rcases h.2 with ⟨h0, _⟩ | ⟨g, cap, cur, h0, _⟩
  · obtain ⟨ya, yl, yc⟩ := y
    simp only [Sl.v, Value.slice.injEq] at h0
    rw [h0.1] at hd
    cases hd
  · have := World.ownsRow.lt h g (by rw [h0]; rfl)
    obtain ⟨ya, yl, yc⟩ := y
    simp only [Sl.v, Value.slice.injEq] at h0
    rw [h0.1] at hd
    simp only [Option.some.injEq] at hd
    subst hd
    exact this
theorem prS {p : Pl} (h1 : p.ep = 0) (h2 : 0 ≤ p.h ∧ p.h < 18446744073709551616) (h3 : 0 ≤ p.n ∧ p.n < 18446744073709551616) (h4 : 0 ≤ p.v ∧ p.v < 18446744073709551616) (h5 : p.u = 0) (h6 : p.g = 0) (h7 : p.t = 0) : PR p := by
  constructor <;> first | assumption | omega
theorem z0s : (0 : Int) ≤ 0 ∧ (0 : Int) < 18446744073709551616 := by decide
theorem emp0 (w : World) (p : Pl) : Lies w { wz with p := p } { zS with p := p } := lies_z6 p w
set_option maxRecDepth 100000 in
set_option maxHeartbeats 16000000 in
theorem stk_no (c : Cfg) (hf : c.Wf) (ad : Option Addr) (n cap : Nat) (e : Bool) (w : World) (HB : RowKit.Hid (∀ {w0 : World}, Below w.heap.size w w0 → Calls Try.prog 20 #[cv c, .slice ad n cap] w0 (BothNo w0))) : Calls Try.prog 4 #[cv c, .slice ad n cap, .bool e] w fun e w' => e = .returned (.bool true) ∧ Below w.heap.size w w' := by
  have C0 := Bk.new w (ccM c) 24
  have hw0 : Below w.heap.size w (w.alloc (.cells (ccM c) 24)) := (Below.refl _ _).alloc (Nat.le_refl _) _
  go_enter Try.func4, Try.ntmps4
  go_wp2_with fail
  refine (awake6 _).mono ?_
  rintro en w1 ⟨rfl, hb1⟩
  have C1 := C0.keep hb1
  have hw1 := hw0.trans (hb1.mono hw0.size)
  clear C0 hw0 hb1
  go_wp2_with (refine wpList_load_row rfl 24 _ rfl w.heap.size rfl _ (ccM c) (0, 0) _ (by exact C1) Try.underlying24 rfl (by kernel_rfl) ?_)
  refine (HB.out hw1).mono ?_
  rintro en w2 ⟨⟨v1, v2, rfl⟩, hb2⟩
  have hw2 := hw1.trans (hb2.mono hw1.size)
  go_wp2
  go_ret
  exact ⟨rfl, hw2⟩
set_option maxRecDepth 100000 in
set_option maxHeartbeats 16000000 in
theorem stk_none_false (c : Cfg) (hf : c.Wf) (n cap b0 off : Nat) (L : List Int) (hm : L.length ≤ 1000) (hL : WR L) (hln : L.length = n) (w : World) (hb0 : b0 < w.heap.size) (hc : ∀ i (hi : i < L.length), w.cell? ⟨b0, off + i, none⟩ = some (.int .u64 L[i])) (hr : Reads w .u64 (.slice (some ⟨b0, off, none⟩) n cap) L) (HB : RowKit.Hid (∀ {w0 : World}, Below w.heap.size w w0 → Calls Try.prog 20 #[cv c, .slice (some ⟨b0, off, none⟩) n cap] w0 (BothYes c L w0))) (hl : listR c L false = none) : Calls Try.prog 4 #[cv c, .slice (some ⟨b0, off, none⟩) n cap, .bool false] w fun e w' => e = .returned (.bool true) ∧ Below w.heap.size w w' := by
  have f23 : ∀ s : Wk, (wc s)[23]? = some (.int .u64 s.p.h) := fun _ => rfl
  have HRL : RowKit.Hid (∀ w', Below w.heap.size w w' → Calls Try.prog 18 #[cv c, .slice (some ⟨b0, off, none⟩) n cap, .bool false] w' (ListPost c L false w')) := Lib.hid (fun w' hb => refList c hf false (v := ⟨some ⟨b0, off, none⟩, n, cap⟩) (hr.keep hb) hL)
  unfold ListPost at HRL
  rw [hl] at HRL
  clear hl hr
  have C0 := Bk.new w (ccM c) 24
  have hw0 : Below w.heap.size w (w.alloc (.cells (ccM c) 24)) := (Below.refl _ _).alloc (Nat.le_refl _) _
  go_enter Try.func4, Try.ntmps4
  go_wp2_with fail
  refine (awake6 _).mono ?_
  rintro en w1 ⟨rfl, hb1⟩
  have C1 := C0.keep hb1
  have hw1 := hw0.trans (hb1.mono hw0.size)
  clear C0 hw0 hb1
  go_wp2_with (refine wpList_load_row rfl 24 _ rfl w.heap.size rfl _ (ccM c) (0, 0) _ (by exact C1) Try.underlying24 rfl (by kernel_rfl) ?_)
  refine (HB.out hw1).mono ?_
  rintro en w2 ⟨g, gl, cp, g2, gl2, cp2, rfl, B2⟩
  have M2 := MemAt.base B2.M (B' := w.heap.size) hw1.size
  have lc1 := C1.lt
  have n1 := B2.M.g0
  have n2 := B2.M.gl0
  have C2 := C1.keep B2.below
  have hw2 := hw1.trans (B2.below.mono hw1.size)
  clear B2 C1 hw1
  go_wp2_with (refine wpList_load_row rfl 24 _ rfl w.heap.size rfl _ (ccM c) (0, 0) _ (by exact C2) Try.underlying24 rfl (by kernel_rfl) ?_)
  have HLS := HRL.out _ hw2
  refine HLS.mono ?_
  rintro en w3 ⟨y, rfl, OY, hb3⟩
  have C3 := C2.keep hb3
  have M3 := M2.keep hb3
  have hw3 := hw2.trans (hb3.mono hw2.size)
  have lt3 := M3.lt
  have RY := OY.reads
  have by0 := own_block OY
  have lm2 := M2.lt
  clear C2 M2 hw2 hb3 HLS OY
  go_wp2
  go_ret
  exact ⟨rfl, hw3⟩
set_option maxRecDepth 100000 in
set_option maxHeartbeats 16000000 in
theorem stk_empty_false (c : Cfg) (hf : c.Wf) (n cap b0 off : Nat) (L : List Int) (hm : L.length ≤ 1000) (hL : WR L) (hln : L.length = n) (w : World) (hb0 : b0 < w.heap.size) (hc : ∀ i (hi : i < L.length), w.cell? ⟨b0, off + i, none⟩ = some (.int .u64 L[i])) (hr : Reads w .u64 (.slice (some ⟨b0, off, none⟩) n cap) L) (HB : RowKit.Hid (∀ {w0 : World}, Below w.heap.size w w0 → Calls Try.prog 20 #[cv c, .slice (some ⟨b0, off, none⟩) n cap] w0 (BothYes c L w0))) (h : chk c = 0) (hs : (L.length : Int) = siz c) (hl : listR c L false = some []) : Calls Try.prog 4 #[cv c, .slice (some ⟨b0, off, none⟩) n cap, .bool false] w fun e w' => e = .returned (.bool true) ∧ Below w.heap.size w w' := by
  have f23 : ∀ s : Wk, (wc s)[23]? = some (.int .u64 s.p.h) := fun _ => rfl
  have HRL : RowKit.Hid (∀ w', Below w.heap.size w w' → Calls Try.prog 18 #[cv c, .slice (some ⟨b0, off, none⟩) n cap, .bool false] w' (ListPost c L false w')) := Lib.hid (fun w' hb => refList c hf false (v := ⟨some ⟨b0, off, none⟩, n, cap⟩) (hr.keep hb) hL)
  unfold ListPost at HRL
  rw [hl] at HRL
  have h3 := siz_ge h
  have hn2 : 1 < L.length := by omega
  have HC := Lib.hid hc
  obtain ⟨V, hV⟩ : ∃ V, V = L[1] := ⟨_, rfl⟩
  have HV := Lib.hid hV.symm
  have hvr : 0 ≤ V ∧ V < 18446744073709551616 := by rw [hV]; exact hL _ (List.getElem_mem hn2)
  have HVR := Lib.hid hvr
  have hVg : L.getD (hdN false) 0 = V := by rw [hV, List.getD_eq_getElem?_getD, show hdN false = 1 from rfl, List.getElem?_eq_getElem hn2]; rfl
  have hVl : ldV L (skH false) = V := by rw [skH_eq, ldV_at (by exact hn2), ← hVg, List.getD_eq_getElem?_getD, List.getElem?_eq_getElem (by exact hn2)]; rfl
  have hz := list_nil h hs hl
  rw [hVg] at hz
  have H10 := Lib.hid (fun (w' : World) g gl cp a (M : MemAt w.heap.size w' g c a gl cp L) => stk10z (c := c) (a := a) (e := false) (by rw [hVl]; exact hz) ▸ stackStepAny M hf hm hL ({ wz with p := ({ pz with ln := skLn false 10 } : Pl) } : Wk) { zS with p := ({ pz with ln := skLn false 10 } : Pl) } (few_z6 _) (lies_z6 _ _) (prS rfl z0s z0s z0s rfl rfl rfl))
  have hbd : ∀ w, (Instr.build 46 #[(0, .int .i64 10)]).run Try.prog w = .ok (wv ({ wz with p := ({ pz with ln := skLn false 10 } : Pl) } : Wk)) w := fun w => run_build w _ _ _ (by kernel_rfl)
  have HRR := Lib.hid hr
  have HM := Lib.hid hm
  rw [hVl] at H10
  clear hl hL hm hc hV hvr hVg hVl hz h h3 hs hr
  have C0 := Bk.new w (ccM c) 24
  have hw0 : Below w.heap.size w (w.alloc (.cells (ccM c) 24)) := (Below.refl _ _).alloc (Nat.le_refl _) _
  go_enter Try.func4, Try.ntmps4
  go_wp2_with fail
  refine (awake6 _).mono ?_
  rintro en w1 ⟨rfl, hb1⟩
  have C1 := C0.keep hb1
  have hw1 := hw0.trans (hb1.mono hw0.size)
  clear C0 hw0 hb1
  go_wp2_with (refine wpList_load_row rfl 24 _ rfl w.heap.size rfl _ (ccM c) (0, 0) _ (by exact C1) Try.underlying24 rfl (by kernel_rfl) ?_)
  refine (HB.out hw1).mono ?_
  rintro en w2 ⟨g, gl, cp, g2, gl2, cp2, rfl, B2⟩
  have M2 := MemAt.base B2.M (B' := w.heap.size) hw1.size
  have lc1 := C1.lt
  have n1 := B2.M.g0
  have n2 := B2.M.gl0
  have C2 := C1.keep B2.below
  have hw2 := hw1.trans (B2.below.mono hw1.size)
  clear B2 C1 hw1
  go_wp2_with (refine wpList_load_row rfl 24 _ rfl w.heap.size rfl _ (ccM c) (0, 0) _ (by exact C2) Try.underlying24 rfl (by kernel_rfl) ?_)
  have HLS := HRL.out _ hw2
  refine HLS.mono ?_
  rintro en w3 ⟨y, rfl, OY, hb3⟩
  have C3 := C2.keep hb3
  have M3 := M2.keep hb3
  have hw3 := hw2.trans (hb3.mono hw2.size)
  have lt3 := M3.lt
  have RY := OY.reads
  have by0 := own_block OY
  have lm2 := M2.lt
  clear C2 M2 hw2 hb3 HLS OY
  have hq := (hw3.cell (p := ⟨b0, off + 1, none⟩) hb0).trans (HC.out 1 hn2)
  rw [HV.out] at hq
  have hn1 : (1 : Int) < (n : Int) := by omega
  go_wp2_with fail
  refine (rUnhead V HVR.out _).mono ?_
  rintro en u4 ⟨rfl, hb4⟩
  have C4 := C3.keep hb4
  have M4 := M3.keep hb4
  have hw4 := hw3.trans (hb4.mono hw3.size)
  have RY4 := RY.keep hb4
  have sz4 := hb4.size
  have Z4 := Bk.new u4 (wc wz) 46
  have X5 := boxed_bk u4 ({ wz with p := ({ pz with ln := skLn false 10 } : Pl) } : Wk)
  have bb := boxed_below u4 ({ wz with p := ({ pz with ln := skLn false 10 } : Pl) } : Wk)
  have C5 := C4.keep bb
  have M5 := M4.keep bb
  have hw5 := hw4.trans (bb.mono hw4.size)
  have RY5 := RY4.keep bb
  obtain ⟨u5, hu5⟩ : ∃ u, u = (u4.alloc (.cells (wc wz) 46)).setRow u4.heap.size (wc ({ wz with p := ({ pz with ln := skLn false 10 } : Pl) } : Wk)) := ⟨_, rfl⟩
  rw [← hu5] at X5 C5 M5 hw5 RY5
  have E5 : Skw w c g gl cp u4.heap.size y (([] : List Int)) _ L ({ wz with p := ({ pz with ln := skLn false 10 } : Pl) } : Wk) u5 := ⟨C5, M5, X5, RY5, hw5, by omega, by omega, by omega, by omega, by have := C4.lt; omega, .inr fun d hd => by have := by0 d hd; omega, .inr fun d hd => by have := by0 d hd; omega, .inr fun d hd => by have := by0 d hd; omega⟩
  clear bb C3 hw3 M3 C4 hw4 M4 C5 hw5 M5 RY RY4 RY5 hq hb4 X5 by0
  go_wp2_with (first | ((with_reducible refine wpList_alloc_wz rfl rfl ?_)) | ((refine wpList_store_row rfl 46 _ _ rfl (u4.heap.size) (wc ({ wz with p := ({ pz with ln := skLn false 10 } : Pl) } : Wk)) rfl rfl _ _ (by exact Z4) (by kernel_rfl) (by kernel_rfl) (by kernel_rfl) ?_); rw [← hu5]; clear hu5 Z4))
  refine wp_loop_rounds 2 ?_
  rw [rounds_succ]
  have HS6 := Lib.hid (H10.out _ _ _ _ _ E5.M)
  go_wp2_with (refine wpList_load_row rfl 46 _ rfl (u4.heap.size) rfl _ (wc ({ wz with p := ({ pz with ln := skLn false 10 } : Pl) } : Wk)) (0, 0) _ (by exact E5.X) Try.underlying46 rfl (by kernel_rfl) ?_)
  refine HS6.out.mono ?_
  rintro en u6 ⟨s6, rfl, A6, M6, T6⟩
  have X6 := T6.bk E5.X E5.n3 E5.n4
  have E6 := E5.step M6 T6 s6
  have lx6 := E5.X.lt
  have Ar6 := A6.setRow (g := u4.heap.size) lx6 (wc s6)
  obtain ⟨v6, hv6⟩ : ∃ u, u = u6.setRow u4.heap.size (wc s6) := ⟨_, rfl⟩
  rw [← hv6] at E6 Ar6
  have hp6 := Ar6.p
  have L6 := Ar6.lies
  clear A6 M6 T6 Ar6 HS6 E5
  go_wp2_with ((refine wpList_store_row rfl 46 _ _ rfl (u4.heap.size) (wc s6) rfl rfl _ _ (by exact X6) (by kernel_rfl) (by kernel_rfl) (by kernel_rfl) ?_); rw [← hv6]; clear hv6 X6)
  rw [rounds_succ]
  have hyl := reads_len E6.R
  have t0 : ((y.len : Int) == 0) = true := by rw [hyl]; rfl
  go_wp2_with fail
  refine (all_in E6.M HM.out).mono ?_
  rintro en w7 ⟨ya, rfl, OA, hb7⟩
  have E7 := E6.keep hb7
  have RA := Reads.of_own OA rfl
  have RL := HRR.out.keep E7.hb
  clear OA hb7 E6
  go_wp2_with fail
  refine (same_true RA RL).mono ?_
  rintro en w8 ⟨rfl, hb8⟩
  have E8 := E7.keep hb8
  go_wp2
  go_ret
  exact ⟨rfl, E8.hb⟩
set_option maxRecDepth 100000 in
set_option maxHeartbeats 16000000 in
theorem stk_full_false (c : Cfg) (hf : c.Wf) (n cap b0 off : Nat) (L : List Int) (hm : L.length ≤ 1000) (hL : WR L) (hln : L.length = n) (w : World) (hb0 : b0 < w.heap.size) (hc : ∀ i (hi : i < L.length), w.cell? ⟨b0, off + i, none⟩ = some (.int .u64 L[i])) (hr : Reads w .u64 (.slice (some ⟨b0, off, none⟩) n cap) L) (HB : RowKit.Hid (∀ {w0 : World}, Below w.heap.size w w0 → Calls Try.prog 20 #[cv c, .slice (some ⟨b0, off, none⟩) n cap] w0 (BothYes c L w0))) (h : chk c = 0) (hs : (L.length : Int) = siz c) (k0 : Int) (tl : List Int) (hl : listR c L false = some (k0 :: tl)) : Calls Try.prog 4 #[cv c, .slice (some ⟨b0, off, none⟩) n cap, .bool false] w fun e w' => e = .returned (.bool true) ∧ Below w.heap.size w w' := by
  have f23 : ∀ s : Wk, (wc s)[23]? = some (.int .u64 s.p.h) := fun _ => rfl
  have HRL : RowKit.Hid (∀ w', Below w.heap.size w w' → Calls Try.prog 18 #[cv c, .slice (some ⟨b0, off, none⟩) n cap, .bool false] w' (ListPost c L false w')) := Lib.hid (fun w' hb => refList c hf false (v := ⟨some ⟨b0, off, none⟩, n, cap⟩) (hr.keep hb) hL)
  unfold ListPost at HRL
  rw [hl] at HRL
  obtain ⟨L1, L2, L3, V, n', W1, D⟩ := stk_data h hs hL hl
  have h3 := siz_ge h
  have hn2 : 1 < L.length := by omega
  have HC := Lib.hid hc
  have hV : L[1] = V := by have q := D.eV; rw [skH_eq, ldV_at (by exact hn2)] at q; exact q
  have HV := Lib.hid hV
  have hvr := D.rV
  have HVR := Lib.hid D.rV
  have htl : tl.length ≤ 100000 := stk_short hm h hs hl
  have hkr := D.rk
  have hk1 : 0 ≤ k0 + 1 ∧ k0 + 1 < 18446744073709551616 := by omega
  have hm1 : L1.length ≤ 1000 := by have := D.l1.1; omega
  have hm2 : L2.length ≤ 1000 := by have := D.l2.1; omega
  have hm3 : L3.length ≤ 1000 := by have := D.l3.1; omega
  have H10 := Lib.hid (fun (w' : World) g gl cp a (M : MemAt w.heap.size w' g c a gl cp L) => stk10n (c := c) (a := a) (e := false) (by rw [D.eV, D.top]; omega) ▸ stackStepAny M hf hm hL { wz with p := ({ pz with ln := skLn false 10 } : Pl) } { zS with p := ({ pz with ln := skLn false 10 } : Pl) } (few_z6 _) (lies_z6 _ _) (prS rfl z0s z0s z0s rfl rfl rfl))
  rw [D.eV, D.top] at H10
  have H11 := Lib.hid (fun (w' : World) g gl cp a (M : MemAt w.heap.size w' g c a gl cp L) (s : Wk) (hl : Lies w' s { zS with p := ({ pz with v := V, h := k0 + 1, ln := skLn false 11 } : Pl) }) => stk11 (c := c) (a := a) (e := false) V (k0 + 1) ▸ stackStepAny M hf hm hL s { zS with p := ({ pz with v := V, h := k0 + 1, ln := skLn false 11 } : Pl) } (few_z6 _) hl (prS rfl hk1 z0s hvr rfl rfl rfl))
  rw [D.en] at H11
  have H12 := Lib.hid (fun (w' : World) g gl cp a (M : MemAt w.heap.size w' g c a gl cp L) (s : Wk) (hl : Lies w' s { zS with p := ({ pz with v := V, h := k0 + 1, n := n', ln := skLn false 12 } : Pl) }) => stk12 (c := c) (a := a) (e := false) V (k0 + 1) n' D.e1.1 ▸ stackStepAny M hf hm hL s { zS with p := ({ pz with v := V, h := k0 + 1, n := n', ln := skLn false 12 } : Pl) } (few_z6 _) hl (prS rfl hk1 D.rn hvr rfl rfl rfl))
  rw [D.e1.2] at H12
  have H13 := Lib.hid (fun (w' : World) g gl cp a (M : MemAt w.heap.size w' g c a gl cp L1) => stk13 (c := c) (a := a) (e := false) (k0 + 1) ▸ stackStepAny M hf hm1 D.l1.2.1 { wz with p := ({ pz with ln := skLn false 13, k := k0 + 1, i := k0 + 1 } : Pl) } { zS with p := ({ pz with ln := skLn false 13, k := k0 + 1, i := k0 + 1 } : Pl) } (few_z6 _) (lies_z6 _ _) (prS rfl z0s z0s z0s rfl rfl rfl))
  rw [D.eW] at H13
  have H14 := Lib.hid (fun (w' : World) g gl cp a (M : MemAt w.heap.size w' g c a gl cp L1) (s : Wk) (hl : Lies w' s { zS with p := ({ pz with ln := skLn false 14, k := k0 + 1, i := k0 + 1, v := W1 } : Pl) }) => stk14 (c := c) (a := a) (e := false) (k0 + 1) W1 ▸ stackStepAny M hf hm1 D.l1.2.1 s { zS with p := ({ pz with ln := skLn false 14, k := k0 + 1, i := k0 + 1, v := W1 } : Pl) } (few_z6 _) hl (prS rfl z0s z0s D.rW rfl rfl rfl))
  rw [D.e2] at H14
  have H15 := Lib.hid (fun (w' : World) g gl cp a (M : MemAt w.heap.size w' g c a gl cp L2) (s : Wk) (hl : Lies w' s { zS with p := ({ pz with ln := skLn false 15, k := k0 + 1, i := k0 + 1, v := W1 } : Pl) }) => stk15 (c := c) (a := a) (e := false) (k0 + 1) W1 D.e3.1 ▸ stackStepAny M hf hm2 D.l2.2 s { zS with p := ({ pz with ln := skLn false 15, k := k0 + 1, i := k0 + 1, v := W1 } : Pl) } (few_z6 _) hl (prS rfl z0s z0s D.rW rfl rfl rfl))
  rw [D.e3.2] at H15
  have HL1 : RowKit.Hid (∀ (v : Sl) w', Reads w' .u64 v.v L1 → Calls Try.prog 18 #[cv c, v.v, .bool false] w' (fun en w'' => ∃ y : Sl, en = .returned (.tuple #[y.v, .bool true]) ∧ Owned w'.heap.size w'' .i64 3 y tl ∧ Below w'.heap.size w' w'')) := Lib.hid (fun v w' hr => by
    have := refList c hf false (v := v) hr D.l1.2.1
    unfold ListPost at this
    rw [D.l1.2.2] at this
    exact this)
  have HL3 : RowKit.Hid (∀ (v : Sl) w', Reads w' .u64 v.v L3 → Calls Try.prog 18 #[cv c, v.v, .bool false] w' (fun en w'' => ∃ y : Sl, en = .returned (.tuple #[y.v, .bool true]) ∧ Owned w'.heap.size w'' .i64 3 y (k0 :: tl) ∧ Below w'.heap.size w' w'')) := Lib.hid (fun v w' hr => by
    have := refList c hf false (v := v) hr D.l3.2.1
    unfold ListPost at this
    rw [D.l3.2.2] at this
    exact this)
  have hnow : ldV L3 1 / 4294967296 = (V / 4294967296 + 2) % 4294967296 := D.now
  have hnr : 0 ≤ ldV L3 1 ∧ ldV L3 1 < 18446744073709551616 := ldV_wr D.l3.2.1 _
  have HNR := Lib.hid (fun w => rUnhead (ldV L3 1) hnr w)
  have hbd : ∀ w, (Instr.build 46 #[(0, .int .i64 10)]).run Try.prog w = .ok (wv ({ wz with p := ({ pz with ln := skLn false 10 } : Pl) } : Wk)) w := fun w => run_build w _ _ _ (by kernel_rfl)
  have hbe : ∀ w, (Instr.build 46 #[(0, .int .i64 13), (8, .int .i64 (k0 + 1)), (9, .int .i64 (k0 + 1))]).run Try.prog w = .ok (wv ({ wz with p := ({ pz with ln := skLn false 13, k := k0 + 1, i := k0 + 1 } : Pl) } : Wk)) w := fun w => run_build w _ _ _ (by kernel_rfl)
  have HM1 := Lib.hid hm1
  have HM3 := Lib.hid hm3
  have HNW := Lib.hid hnow
  clear hl hL hm hc hV h h3 hs hr D hm1 hm2 hm3 hnow hnr
  have C0 := Bk.new w (ccM c) 24
  have hw0 : Below w.heap.size w (w.alloc (.cells (ccM c) 24)) := (Below.refl _ _).alloc (Nat.le_refl _) _
  go_enter Try.func4, Try.ntmps4
  go_wp2_with fail
  refine (awake6 _).mono ?_
  rintro en w1 ⟨rfl, hb1⟩
  have C1 := C0.keep hb1
  have hw1 := hw0.trans (hb1.mono hw0.size)
  clear C0 hw0 hb1
  go_wp2_with (refine wpList_load_row rfl 24 _ rfl w.heap.size rfl _ (ccM c) (0, 0) _ (by exact C1) Try.underlying24 rfl (by kernel_rfl) ?_)
  refine (HB.out hw1).mono ?_
  rintro en w2 ⟨g, gl, cp, g2, gl2, cp2, rfl, B2⟩
  have M2 := MemAt.base B2.M (B' := w.heap.size) hw1.size
  have lc1 := C1.lt
  have n1 := B2.M.g0
  have n2 := B2.M.gl0
  have C2 := C1.keep B2.below
  have hw2 := hw1.trans (B2.below.mono hw1.size)
  clear B2 C1 hw1
  go_wp2_with (refine wpList_load_row rfl 24 _ rfl w.heap.size rfl _ (ccM c) (0, 0) _ (by exact C2) Try.underlying24 rfl (by kernel_rfl) ?_)
  have HLS := HRL.out _ hw2
  refine HLS.mono ?_
  rintro en w3 ⟨y, rfl, OY, hb3⟩
  have C3 := C2.keep hb3
  have M3 := M2.keep hb3
  have hw3 := hw2.trans (hb3.mono hw2.size)
  have lt3 := M3.lt
  have RY := OY.reads
  have by0 := own_block OY
  have lm2 := M2.lt
  clear C2 M2 hw2 hb3 HLS OY
  have hq := (hw3.cell (p := ⟨b0, off + 1, none⟩) hb0).trans (HC.out 1 hn2)
  rw [HV.out] at hq
  have hn1 : (1 : Int) < (n : Int) := by omega
  go_wp2_with fail
  refine (rUnhead V HVR.out _).mono ?_
  rintro en u4 ⟨rfl, hb4⟩
  have C4 := C3.keep hb4
  have M4 := M3.keep hb4
  have hw4 := hw3.trans (hb4.mono hw3.size)
  have RY4 := RY.keep hb4
  have sz4 := hb4.size
  have Z4 := Bk.new u4 (wc wz) 46
  have X5 := boxed_bk u4 ({ wz with p := ({ pz with ln := skLn false 10 } : Pl) } : Wk)
  have bb := boxed_below u4 ({ wz with p := ({ pz with ln := skLn false 10 } : Pl) } : Wk)
  have C5 := C4.keep bb
  have M5 := M4.keep bb
  have hw5 := hw4.trans (bb.mono hw4.size)
  have RY5 := RY4.keep bb
  obtain ⟨u5, hu5⟩ : ∃ u, u = (u4.alloc (.cells (wc wz) 46)).setRow u4.heap.size (wc ({ wz with p := ({ pz with ln := skLn false 10 } : Pl) } : Wk)) := ⟨_, rfl⟩
  rw [← hu5] at X5 C5 M5 hw5 RY5
  have E5 : Skw w c g gl cp u4.heap.size y (k0 :: tl) _ L ({ wz with p := ({ pz with ln := skLn false 10 } : Pl) } : Wk) u5 := ⟨C5, M5, X5, RY5, hw5, by omega, by omega, by omega, by omega, by have := C4.lt; omega, .inr fun d hd => by have := by0 d hd; omega, .inr fun d hd => by have := by0 d hd; omega, .inr fun d hd => by have := by0 d hd; omega⟩
  clear bb C3 hw3 M3 C4 hw4 M4 C5 hw5 M5 RY RY4 RY5 hq hb4 X5 by0
  go_wp2_with (first | ((with_reducible refine wpList_alloc_wz rfl rfl ?_)) | ((refine wpList_store_row rfl 46 _ _ rfl (u4.heap.size) (wc ({ wz with p := ({ pz with ln := skLn false 10 } : Pl) } : Wk)) rfl rfl _ _ (by exact Z4) (by kernel_rfl) (by kernel_rfl) (by kernel_rfl) ?_); rw [← hu5]; clear hu5 Z4))
  refine wp_loop_rounds 4 ?_
  rw [rounds_succ]
  have HS6 := Lib.hid (H10.out _ _ _ _ _ E5.M)
  go_wp2_with (refine wpList_load_row rfl 46 _ rfl (u4.heap.size) rfl _ (wc ({ wz with p := ({ pz with ln := skLn false 10 } : Pl) } : Wk)) (0, 0) _ (by exact E5.X) Try.underlying46 rfl (by kernel_rfl) ?_)
  refine HS6.out.mono ?_
  rintro en u6 ⟨s6, rfl, A6, M6, T6⟩
  have X6 := T6.bk E5.X E5.n3 E5.n4
  have E6 := E5.step M6 T6 s6
  have lx6 := E5.X.lt
  have Ar6 := A6.setRow (g := u4.heap.size) lx6 (wc s6)
  obtain ⟨v6, hv6⟩ : ∃ u, u = u6.setRow u4.heap.size (wc s6) := ⟨_, rfl⟩
  rw [← hv6] at E6 Ar6
  have hp6 := Ar6.p
  have L6 := Ar6.lies
  clear A6 M6 T6 Ar6 HS6 E5
  go_wp2_with ((refine wpList_store_row rfl 46 _ _ rfl (u4.heap.size) (wc s6) rfl rfl _ _ (by exact X6) (by kernel_rfl) (by kernel_rfl) (by kernel_rfl) ?_); rw [← hv6]; clear hv6 X6)
  rw [rounds_succ]
  have HS7 := Lib.hid (H11.out _ _ _ _ _ E6.M _ L6)
  go_wp2_with (refine wpList_load_row rfl 46 _ rfl (u4.heap.size) rfl _ (wc s6) (0, 0) _ (by exact E6.X) Try.underlying46 rfl (by kernel_rfl) ?_)
  refine HS7.out.mono ?_
  rintro en u7 ⟨s7, rfl, A7, M7, T7⟩
  have X7 := T7.bk E6.X E6.n3 E6.n4
  have E7 := E6.step M7 T7 s7
  have lx7 := E6.X.lt
  have Ar7 := A7.setRow (g := u4.heap.size) lx7 (wc s7)
  obtain ⟨v7, hv7⟩ : ∃ u, u = u7.setRow u4.heap.size (wc s7) := ⟨_, rfl⟩
  rw [← hv7] at E7 Ar7
  have hp7 := Ar7.p
  have L7 := Ar7.lies
  clear A7 M7 T7 Ar7 HS7 E6
  go_wp2_with ((refine wpList_store_row rfl 46 _ _ rfl (u4.heap.size) (wc s7) rfl rfl _ _ (by exact X7) (by kernel_rfl) (by kernel_rfl) (by kernel_rfl) ?_); rw [← hv7]; clear hv7 X7)
  rw [rounds_succ]
  have HS8 := Lib.hid (H12.out _ _ _ _ _ E7.M _ L7)
  go_wp2_with (refine wpList_load_row rfl 46 _ rfl (u4.heap.size) rfl _ (wc s7) (0, 0) _ (by exact E7.X) Try.underlying46 rfl (by kernel_rfl) ?_)
  refine HS8.out.mono ?_
  rintro en u8 ⟨s8, rfl, A8, M8, T8⟩
  have X8 := T8.bk E7.X E7.n3 E7.n4
  have E8 := E7.step M8 T8 s8
  have lx8 := E7.X.lt
  have Ar8 := A8.setRow (g := u4.heap.size) lx8 (wc s8)
  obtain ⟨v8, hv8⟩ : ∃ u, u = u8.setRow u4.heap.size (wc s8) := ⟨_, rfl⟩
  rw [← hv8] at E8 Ar8
  have hp8 := Ar8.p
  have L8 := Ar8.lies
  clear A8 M8 T8 Ar8 HS8 E7
  go_wp2_with ((refine wpList_store_row rfl 46 _ _ rfl (u4.heap.size) (wc s8) rfl rfl _ _ (by exact X8) (by kernel_rfl) (by kernel_rfl) (by kernel_rfl) ?_); rw [← hv8]; clear hv8 X8)
  rw [rounds_succ]
  have hyl := reads_len E8.R
  have t0 : ((y.len : Int) == 0) = false := by rw [hyl]; simp; omega
  go_wp2
  have hS0 : Below v8.heap.size v8 v8.drew := Below.drew (Below.refl _ _)
  refine wp_region_held_drew (S := fun w' => Below v8.heap.size v8 w') (by kernel_rfl) hS0 (fun hHeld => ?_)
  clear hS0
  generalize v8.drew = z0 at *
  refine wpAnyH_take (i := 0) (oi := _) (v := cv c) rfl (by kernel_rfl) (by kernel_rfl) (by kernel_rfl) (fun _ _ _ h => h) (Or.inl ⟨by rfl, fun w' hSw => by have xx := (E8.C.keep hSw).cells; go_simp⟩) hHeld ?_
  try simp only [Act.put, List.getElem_toArray, List.getElem_cons_succ, List.getElem_cons_zero, List.setIfInBounds_toArray, List.set_cons_succ, List.set_cons_zero]
  refine wpAnyH_take (i := 1) (oi := _) (v := .pointer (some ⟨g, 0, none⟩)) rfl (by kernel_rfl) (by kernel_rfl) (by kernel_rfl) (fun _ _ _ h => h) (Or.inl ⟨by rfl, fun w' hSw => by go_simp⟩) hHeld ?_
  try simp only [Act.put, List.getElem_toArray, List.getElem_cons_succ, List.getElem_cons_zero, List.setIfInBounds_toArray, List.set_cons_succ, List.set_cons_zero]
  refine wpAnyH_take (i := 3) (oi := _) (v := .bool false) rfl (by kernel_rfl) (by kernel_rfl) (by kernel_rfl) (fun _ _ _ h => h) (Or.inl ⟨by rfl, fun w' hSw => by go_simp⟩) hHeld ?_
  try simp only [Act.put, List.getElem_toArray, List.getElem_cons_succ, List.getElem_cons_zero, List.setIfInBounds_toArray, List.set_cons_succ, List.set_cons_zero]
  refine wpAnyH_ready (rs := [2]) (by kernel_rfl) (by simp) ?_
  refine AllReadyH.cons (o := _) rfl (fun K hK => ?_) AllReadyH.nil
  go_simp
  refine (all_in (E8.M.keep hHeld) HM1.out).mono ?_
  rintro en z1 ⟨ya, rfl, hya, hb⟩
  have hHeld' := hHeld.trans (hb.mono hHeld.size)
  refine hK.out _ _ hHeld' (fun hHeld => ?_)
  clear hK K hHeld'
  try simp only [Act.put, List.getElem_toArray, List.getElem_cons_succ, List.getElem_cons_zero, List.setIfInBounds_toArray, List.set_cons_succ, List.set_cons_zero]
  have rd1 := Reads.of_own hya rfl
  clear hb hya
  have HIN := Lib.hid (HL1.out _ _ rd1)
  clear rd1
  refine wpAnyH_ready (rs := [4]) (by kernel_rfl) (by simp) ?_
  refine AllReadyH.cons (o := _) rfl (fun K hK => ?_) AllReadyH.nil
  go_simp
  refine (HIN.out).mono ?_
  rintro en z2 ⟨y8, rfl, O8, hb⟩
  have hHeld' := hHeld.trans (hb.mono hHeld.size)
  have R8 := O8.reads
  refine hK.out _ _ hHeld' (fun hHeld => ?_)
  clear hK K hHeld' HIN O8
  try simp only [Act.put, List.getElem_toArray, List.getElem_cons_succ, List.getElem_cons_zero, List.setIfInBounds_toArray, List.set_cons_succ, List.set_cons_zero]
  clear hb
  refine wpAnyH_take (i := 5) (oi := _) (v := .tuple #[.slice y8.ad y8.len y8.cap, .bool true]) rfl (by kernel_rfl) (by kernel_rfl) (by kernel_rfl) (fun _ _ _ h => h) (Or.inl ⟨by rfl, fun w' hSw => by go_simp⟩) hHeld ?_
  try simp only [Act.put, List.getElem_toArray, List.getElem_cons_succ, List.getElem_cons_zero, List.setIfInBounds_toArray, List.set_cons_succ, List.set_cons_zero]
  refine wpAnyH_take (i := 6) (oi := _) (v := .slice y8.ad y8.len y8.cap) rfl (by kernel_rfl) (by kernel_rfl) (by kernel_rfl) (fun _ _ _ h => h) (Or.inl ⟨by rfl, fun w' hSw => by go_simp⟩) hHeld ?_
  try simp only [Act.put, List.getElem_toArray, List.getElem_cons_succ, List.getElem_cons_zero, List.setIfInBounds_toArray, List.set_cons_succ, List.set_cons_zero]
  refine wpAnyH_take (i := 7) (oi := _) (v := .bool true) rfl (by kernel_rfl) (by kernel_rfl) (by kernel_rfl) (fun _ _ _ h => h) (Or.inl ⟨by rfl, fun w' hSw => by go_simp⟩) hHeld ?_
  try simp only [Act.put, List.getElem_toArray, List.getElem_cons_succ, List.getElem_cons_zero, List.setIfInBounds_toArray, List.set_cons_succ, List.set_cons_zero]
  refine wpAnyH_take (i := 8) (oi := _) (v := .slice y8.ad y8.len y8.cap) rfl (by kernel_rfl) (by kernel_rfl) (by kernel_rfl) (fun _ _ _ h => h) (Or.inl ⟨by rfl, fun w' hSw => by go_simp⟩) hHeld ?_
  try simp only [Act.put, List.getElem_toArray, List.getElem_cons_succ, List.getElem_cons_zero, List.setIfInBounds_toArray, List.set_cons_succ, List.set_cons_zero]
  refine wpAnyH_take (i := 9) (oi := _) (v := .bool true) rfl (by kernel_rfl) (by kernel_rfl) (by kernel_rfl) (fun _ _ _ h => h) (Or.inl ⟨by rfl, fun w' hSw => by go_simp⟩) hHeld ?_
  try simp only [Act.put, List.getElem_toArray, List.getElem_cons_succ, List.getElem_cons_zero, List.setIfInBounds_toArray, List.set_cons_succ, List.set_cons_zero]
  refine wpAnyH_done (by kernel_rfl) ?_ _
  have E9 := E8.keep hHeld
  clear hHeld E8
  obtain ⟨by_, oy, hyad, hyc⟩ := reads_at E9.R (i := 0) (by simp)
  have hyl2 : y.len = tl.length + 1 := by rw [hyl]; rfl
  have hle := reads_le E9.R
  unfold maxLen at hle
  obtain ⟨yad, yle, yca⟩ := y
  simp only at hyad hyl2 hle t0
  subst hyad
  subst hyl2
  have cH : z2.cell? ⟨u4.heap.size, 23, none⟩ = some (.int .u64 (k0 + 1)) := by rw [E9.X.cells, f23, hp8]
  have lH : u4.heap.size < z2.heap.size := E9.X.lt
  have cL : z2.cell? ⟨by_, oy, none⟩ = some (.int .i64 k0) := hyc
  have RT : Reads z2 .i64 (.slice (if yca = 1 then some ⟨by_, oy, none⟩ else some ⟨by_, oy + 1, none⟩) tl.length (yca - 1)) tl := reads_tail2 E9.R
  have lY := reads_block E9.R
  have hk0 : (0 : Int) < ((tl.length + 1 : Nat) : Int) := by omega
  clear hp6 hp7 hp8 L6 L7 L8 hyc hyl
  simp only [Sl.v]
  go_wp2
  refine wp_region_grown (by kernel_rfl) (by kernel_rfl) ?_
  have hg := @gcell
  repeat (go_big_quiet_step (exact ints_grown R8 RT _))
  refine wpQuiet_nil ?_
  rintro w10 ⟨⟨_, hb10⟩, rfl⟩
  clear hg
  have E10 := E9.keep hb10
  have cL10 := (hb10.cell (p := ⟨by_, oy, none⟩) lY).trans cL
  have lY10 : by_ < w10.heap.size := Nat.lt_of_lt_of_le lY hb10.size
  have lH10 : u4.heap.size < w10.heap.size := E10.X.lt
  clear cH lH cL lY RT R8 E9 hb10
  generalize (if yca = 1 then (some ⟨by_, oy, none⟩ : Option Addr) else some ⟨by_, oy + 1, none⟩) = zad at *
  go_wp2
  refine wp_region_grown_tail 11 (by kernel_rfl) (by kernel_rfl) ?_
  simp only [List.take_succ_cons, List.take_zero, List.drop_succ_cons, List.drop_zero]
  have hg := @gcell
  repeat (go_big_quiet_step (fail))
  refine wpQuiet_nil ?_
  rintro w11 ⟨⟨_, hb11⟩, rfl⟩
  clear hg
  have E11 := E10.keep hb11
  have E12 := E11.row ({ wz with p := ({ pz with ln := skLn false 13, k := k0 + 1, i := k0 + 1 } : Pl) } : Wk)
  obtain ⟨w12, hw12⟩ : ∃ u, u = w11.setRow u4.heap.size (wc ({ wz with p := ({ pz with ln := skLn false 13, k := k0 + 1, i := k0 + 1 } : Pl) } : Wk)) := ⟨_, rfl⟩
  rw [← hw12] at E12
  have X11 := E11.X
  clear cL10 lY10 lH10 E10 hb11
  go_wp2_with ((refine wpList_store_row rfl 46 _ _ rfl (u4.heap.size) (wc ({ wz with p := ({ pz with ln := skLn false 13, k := k0 + 1, i := k0 + 1 } : Pl) } : Wk)) rfl rfl _ _ (by exact X11) (by kernel_rfl) (by kernel_rfl) (by kernel_rfl) ?_); rw [← hw12]; clear hw12 X11 E11)
  refine wp_loop_rounds 4 ?_
  rw [rounds_succ]
  have HS13 := Lib.hid (H13.out _ _ _ _ _ E12.M)
  go_wp2_with (refine wpList_load_row rfl 46 _ rfl (u4.heap.size) rfl _ (wc ({ wz with p := ({ pz with ln := skLn false 13, k := k0 + 1, i := k0 + 1 } : Pl) } : Wk)) (0, 0) _ (by exact E12.X) Try.underlying46 rfl (by kernel_rfl) ?_)
  refine HS13.out.mono ?_
  rintro en u13 ⟨s13, rfl, A13, M13, T13⟩
  have X13 := T13.bk E12.X E12.n3 E12.n4
  have E13 := E12.step M13 T13 s13
  have lx13 := E12.X.lt
  have Ar13 := A13.setRow (g := u4.heap.size) lx13 (wc s13)
  obtain ⟨v13, hv13⟩ : ∃ u, u = u13.setRow u4.heap.size (wc s13) := ⟨_, rfl⟩
  rw [← hv13] at E13 Ar13
  have hp13 := Ar13.p
  have L13 := Ar13.lies
  clear A13 M13 T13 Ar13 HS13 E12
  go_wp2_with ((refine wpList_store_row rfl 46 _ _ rfl (u4.heap.size) (wc s13) rfl rfl _ _ (by exact X13) (by kernel_rfl) (by kernel_rfl) (by kernel_rfl) ?_); rw [← hv13]; clear hv13 X13)
  rw [rounds_succ]
  have HS14 := Lib.hid (H14.out _ _ _ _ _ E13.M _ L13)
  go_wp2_with (refine wpList_load_row rfl 46 _ rfl (u4.heap.size) rfl _ (wc s13) (0, 0) _ (by exact E13.X) Try.underlying46 rfl (by kernel_rfl) ?_)
  refine HS14.out.mono ?_
  rintro en u14 ⟨s14, rfl, A14, M14, T14⟩
  have X14 := T14.bk E13.X E13.n3 E13.n4
  have E14 := E13.step M14 T14 s14
  have lx14 := E13.X.lt
  have Ar14 := A14.setRow (g := u4.heap.size) lx14 (wc s14)
  obtain ⟨v14, hv14⟩ : ∃ u, u = u14.setRow u4.heap.size (wc s14) := ⟨_, rfl⟩
  rw [← hv14] at E14 Ar14
  have hp14 := Ar14.p
  have L14 := Ar14.lies
  clear A14 M14 T14 Ar14 HS14 E13
  go_wp2_with ((refine wpList_store_row rfl 46 _ _ rfl (u4.heap.size) (wc s14) rfl rfl _ _ (by exact X14) (by kernel_rfl) (by kernel_rfl) (by kernel_rfl) ?_); rw [← hv14]; clear hv14 X14)
  rw [rounds_succ]
  have HS15 := Lib.hid (H15.out _ _ _ _ _ E14.M _ L14)
  go_wp2_with (refine wpList_load_row rfl 46 _ rfl (u4.heap.size) rfl _ (wc s14) (0, 0) _ (by exact E14.X) Try.underlying46 rfl (by kernel_rfl) ?_)
  refine HS15.out.mono ?_
  rintro en u15 ⟨s15, rfl, A15, M15, T15⟩
  have X15 := T15.bk E14.X E14.n3 E14.n4
  have E15 := E14.step M15 T15 s15
  have lx15 := E14.X.lt
  have Ar15 := A15.setRow (g := u4.heap.size) lx15 (wc s15)
  obtain ⟨v15, hv15⟩ : ∃ u, u = u15.setRow u4.heap.size (wc s15) := ⟨_, rfl⟩
  rw [← hv15] at E15 Ar15
  have hp15 := Ar15.p
  have L15 := Ar15.lies
  clear A15 M15 T15 Ar15 HS15 E14
  go_wp2_with ((refine wpList_store_row rfl 46 _ _ rfl (u4.heap.size) (wc s15) rfl rfl _ _ (by exact X15) (by kernel_rfl) (by kernel_rfl) (by kernel_rfl) ?_); rw [← hv15]; clear hv15 X15)
  rw [rounds_succ]
  go_wp2
  have hS0 : Below v15.heap.size v15 v15.drew := Below.drew (Below.refl _ _)
  refine wp_region_held_drew (S := fun w' => Below v15.heap.size v15 w') (by kernel_rfl) hS0 (fun hHeld => ?_)
  clear hS0
  generalize v15.drew = q0 at *
  refine wpAnyH_take (i := 0) (oi := _) (v := cv c) rfl (by kernel_rfl) (by kernel_rfl) (by kernel_rfl) (fun _ _ _ h => h) (Or.inl ⟨by rfl, fun w' hSw => by have xx := (E15.C.keep hSw).cells; go_simp⟩) hHeld ?_
  try simp only [Act.put, List.getElem_toArray, List.getElem_cons_succ, List.getElem_cons_zero, List.setIfInBounds_toArray, List.set_cons_succ, List.set_cons_zero]
  refine wpAnyH_take (i := 1) (oi := _) (v := .pointer (some ⟨g, 0, none⟩)) rfl (by kernel_rfl) (by kernel_rfl) (by kernel_rfl) (fun _ _ _ h => h) (Or.inl ⟨by rfl, fun w' hSw => by go_simp⟩) hHeld ?_
  try simp only [Act.put, List.getElem_toArray, List.getElem_cons_succ, List.getElem_cons_zero, List.setIfInBounds_toArray, List.set_cons_succ, List.set_cons_zero]
  refine wpAnyH_take (i := 3) (oi := _) (v := .bool false) rfl (by kernel_rfl) (by kernel_rfl) (by kernel_rfl) (fun _ _ _ h => h) (Or.inl ⟨by rfl, fun w' hSw => by go_simp⟩) hHeld ?_
  try simp only [Act.put, List.getElem_toArray, List.getElem_cons_succ, List.getElem_cons_zero, List.setIfInBounds_toArray, List.set_cons_succ, List.set_cons_zero]
  refine wpAnyH_ready (rs := [2]) (by kernel_rfl) (by simp) ?_
  refine AllReadyH.cons (o := _) rfl (fun K hK => ?_) AllReadyH.nil
  go_simp
  refine (all_in (E15.M.keep hHeld) HM3.out).mono ?_
  rintro en q1 ⟨ya, rfl, hya, hb⟩
  have hHeld' := hHeld.trans (hb.mono hHeld.size)
  refine hK.out _ _ hHeld' (fun hHeld => ?_)
  clear hK K hHeld'
  try simp only [Act.put, List.getElem_toArray, List.getElem_cons_succ, List.getElem_cons_zero, List.setIfInBounds_toArray, List.set_cons_succ, List.set_cons_zero]
  have rd1 := Reads.of_own hya rfl
  clear hb hya
  have HIN := Lib.hid (HL3.out _ _ rd1)
  clear rd1
  refine wpAnyH_ready (rs := [4]) (by kernel_rfl) (by simp) ?_
  refine AllReadyH.cons (o := _) rfl (fun K hK => ?_) AllReadyH.nil
  go_simp
  refine (HIN.out).mono ?_
  rintro en q2 ⟨y15, rfl, O15, hb⟩
  have hHeld' := hHeld.trans (hb.mono hHeld.size)
  have R15 := O15.reads
  refine hK.out _ _ hHeld' (fun hHeld => ?_)
  clear hK K hHeld' HIN O15
  try simp only [Act.put, List.getElem_toArray, List.getElem_cons_succ, List.getElem_cons_zero, List.setIfInBounds_toArray, List.set_cons_succ, List.set_cons_zero]
  clear hb
  refine wpAnyH_take (i := 5) (oi := _) (v := .tuple #[.slice y15.ad y15.len y15.cap, .bool true]) rfl (by kernel_rfl) (by kernel_rfl) (by kernel_rfl) (fun _ _ _ h => h) (Or.inl ⟨by rfl, fun w' hSw => by go_simp⟩) hHeld ?_
  try simp only [Act.put, List.getElem_toArray, List.getElem_cons_succ, List.getElem_cons_zero, List.setIfInBounds_toArray, List.set_cons_succ, List.set_cons_zero]
  refine wpAnyH_take (i := 6) (oi := _) (v := .slice y15.ad y15.len y15.cap) rfl (by kernel_rfl) (by kernel_rfl) (by kernel_rfl) (fun _ _ _ h => h) (Or.inl ⟨by rfl, fun w' hSw => by go_simp⟩) hHeld ?_
  try simp only [Act.put, List.getElem_toArray, List.getElem_cons_succ, List.getElem_cons_zero, List.setIfInBounds_toArray, List.set_cons_succ, List.set_cons_zero]
  refine wpAnyH_take (i := 7) (oi := _) (v := .bool true) rfl (by kernel_rfl) (by kernel_rfl) (by kernel_rfl) (fun _ _ _ h => h) (Or.inl ⟨by rfl, fun w' hSw => by go_simp⟩) hHeld ?_
  try simp only [Act.put, List.getElem_toArray, List.getElem_cons_succ, List.getElem_cons_zero, List.setIfInBounds_toArray, List.set_cons_succ, List.set_cons_zero]
  refine wpAnyH_take (i := 8) (oi := _) (v := .slice y15.ad y15.len y15.cap) rfl (by kernel_rfl) (by kernel_rfl) (by kernel_rfl) (fun _ _ _ h => h) (Or.inl ⟨by rfl, fun w' hSw => by go_simp⟩) hHeld ?_
  try simp only [Act.put, List.getElem_toArray, List.getElem_cons_succ, List.getElem_cons_zero, List.setIfInBounds_toArray, List.set_cons_succ, List.set_cons_zero]
  refine wpAnyH_take (i := 9) (oi := _) (v := .bool true) rfl (by kernel_rfl) (by kernel_rfl) (by kernel_rfl) (fun _ _ _ h => h) (Or.inl ⟨by rfl, fun w' hSw => by go_simp⟩) hHeld ?_
  try simp only [Act.put, List.getElem_toArray, List.getElem_cons_succ, List.getElem_cons_zero, List.setIfInBounds_toArray, List.set_cons_succ, List.set_cons_zero]
  refine wpAnyH_done (by kernel_rfl) ?_ _
  have E16 := E15.keep hHeld
  clear hHeld E15
  go_wp2_with fail
  refine (peek_any E16.M HM3.out 1).mono ?_
  rintro en w17 ⟨rfl, rfl⟩
  go_wp2_with fail
  refine (HNR.out _).mono ?_
  rintro en w18 ⟨rfl, hb18⟩
  have E18 := E16.keep hb18
  have R18 := R15.keep hb18
  have RY := E18.R
  simp only [Sl.v] at RY
  rw [HNW.out]
  have b1 : ((V / 4294967296 + 2) % 4294967296 == (V / 4294967296 + 2) % 4294967296) = true := by simp
  have b2 : ((V / 4294967296 + 2) % 4294967296 == IntKind.u64.wrap (V / 4294967296 + 2) % 4294967296) = true := by
    have hw9 : IntKind.u64.wrap (V / 4294967296 + 2) = V / 4294967296 + 2 := by rw [IntKind.wrap_u64]; omega
    rw [hw9]; simp
  clear hp13 hp14 hp15 L13 L14 L15 E16 hb18
  go_wp2_with fail
  refine (ints_true R18 RY).mono ?_
  rintro en w19 ⟨rfl, hb19⟩
  have E19 := E18.keep hb19
  go_wp2
  go_ret
  exact ⟨rfl, E19.hb⟩
set_option maxRecDepth 100000 in
set_option maxHeartbeats 16000000 in
theorem stk_none_true (c : Cfg) (hf : c.Wf) (n cap b0 off : Nat) (L : List Int) (hm : L.length ≤ 1000) (hL : WR L) (hln : L.length = n) (w : World) (hb0 : b0 < w.heap.size) (hc : ∀ i (hi : i < L.length), w.cell? ⟨b0, off + i, none⟩ = some (.int .u64 L[i])) (hr : Reads w .u64 (.slice (some ⟨b0, off, none⟩) n cap) L) (HB : RowKit.Hid (∀ {w0 : World}, Below w.heap.size w w0 → Calls Try.prog 20 #[cv c, .slice (some ⟨b0, off, none⟩) n cap] w0 (BothYes c L w0))) (hl : listR c L true = none) : Calls Try.prog 4 #[cv c, .slice (some ⟨b0, off, none⟩) n cap, .bool true] w fun e w' => e = .returned (.bool true) ∧ Below w.heap.size w w' := by
  have f23 : ∀ s : Wk, (wc s)[23]? = some (.int .u64 s.p.h) := fun _ => rfl
  have HRL : RowKit.Hid (∀ w', Below w.heap.size w w' → Calls Try.prog 18 #[cv c, .slice (some ⟨b0, off, none⟩) n cap, .bool true] w' (ListPost c L true w')) := Lib.hid (fun w' hb => refList c hf true (v := ⟨some ⟨b0, off, none⟩, n, cap⟩) (hr.keep hb) hL)
  unfold ListPost at HRL
  rw [hl] at HRL
  clear hl hr
  have C0 := Bk.new w (ccM c) 24
  have hw0 : Below w.heap.size w (w.alloc (.cells (ccM c) 24)) := (Below.refl _ _).alloc (Nat.le_refl _) _
  go_enter Try.func4, Try.ntmps4
  go_wp2_with fail
  refine (awake6 _).mono ?_
  rintro en w1 ⟨rfl, hb1⟩
  have C1 := C0.keep hb1
  have hw1 := hw0.trans (hb1.mono hw0.size)
  clear C0 hw0 hb1
  go_wp2_with (refine wpList_load_row rfl 24 _ rfl w.heap.size rfl _ (ccM c) (0, 0) _ (by exact C1) Try.underlying24 rfl (by kernel_rfl) ?_)
  refine (HB.out hw1).mono ?_
  rintro en w2 ⟨g, gl, cp, g2, gl2, cp2, rfl, B2⟩
  have M2 := MemAt.base B2.M (B' := w.heap.size) hw1.size
  have lc1 := C1.lt
  have n1 := B2.M.g0
  have n2 := B2.M.gl0
  have C2 := C1.keep B2.below
  have hw2 := hw1.trans (B2.below.mono hw1.size)
  clear B2 C1 hw1
  go_wp2_with (refine wpList_load_row rfl 24 _ rfl w.heap.size rfl _ (ccM c) (0, 0) _ (by exact C2) Try.underlying24 rfl (by kernel_rfl) ?_)
  have HLS := HRL.out _ hw2
  refine HLS.mono ?_
  rintro en w3 ⟨y, rfl, OY, hb3⟩
  have C3 := C2.keep hb3
  have M3 := M2.keep hb3
  have hw3 := hw2.trans (hb3.mono hw2.size)
  have lt3 := M3.lt
  have RY := OY.reads
  have by0 := own_block OY
  have lm2 := M2.lt
  clear C2 M2 hw2 hb3 HLS OY
  go_wp2
  go_ret
  exact ⟨rfl, hw3⟩
set_option maxRecDepth 100000 in
set_option maxHeartbeats 16000000 in
theorem stk_empty_true (c : Cfg) (hf : c.Wf) (n cap b0 off : Nat) (L : List Int) (hm : L.length ≤ 1000) (hL : WR L) (hln : L.length = n) (w : World) (hb0 : b0 < w.heap.size) (hc : ∀ i (hi : i < L.length), w.cell? ⟨b0, off + i, none⟩ = some (.int .u64 L[i])) (hr : Reads w .u64 (.slice (some ⟨b0, off, none⟩) n cap) L) (HB : RowKit.Hid (∀ {w0 : World}, Below w.heap.size w w0 → Calls Try.prog 20 #[cv c, .slice (some ⟨b0, off, none⟩) n cap] w0 (BothYes c L w0))) (h : chk c = 0) (hs : (L.length : Int) = siz c) (hl : listR c L true = some []) : Calls Try.prog 4 #[cv c, .slice (some ⟨b0, off, none⟩) n cap, .bool true] w fun e w' => e = .returned (.bool true) ∧ Below w.heap.size w w' := by
  have f23 : ∀ s : Wk, (wc s)[23]? = some (.int .u64 s.p.h) := fun _ => rfl
  have HRL : RowKit.Hid (∀ w', Below w.heap.size w w' → Calls Try.prog 18 #[cv c, .slice (some ⟨b0, off, none⟩) n cap, .bool true] w' (ListPost c L true w')) := Lib.hid (fun w' hb => refList c hf true (v := ⟨some ⟨b0, off, none⟩, n, cap⟩) (hr.keep hb) hL)
  unfold ListPost at HRL
  rw [hl] at HRL
  have h3 := siz_ge h
  have hn2 : 2 < L.length := by omega
  have HC := Lib.hid hc
  obtain ⟨V, hV⟩ : ∃ V, V = L[2] := ⟨_, rfl⟩
  have HV := Lib.hid hV.symm
  have hvr : 0 ≤ V ∧ V < 18446744073709551616 := by rw [hV]; exact hL _ (List.getElem_mem hn2)
  have HVR := Lib.hid hvr
  have hVg : L.getD (hdN true) 0 = V := by rw [hV, List.getD_eq_getElem?_getD, show hdN true = 2 from rfl, List.getElem?_eq_getElem hn2]; rfl
  have hVl : ldV L (skH true) = V := by rw [skH_eq, ldV_at (by exact hn2), ← hVg, List.getD_eq_getElem?_getD, List.getElem?_eq_getElem (by exact hn2)]; rfl
  have hz := list_nil h hs hl
  rw [hVg] at hz
  have H10 := Lib.hid (fun (w' : World) g gl cp a (M : MemAt w.heap.size w' g c a gl cp L) => stk10z (c := c) (a := a) (e := true) (by rw [hVl]; exact hz) ▸ stackStepAny M hf hm hL ({ wz with p := ({ pz with ln := skLn true 10 } : Pl) } : Wk) { zS with p := ({ pz with ln := skLn true 10 } : Pl) } (few_z6 _) (lies_z6 _ _) (prS rfl z0s z0s z0s rfl rfl rfl))
  have hbd : ∀ w, (Instr.build 46 #[(0, .int .i64 20)]).run Try.prog w = .ok (wv ({ wz with p := ({ pz with ln := skLn true 10 } : Pl) } : Wk)) w := fun w => run_build w _ _ _ (by kernel_rfl)
  have HRR := Lib.hid hr
  have HM := Lib.hid hm
  rw [hVl] at H10
  clear hl hL hm hc hV hvr hVg hVl hz h h3 hs hr
  have C0 := Bk.new w (ccM c) 24
  have hw0 : Below w.heap.size w (w.alloc (.cells (ccM c) 24)) := (Below.refl _ _).alloc (Nat.le_refl _) _
  go_enter Try.func4, Try.ntmps4
  go_wp2_with fail
  refine (awake6 _).mono ?_
  rintro en w1 ⟨rfl, hb1⟩
  have C1 := C0.keep hb1
  have hw1 := hw0.trans (hb1.mono hw0.size)
  clear C0 hw0 hb1
  go_wp2_with (refine wpList_load_row rfl 24 _ rfl w.heap.size rfl _ (ccM c) (0, 0) _ (by exact C1) Try.underlying24 rfl (by kernel_rfl) ?_)
  refine (HB.out hw1).mono ?_
  rintro en w2 ⟨g, gl, cp, g2, gl2, cp2, rfl, B2⟩
  have M2 := MemAt.base B2.M (B' := w.heap.size) hw1.size
  have lc1 := C1.lt
  have n1 := B2.M.g0
  have n2 := B2.M.gl0
  have C2 := C1.keep B2.below
  have hw2 := hw1.trans (B2.below.mono hw1.size)
  clear B2 C1 hw1
  go_wp2_with (refine wpList_load_row rfl 24 _ rfl w.heap.size rfl _ (ccM c) (0, 0) _ (by exact C2) Try.underlying24 rfl (by kernel_rfl) ?_)
  have HLS := HRL.out _ hw2
  refine HLS.mono ?_
  rintro en w3 ⟨y, rfl, OY, hb3⟩
  have C3 := C2.keep hb3
  have M3 := M2.keep hb3
  have hw3 := hw2.trans (hb3.mono hw2.size)
  have lt3 := M3.lt
  have RY := OY.reads
  have by0 := own_block OY
  have lm2 := M2.lt
  clear C2 M2 hw2 hb3 HLS OY
  have hq := (hw3.cell (p := ⟨b0, off + 2, none⟩) hb0).trans (HC.out 2 hn2)
  rw [HV.out] at hq
  have hn1 : (2 : Int) < (n : Int) := by omega
  go_wp2_with fail
  refine (rUnhead V HVR.out _).mono ?_
  rintro en u4 ⟨rfl, hb4⟩
  have C4 := C3.keep hb4
  have M4 := M3.keep hb4
  have hw4 := hw3.trans (hb4.mono hw3.size)
  have RY4 := RY.keep hb4
  have sz4 := hb4.size
  have Z4 := Bk.new u4 (wc wz) 46
  have X5 := boxed_bk u4 ({ wz with p := ({ pz with ln := skLn true 10 } : Pl) } : Wk)
  have bb := boxed_below u4 ({ wz with p := ({ pz with ln := skLn true 10 } : Pl) } : Wk)
  have C5 := C4.keep bb
  have M5 := M4.keep bb
  have hw5 := hw4.trans (bb.mono hw4.size)
  have RY5 := RY4.keep bb
  obtain ⟨u5, hu5⟩ : ∃ u, u = (u4.alloc (.cells (wc wz) 46)).setRow u4.heap.size (wc ({ wz with p := ({ pz with ln := skLn true 10 } : Pl) } : Wk)) := ⟨_, rfl⟩
  rw [← hu5] at X5 C5 M5 hw5 RY5
  have E5 : Skw w c g gl cp u4.heap.size y (([] : List Int)) _ L ({ wz with p := ({ pz with ln := skLn true 10 } : Pl) } : Wk) u5 := ⟨C5, M5, X5, RY5, hw5, by omega, by omega, by omega, by omega, by have := C4.lt; omega, .inr fun d hd => by have := by0 d hd; omega, .inr fun d hd => by have := by0 d hd; omega, .inr fun d hd => by have := by0 d hd; omega⟩
  clear bb C3 hw3 M3 C4 hw4 M4 C5 hw5 M5 RY RY4 RY5 hq hb4 X5 by0
  go_wp2_with (first | ((with_reducible refine wpList_alloc_wz rfl rfl ?_)) | ((refine wpList_store_row rfl 46 _ _ rfl (u4.heap.size) (wc ({ wz with p := ({ pz with ln := skLn true 10 } : Pl) } : Wk)) rfl rfl _ _ (by exact Z4) (by kernel_rfl) (by kernel_rfl) (by kernel_rfl) ?_); rw [← hu5]; clear hu5 Z4))
  refine wp_loop_rounds 2 ?_
  rw [rounds_succ]
  have HS6 := Lib.hid (H10.out _ _ _ _ _ E5.M)
  go_wp2_with (refine wpList_load_row rfl 46 _ rfl (u4.heap.size) rfl _ (wc ({ wz with p := ({ pz with ln := skLn true 10 } : Pl) } : Wk)) (0, 0) _ (by exact E5.X) Try.underlying46 rfl (by kernel_rfl) ?_)
  refine HS6.out.mono ?_
  rintro en u6 ⟨s6, rfl, A6, M6, T6⟩
  have X6 := T6.bk E5.X E5.n3 E5.n4
  have E6 := E5.step M6 T6 s6
  have lx6 := E5.X.lt
  have Ar6 := A6.setRow (g := u4.heap.size) lx6 (wc s6)
  obtain ⟨v6, hv6⟩ : ∃ u, u = u6.setRow u4.heap.size (wc s6) := ⟨_, rfl⟩
  rw [← hv6] at E6 Ar6
  have hp6 := Ar6.p
  have L6 := Ar6.lies
  clear A6 M6 T6 Ar6 HS6 E5
  go_wp2_with ((refine wpList_store_row rfl 46 _ _ rfl (u4.heap.size) (wc s6) rfl rfl _ _ (by exact X6) (by kernel_rfl) (by kernel_rfl) (by kernel_rfl) ?_); rw [← hv6]; clear hv6 X6)
  rw [rounds_succ]
  have hyl := reads_len E6.R
  have t0 : ((y.len : Int) == 0) = true := by rw [hyl]; rfl
  go_wp2_with fail
  refine (all_in E6.M HM.out).mono ?_
  rintro en w7 ⟨ya, rfl, OA, hb7⟩
  have E7 := E6.keep hb7
  have RA := Reads.of_own OA rfl
  have RL := HRR.out.keep E7.hb
  clear OA hb7 E6
  go_wp2_with fail
  refine (same_true RA RL).mono ?_
  rintro en w8 ⟨rfl, hb8⟩
  have E8 := E7.keep hb8
  go_wp2
  go_ret
  exact ⟨rfl, E8.hb⟩
set_option maxRecDepth 100000 in
set_option maxHeartbeats 16000000 in
theorem stk_full_true (c : Cfg) (hf : c.Wf) (n cap b0 off : Nat) (L : List Int) (hm : L.length ≤ 1000) (hL : WR L) (hln : L.length = n) (w : World) (hb0 : b0 < w.heap.size) (hc : ∀ i (hi : i < L.length), w.cell? ⟨b0, off + i, none⟩ = some (.int .u64 L[i])) (hr : Reads w .u64 (.slice (some ⟨b0, off, none⟩) n cap) L) (HB : RowKit.Hid (∀ {w0 : World}, Below w.heap.size w w0 → Calls Try.prog 20 #[cv c, .slice (some ⟨b0, off, none⟩) n cap] w0 (BothYes c L w0))) (h : chk c = 0) (hs : (L.length : Int) = siz c) (k0 : Int) (tl : List Int) (hl : listR c L true = some (k0 :: tl)) : Calls Try.prog 4 #[cv c, .slice (some ⟨b0, off, none⟩) n cap, .bool true] w fun e w' => e = .returned (.bool true) ∧ Below w.heap.size w w' := by
  have f23 : ∀ s : Wk, (wc s)[23]? = some (.int .u64 s.p.h) := fun _ => rfl
  have HRL : RowKit.Hid (∀ w', Below w.heap.size w w' → Calls Try.prog 18 #[cv c, .slice (some ⟨b0, off, none⟩) n cap, .bool true] w' (ListPost c L true w')) := Lib.hid (fun w' hb => refList c hf true (v := ⟨some ⟨b0, off, none⟩, n, cap⟩) (hr.keep hb) hL)
  unfold ListPost at HRL
  rw [hl] at HRL
  obtain ⟨L1, L2, L3, V, n', W1, D⟩ := stk_data h hs hL hl
  have h3 := siz_ge h
  have hn2 : 2 < L.length := by omega
  have HC := Lib.hid hc
  have hV : L[2] = V := by have q := D.eV; rw [skH_eq, ldV_at (by exact hn2)] at q; exact q
  have HV := Lib.hid hV
  have hvr := D.rV
  have HVR := Lib.hid D.rV
  have htl : tl.length ≤ 100000 := stk_short hm h hs hl
  have hkr := D.rk
  have hk1 : 0 ≤ k0 + 1 ∧ k0 + 1 < 18446744073709551616 := by omega
  have hm1 : L1.length ≤ 1000 := by have := D.l1.1; omega
  have hm2 : L2.length ≤ 1000 := by have := D.l2.1; omega
  have hm3 : L3.length ≤ 1000 := by have := D.l3.1; omega
  have H10 := Lib.hid (fun (w' : World) g gl cp a (M : MemAt w.heap.size w' g c a gl cp L) => stk10n (c := c) (a := a) (e := true) (by rw [D.eV, D.top]; omega) ▸ stackStepAny M hf hm hL { wz with p := ({ pz with ln := skLn true 10 } : Pl) } { zS with p := ({ pz with ln := skLn true 10 } : Pl) } (few_z6 _) (lies_z6 _ _) (prS rfl z0s z0s z0s rfl rfl rfl))
  rw [D.eV, D.top] at H10
  have H11 := Lib.hid (fun (w' : World) g gl cp a (M : MemAt w.heap.size w' g c a gl cp L) (s : Wk) (hl : Lies w' s { zS with p := ({ pz with v := V, h := k0 + 1, ln := skLn true 11 } : Pl) }) => stk11 (c := c) (a := a) (e := true) V (k0 + 1) ▸ stackStepAny M hf hm hL s { zS with p := ({ pz with v := V, h := k0 + 1, ln := skLn true 11 } : Pl) } (few_z6 _) hl (prS rfl hk1 z0s hvr rfl rfl rfl))
  rw [D.en] at H11
  have H12 := Lib.hid (fun (w' : World) g gl cp a (M : MemAt w.heap.size w' g c a gl cp L) (s : Wk) (hl : Lies w' s { zS with p := ({ pz with v := V, h := k0 + 1, n := n', ln := skLn true 12 } : Pl) }) => stk12 (c := c) (a := a) (e := true) V (k0 + 1) n' D.e1.1 ▸ stackStepAny M hf hm hL s { zS with p := ({ pz with v := V, h := k0 + 1, n := n', ln := skLn true 12 } : Pl) } (few_z6 _) hl (prS rfl hk1 D.rn hvr rfl rfl rfl))
  rw [D.e1.2] at H12
  have H13 := Lib.hid (fun (w' : World) g gl cp a (M : MemAt w.heap.size w' g c a gl cp L1) => stk13 (c := c) (a := a) (e := true) (k0 + 1) ▸ stackStepAny M hf hm1 D.l1.2.1 { wz with p := ({ pz with ln := skLn true 13, k := k0 + 1, i := k0 + 1 } : Pl) } { zS with p := ({ pz with ln := skLn true 13, k := k0 + 1, i := k0 + 1 } : Pl) } (few_z6 _) (lies_z6 _ _) (prS rfl z0s z0s z0s rfl rfl rfl))
  rw [D.eW] at H13
  have H14 := Lib.hid (fun (w' : World) g gl cp a (M : MemAt w.heap.size w' g c a gl cp L1) (s : Wk) (hl : Lies w' s { zS with p := ({ pz with ln := skLn true 14, k := k0 + 1, i := k0 + 1, v := W1 } : Pl) }) => stk14 (c := c) (a := a) (e := true) (k0 + 1) W1 ▸ stackStepAny M hf hm1 D.l1.2.1 s { zS with p := ({ pz with ln := skLn true 14, k := k0 + 1, i := k0 + 1, v := W1 } : Pl) } (few_z6 _) hl (prS rfl z0s z0s D.rW rfl rfl rfl))
  rw [D.e2] at H14
  have H15 := Lib.hid (fun (w' : World) g gl cp a (M : MemAt w.heap.size w' g c a gl cp L2) (s : Wk) (hl : Lies w' s { zS with p := ({ pz with ln := skLn true 15, k := k0 + 1, i := k0 + 1, v := W1 } : Pl) }) => stk15 (c := c) (a := a) (e := true) (k0 + 1) W1 D.e3.1 ▸ stackStepAny M hf hm2 D.l2.2 s { zS with p := ({ pz with ln := skLn true 15, k := k0 + 1, i := k0 + 1, v := W1 } : Pl) } (few_z6 _) hl (prS rfl z0s z0s D.rW rfl rfl rfl))
  rw [D.e3.2] at H15
  have HL1 : RowKit.Hid (∀ (v : Sl) w', Reads w' .u64 v.v L1 → Calls Try.prog 18 #[cv c, v.v, .bool true] w' (fun en w'' => ∃ y : Sl, en = .returned (.tuple #[y.v, .bool true]) ∧ Owned w'.heap.size w'' .i64 3 y tl ∧ Below w'.heap.size w' w'')) := Lib.hid (fun v w' hr => by
    have := refList c hf true (v := v) hr D.l1.2.1
    unfold ListPost at this
    rw [D.l1.2.2] at this
    exact this)
  have HL3 : RowKit.Hid (∀ (v : Sl) w', Reads w' .u64 v.v L3 → Calls Try.prog 18 #[cv c, v.v, .bool true] w' (fun en w'' => ∃ y : Sl, en = .returned (.tuple #[y.v, .bool true]) ∧ Owned w'.heap.size w'' .i64 3 y (k0 :: tl) ∧ Below w'.heap.size w' w'')) := Lib.hid (fun v w' hr => by
    have := refList c hf true (v := v) hr D.l3.2.1
    unfold ListPost at this
    rw [D.l3.2.2] at this
    exact this)
  have hnow : ldV L3 2 / 4294967296 = (V / 4294967296 + 2) % 4294967296 := D.now
  have hnr : 0 ≤ ldV L3 2 ∧ ldV L3 2 < 18446744073709551616 := ldV_wr D.l3.2.1 _
  have HNR := Lib.hid (fun w => rUnhead (ldV L3 2) hnr w)
  have hbd : ∀ w, (Instr.build 46 #[(0, .int .i64 20)]).run Try.prog w = .ok (wv ({ wz with p := ({ pz with ln := skLn true 10 } : Pl) } : Wk)) w := fun w => run_build w _ _ _ (by kernel_rfl)
  have hbe : ∀ w, (Instr.build 46 #[(0, .int .i64 23), (8, .int .i64 (k0 + 1)), (9, .int .i64 (k0 + 1))]).run Try.prog w = .ok (wv ({ wz with p := ({ pz with ln := skLn true 13, k := k0 + 1, i := k0 + 1 } : Pl) } : Wk)) w := fun w => run_build w _ _ _ (by kernel_rfl)
  have HM1 := Lib.hid hm1
  have HM3 := Lib.hid hm3
  have HNW := Lib.hid hnow
  clear hl hL hm hc hV h h3 hs hr D hm1 hm2 hm3 hnow hnr
  have C0 := Bk.new w (ccM c) 24
  have hw0 : Below w.heap.size w (w.alloc (.cells (ccM c) 24)) := (Below.refl _ _).alloc (Nat.le_refl _) _
  go_enter Try.func4, Try.ntmps4
  go_wp2_with fail
  refine (awake6 _).mono ?_
  rintro en w1 ⟨rfl, hb1⟩
  have C1 := C0.keep hb1
  have hw1 := hw0.trans (hb1.mono hw0.size)
  clear C0 hw0 hb1
  go_wp2_with (refine wpList_load_row rfl 24 _ rfl w.heap.size rfl _ (ccM c) (0, 0) _ (by exact C1) Try.underlying24 rfl (by kernel_rfl) ?_)
  refine (HB.out hw1).mono ?_
  rintro en w2 ⟨g, gl, cp, g2, gl2, cp2, rfl, B2⟩
  have M2 := MemAt.base B2.M (B' := w.heap.size) hw1.size
  have lc1 := C1.lt
  have n1 := B2.M.g0
  have n2 := B2.M.gl0
  have C2 := C1.keep B2.below
  have hw2 := hw1.trans (B2.below.mono hw1.size)
  clear B2 C1 hw1
  go_wp2_with (refine wpList_load_row rfl 24 _ rfl w.heap.size rfl _ (ccM c) (0, 0) _ (by exact C2) Try.underlying24 rfl (by kernel_rfl) ?_)
  have HLS := HRL.out _ hw2
  refine HLS.mono ?_
  rintro en w3 ⟨y, rfl, OY, hb3⟩
  have C3 := C2.keep hb3
  have M3 := M2.keep hb3
  have hw3 := hw2.trans (hb3.mono hw2.size)
  have lt3 := M3.lt
  have RY := OY.reads
  have by0 := own_block OY
  have lm2 := M2.lt
  clear C2 M2 hw2 hb3 HLS OY
  have hq := (hw3.cell (p := ⟨b0, off + 2, none⟩) hb0).trans (HC.out 2 hn2)
  rw [HV.out] at hq
  have hn1 : (2 : Int) < (n : Int) := by omega
  go_wp2_with fail
  refine (rUnhead V HVR.out _).mono ?_
  rintro en u4 ⟨rfl, hb4⟩
  have C4 := C3.keep hb4
  have M4 := M3.keep hb4
  have hw4 := hw3.trans (hb4.mono hw3.size)
  have RY4 := RY.keep hb4
  have sz4 := hb4.size
  have Z4 := Bk.new u4 (wc wz) 46
  have X5 := boxed_bk u4 ({ wz with p := ({ pz with ln := skLn true 10 } : Pl) } : Wk)
  have bb := boxed_below u4 ({ wz with p := ({ pz with ln := skLn true 10 } : Pl) } : Wk)
  have C5 := C4.keep bb
  have M5 := M4.keep bb
  have hw5 := hw4.trans (bb.mono hw4.size)
  have RY5 := RY4.keep bb
  obtain ⟨u5, hu5⟩ : ∃ u, u = (u4.alloc (.cells (wc wz) 46)).setRow u4.heap.size (wc ({ wz with p := ({ pz with ln := skLn true 10 } : Pl) } : Wk)) := ⟨_, rfl⟩
  rw [← hu5] at X5 C5 M5 hw5 RY5
  have E5 : Skw w c g gl cp u4.heap.size y (k0 :: tl) _ L ({ wz with p := ({ pz with ln := skLn true 10 } : Pl) } : Wk) u5 := ⟨C5, M5, X5, RY5, hw5, by omega, by omega, by omega, by omega, by have := C4.lt; omega, .inr fun d hd => by have := by0 d hd; omega, .inr fun d hd => by have := by0 d hd; omega, .inr fun d hd => by have := by0 d hd; omega⟩
  clear bb C3 hw3 M3 C4 hw4 M4 C5 hw5 M5 RY RY4 RY5 hq hb4 X5 by0
  go_wp2_with (first | ((with_reducible refine wpList_alloc_wz rfl rfl ?_)) | ((refine wpList_store_row rfl 46 _ _ rfl (u4.heap.size) (wc ({ wz with p := ({ pz with ln := skLn true 10 } : Pl) } : Wk)) rfl rfl _ _ (by exact Z4) (by kernel_rfl) (by kernel_rfl) (by kernel_rfl) ?_); rw [← hu5]; clear hu5 Z4))
  refine wp_loop_rounds 4 ?_
  rw [rounds_succ]
  have HS6 := Lib.hid (H10.out _ _ _ _ _ E5.M)
  go_wp2_with (refine wpList_load_row rfl 46 _ rfl (u4.heap.size) rfl _ (wc ({ wz with p := ({ pz with ln := skLn true 10 } : Pl) } : Wk)) (0, 0) _ (by exact E5.X) Try.underlying46 rfl (by kernel_rfl) ?_)
  refine HS6.out.mono ?_
  rintro en u6 ⟨s6, rfl, A6, M6, T6⟩
  have X6 := T6.bk E5.X E5.n3 E5.n4
  have E6 := E5.step M6 T6 s6
  have lx6 := E5.X.lt
  have Ar6 := A6.setRow (g := u4.heap.size) lx6 (wc s6)
  obtain ⟨v6, hv6⟩ : ∃ u, u = u6.setRow u4.heap.size (wc s6) := ⟨_, rfl⟩
  rw [← hv6] at E6 Ar6
  have hp6 := Ar6.p
  have L6 := Ar6.lies
  clear A6 M6 T6 Ar6 HS6 E5
  go_wp2_with ((refine wpList_store_row rfl 46 _ _ rfl (u4.heap.size) (wc s6) rfl rfl _ _ (by exact X6) (by kernel_rfl) (by kernel_rfl) (by kernel_rfl) ?_); rw [← hv6]; clear hv6 X6)
  rw [rounds_succ]
  have HS7 := Lib.hid (H11.out _ _ _ _ _ E6.M _ L6)
  go_wp2_with (refine wpList_load_row rfl 46 _ rfl (u4.heap.size) rfl _ (wc s6) (0, 0) _ (by exact E6.X) Try.underlying46 rfl (by kernel_rfl) ?_)
  refine HS7.out.mono ?_
  rintro en u7 ⟨s7, rfl, A7, M7, T7⟩
  have X7 := T7.bk E6.X E6.n3 E6.n4
  have E7 := E6.step M7 T7 s7
  have lx7 := E6.X.lt
  have Ar7 := A7.setRow (g := u4.heap.size) lx7 (wc s7)
  obtain ⟨v7, hv7⟩ : ∃ u, u = u7.setRow u4.heap.size (wc s7) := ⟨_, rfl⟩
  rw [← hv7] at E7 Ar7
  have hp7 := Ar7.p
  have L7 := Ar7.lies
  clear A7 M7 T7 Ar7 HS7 E6
  go_wp2_with ((refine wpList_store_row rfl 46 _ _ rfl (u4.heap.size) (wc s7) rfl rfl _ _ (by exact X7) (by kernel_rfl) (by kernel_rfl) (by kernel_rfl) ?_); rw [← hv7]; clear hv7 X7)
  rw [rounds_succ]
  have HS8 := Lib.hid (H12.out _ _ _ _ _ E7.M _ L7)
  go_wp2_with (refine wpList_load_row rfl 46 _ rfl (u4.heap.size) rfl _ (wc s7) (0, 0) _ (by exact E7.X) Try.underlying46 rfl (by kernel_rfl) ?_)
  refine HS8.out.mono ?_
  rintro en u8 ⟨s8, rfl, A8, M8, T8⟩
  have X8 := T8.bk E7.X E7.n3 E7.n4
  have E8 := E7.step M8 T8 s8
  have lx8 := E7.X.lt
  have Ar8 := A8.setRow (g := u4.heap.size) lx8 (wc s8)
  obtain ⟨v8, hv8⟩ : ∃ u, u = u8.setRow u4.heap.size (wc s8) := ⟨_, rfl⟩
  rw [← hv8] at E8 Ar8
  have hp8 := Ar8.p
  have L8 := Ar8.lies
  clear A8 M8 T8 Ar8 HS8 E7
  go_wp2_with ((refine wpList_store_row rfl 46 _ _ rfl (u4.heap.size) (wc s8) rfl rfl _ _ (by exact X8) (by kernel_rfl) (by kernel_rfl) (by kernel_rfl) ?_); rw [← hv8]; clear hv8 X8)
  rw [rounds_succ]
  have hyl := reads_len E8.R
  have t0 : ((y.len : Int) == 0) = false := by rw [hyl]; simp; omega
  go_wp2
  have hS0 : Below v8.heap.size v8 v8.drew := Below.drew (Below.refl _ _)
  refine wp_region_held_drew (S := fun w' => Below v8.heap.size v8 w') (by kernel_rfl) hS0 (fun hHeld => ?_)
  clear hS0
  generalize v8.drew = z0 at *
  refine wpAnyH_take (i := 0) (oi := _) (v := cv c) rfl (by kernel_rfl) (by kernel_rfl) (by kernel_rfl) (fun _ _ _ h => h) (Or.inl ⟨by rfl, fun w' hSw => by have xx := (E8.C.keep hSw).cells; go_simp⟩) hHeld ?_
  try simp only [Act.put, List.getElem_toArray, List.getElem_cons_succ, List.getElem_cons_zero, List.setIfInBounds_toArray, List.set_cons_succ, List.set_cons_zero]
  refine wpAnyH_take (i := 1) (oi := _) (v := .pointer (some ⟨g, 0, none⟩)) rfl (by kernel_rfl) (by kernel_rfl) (by kernel_rfl) (fun _ _ _ h => h) (Or.inl ⟨by rfl, fun w' hSw => by go_simp⟩) hHeld ?_
  try simp only [Act.put, List.getElem_toArray, List.getElem_cons_succ, List.getElem_cons_zero, List.setIfInBounds_toArray, List.set_cons_succ, List.set_cons_zero]
  refine wpAnyH_take (i := 3) (oi := _) (v := .bool true) rfl (by kernel_rfl) (by kernel_rfl) (by kernel_rfl) (fun _ _ _ h => h) (Or.inl ⟨by rfl, fun w' hSw => by go_simp⟩) hHeld ?_
  try simp only [Act.put, List.getElem_toArray, List.getElem_cons_succ, List.getElem_cons_zero, List.setIfInBounds_toArray, List.set_cons_succ, List.set_cons_zero]
  refine wpAnyH_ready (rs := [2]) (by kernel_rfl) (by simp) ?_
  refine AllReadyH.cons (o := _) rfl (fun K hK => ?_) AllReadyH.nil
  go_simp
  refine (all_in (E8.M.keep hHeld) HM1.out).mono ?_
  rintro en z1 ⟨ya, rfl, hya, hb⟩
  have hHeld' := hHeld.trans (hb.mono hHeld.size)
  refine hK.out _ _ hHeld' (fun hHeld => ?_)
  clear hK K hHeld'
  try simp only [Act.put, List.getElem_toArray, List.getElem_cons_succ, List.getElem_cons_zero, List.setIfInBounds_toArray, List.set_cons_succ, List.set_cons_zero]
  have rd1 := Reads.of_own hya rfl
  clear hb hya
  have HIN := Lib.hid (HL1.out _ _ rd1)
  clear rd1
  refine wpAnyH_ready (rs := [4]) (by kernel_rfl) (by simp) ?_
  refine AllReadyH.cons (o := _) rfl (fun K hK => ?_) AllReadyH.nil
  go_simp
  refine (HIN.out).mono ?_
  rintro en z2 ⟨y8, rfl, O8, hb⟩
  have hHeld' := hHeld.trans (hb.mono hHeld.size)
  have R8 := O8.reads
  refine hK.out _ _ hHeld' (fun hHeld => ?_)
  clear hK K hHeld' HIN O8
  try simp only [Act.put, List.getElem_toArray, List.getElem_cons_succ, List.getElem_cons_zero, List.setIfInBounds_toArray, List.set_cons_succ, List.set_cons_zero]
  clear hb
  refine wpAnyH_take (i := 5) (oi := _) (v := .tuple #[.slice y8.ad y8.len y8.cap, .bool true]) rfl (by kernel_rfl) (by kernel_rfl) (by kernel_rfl) (fun _ _ _ h => h) (Or.inl ⟨by rfl, fun w' hSw => by go_simp⟩) hHeld ?_
  try simp only [Act.put, List.getElem_toArray, List.getElem_cons_succ, List.getElem_cons_zero, List.setIfInBounds_toArray, List.set_cons_succ, List.set_cons_zero]
  refine wpAnyH_take (i := 6) (oi := _) (v := .slice y8.ad y8.len y8.cap) rfl (by kernel_rfl) (by kernel_rfl) (by kernel_rfl) (fun _ _ _ h => h) (Or.inl ⟨by rfl, fun w' hSw => by go_simp⟩) hHeld ?_
  try simp only [Act.put, List.getElem_toArray, List.getElem_cons_succ, List.getElem_cons_zero, List.setIfInBounds_toArray, List.set_cons_succ, List.set_cons_zero]
  refine wpAnyH_take (i := 7) (oi := _) (v := .bool true) rfl (by kernel_rfl) (by kernel_rfl) (by kernel_rfl) (fun _ _ _ h => h) (Or.inl ⟨by rfl, fun w' hSw => by go_simp⟩) hHeld ?_
  try simp only [Act.put, List.getElem_toArray, List.getElem_cons_succ, List.getElem_cons_zero, List.setIfInBounds_toArray, List.set_cons_succ, List.set_cons_zero]
  refine wpAnyH_take (i := 8) (oi := _) (v := .slice y8.ad y8.len y8.cap) rfl (by kernel_rfl) (by kernel_rfl) (by kernel_rfl) (fun _ _ _ h => h) (Or.inl ⟨by rfl, fun w' hSw => by go_simp⟩) hHeld ?_
  try simp only [Act.put, List.getElem_toArray, List.getElem_cons_succ, List.getElem_cons_zero, List.setIfInBounds_toArray, List.set_cons_succ, List.set_cons_zero]
  refine wpAnyH_take (i := 9) (oi := _) (v := .bool true) rfl (by kernel_rfl) (by kernel_rfl) (by kernel_rfl) (fun _ _ _ h => h) (Or.inl ⟨by rfl, fun w' hSw => by go_simp⟩) hHeld ?_
  try simp only [Act.put, List.getElem_toArray, List.getElem_cons_succ, List.getElem_cons_zero, List.setIfInBounds_toArray, List.set_cons_succ, List.set_cons_zero]
  refine wpAnyH_done (by kernel_rfl) ?_ _
  have E9 := E8.keep hHeld
  clear hHeld E8
  obtain ⟨by_, oy, hyad, hyc⟩ := reads_at E9.R (i := 0) (by simp)
  have hyl2 : y.len = tl.length + 1 := by rw [hyl]; rfl
  have hle := reads_le E9.R
  unfold maxLen at hle
  obtain ⟨yad, yle, yca⟩ := y
  simp only at hyad hyl2 hle t0
  subst hyad
  subst hyl2
  have cH : z2.cell? ⟨u4.heap.size, 23, none⟩ = some (.int .u64 (k0 + 1)) := by rw [E9.X.cells, f23, hp8]
  have lH : u4.heap.size < z2.heap.size := E9.X.lt
  have cL : z2.cell? ⟨by_, oy, none⟩ = some (.int .i64 k0) := hyc
  have RT : Reads z2 .i64 (.slice (if yca = 1 then some ⟨by_, oy, none⟩ else some ⟨by_, oy + 1, none⟩) tl.length (yca - 1)) tl := reads_tail2 E9.R
  have lY := reads_block E9.R
  have hk0 : (0 : Int) < ((tl.length + 1 : Nat) : Int) := by omega
  clear hp6 hp7 hp8 L6 L7 L8 hyc hyl
  simp only [Sl.v]
  go_wp2
  refine wp_region_grown (by kernel_rfl) (by kernel_rfl) ?_
  have hg := @gcell
  repeat (go_big_quiet_step (exact ints_grown R8 RT _))
  refine wpQuiet_nil ?_
  rintro w10 ⟨⟨_, hb10⟩, rfl⟩
  clear hg
  have E10 := E9.keep hb10
  have cL10 := (hb10.cell (p := ⟨by_, oy, none⟩) lY).trans cL
  have lY10 : by_ < w10.heap.size := Nat.lt_of_lt_of_le lY hb10.size
  have lH10 : u4.heap.size < w10.heap.size := E10.X.lt
  clear cH lH cL lY RT R8 E9 hb10
  generalize (if yca = 1 then (some ⟨by_, oy, none⟩ : Option Addr) else some ⟨by_, oy + 1, none⟩) = zad at *
  go_wp2
  refine wp_region_grown_tail 11 (by kernel_rfl) (by kernel_rfl) ?_
  simp only [List.take_succ_cons, List.take_zero, List.drop_succ_cons, List.drop_zero]
  have hg := @gcell
  repeat (go_big_quiet_step (fail))
  refine wpQuiet_nil ?_
  rintro w11 ⟨⟨_, hb11⟩, rfl⟩
  clear hg
  have E11 := E10.keep hb11
  have E12 := E11.row ({ wz with p := ({ pz with ln := skLn true 13, k := k0 + 1, i := k0 + 1 } : Pl) } : Wk)
  obtain ⟨w12, hw12⟩ : ∃ u, u = w11.setRow u4.heap.size (wc ({ wz with p := ({ pz with ln := skLn true 13, k := k0 + 1, i := k0 + 1 } : Pl) } : Wk)) := ⟨_, rfl⟩
  rw [← hw12] at E12
  have X11 := E11.X
  clear cL10 lY10 lH10 E10 hb11
  go_wp2_with ((refine wpList_store_row rfl 46 _ _ rfl (u4.heap.size) (wc ({ wz with p := ({ pz with ln := skLn true 13, k := k0 + 1, i := k0 + 1 } : Pl) } : Wk)) rfl rfl _ _ (by exact X11) (by kernel_rfl) (by kernel_rfl) (by kernel_rfl) ?_); rw [← hw12]; clear hw12 X11 E11)
  refine wp_loop_rounds 4 ?_
  rw [rounds_succ]
  have HS13 := Lib.hid (H13.out _ _ _ _ _ E12.M)
  go_wp2_with (refine wpList_load_row rfl 46 _ rfl (u4.heap.size) rfl _ (wc ({ wz with p := ({ pz with ln := skLn true 13, k := k0 + 1, i := k0 + 1 } : Pl) } : Wk)) (0, 0) _ (by exact E12.X) Try.underlying46 rfl (by kernel_rfl) ?_)
  refine HS13.out.mono ?_
  rintro en u13 ⟨s13, rfl, A13, M13, T13⟩
  have X13 := T13.bk E12.X E12.n3 E12.n4
  have E13 := E12.step M13 T13 s13
  have lx13 := E12.X.lt
  have Ar13 := A13.setRow (g := u4.heap.size) lx13 (wc s13)
  obtain ⟨v13, hv13⟩ : ∃ u, u = u13.setRow u4.heap.size (wc s13) := ⟨_, rfl⟩
  rw [← hv13] at E13 Ar13
  have hp13 := Ar13.p
  have L13 := Ar13.lies
  clear A13 M13 T13 Ar13 HS13 E12
  go_wp2_with ((refine wpList_store_row rfl 46 _ _ rfl (u4.heap.size) (wc s13) rfl rfl _ _ (by exact X13) (by kernel_rfl) (by kernel_rfl) (by kernel_rfl) ?_); rw [← hv13]; clear hv13 X13)
  rw [rounds_succ]
  have HS14 := Lib.hid (H14.out _ _ _ _ _ E13.M _ L13)
  go_wp2_with (refine wpList_load_row rfl 46 _ rfl (u4.heap.size) rfl _ (wc s13) (0, 0) _ (by exact E13.X) Try.underlying46 rfl (by kernel_rfl) ?_)
  refine HS14.out.mono ?_
  rintro en u14 ⟨s14, rfl, A14, M14, T14⟩
  have X14 := T14.bk E13.X E13.n3 E13.n4
  have E14 := E13.step M14 T14 s14
  have lx14 := E13.X.lt
  have Ar14 := A14.setRow (g := u4.heap.size) lx14 (wc s14)
  obtain ⟨v14, hv14⟩ : ∃ u, u = u14.setRow u4.heap.size (wc s14) := ⟨_, rfl⟩
  rw [← hv14] at E14 Ar14
  have hp14 := Ar14.p
  have L14 := Ar14.lies
  clear A14 M14 T14 Ar14 HS14 E13
  go_wp2_with ((refine wpList_store_row rfl 46 _ _ rfl (u4.heap.size) (wc s14) rfl rfl _ _ (by exact X14) (by kernel_rfl) (by kernel_rfl) (by kernel_rfl) ?_); rw [← hv14]; clear hv14 X14)
  rw [rounds_succ]
  have HS15 := Lib.hid (H15.out _ _ _ _ _ E14.M _ L14)
  go_wp2_with (refine wpList_load_row rfl 46 _ rfl (u4.heap.size) rfl _ (wc s14) (0, 0) _ (by exact E14.X) Try.underlying46 rfl (by kernel_rfl) ?_)
  refine HS15.out.mono ?_
  rintro en u15 ⟨s15, rfl, A15, M15, T15⟩
  have X15 := T15.bk E14.X E14.n3 E14.n4
  have E15 := E14.step M15 T15 s15
  have lx15 := E14.X.lt
  have Ar15 := A15.setRow (g := u4.heap.size) lx15 (wc s15)
  obtain ⟨v15, hv15⟩ : ∃ u, u = u15.setRow u4.heap.size (wc s15) := ⟨_, rfl⟩
  rw [← hv15] at E15 Ar15
  have hp15 := Ar15.p
  have L15 := Ar15.lies
  clear A15 M15 T15 Ar15 HS15 E14
  go_wp2_with ((refine wpList_store_row rfl 46 _ _ rfl (u4.heap.size) (wc s15) rfl rfl _ _ (by exact X15) (by kernel_rfl) (by kernel_rfl) (by kernel_rfl) ?_); rw [← hv15]; clear hv15 X15)
  rw [rounds_succ]
  go_wp2
  have hS0 : Below v15.heap.size v15 v15.drew := Below.drew (Below.refl _ _)
  refine wp_region_held_drew (S := fun w' => Below v15.heap.size v15 w') (by kernel_rfl) hS0 (fun hHeld => ?_)
  clear hS0
  generalize v15.drew = q0 at *
  refine wpAnyH_take (i := 0) (oi := _) (v := cv c) rfl (by kernel_rfl) (by kernel_rfl) (by kernel_rfl) (fun _ _ _ h => h) (Or.inl ⟨by rfl, fun w' hSw => by have xx := (E15.C.keep hSw).cells; go_simp⟩) hHeld ?_
  try simp only [Act.put, List.getElem_toArray, List.getElem_cons_succ, List.getElem_cons_zero, List.setIfInBounds_toArray, List.set_cons_succ, List.set_cons_zero]
  refine wpAnyH_take (i := 1) (oi := _) (v := .pointer (some ⟨g, 0, none⟩)) rfl (by kernel_rfl) (by kernel_rfl) (by kernel_rfl) (fun _ _ _ h => h) (Or.inl ⟨by rfl, fun w' hSw => by go_simp⟩) hHeld ?_
  try simp only [Act.put, List.getElem_toArray, List.getElem_cons_succ, List.getElem_cons_zero, List.setIfInBounds_toArray, List.set_cons_succ, List.set_cons_zero]
  refine wpAnyH_take (i := 3) (oi := _) (v := .bool true) rfl (by kernel_rfl) (by kernel_rfl) (by kernel_rfl) (fun _ _ _ h => h) (Or.inl ⟨by rfl, fun w' hSw => by go_simp⟩) hHeld ?_
  try simp only [Act.put, List.getElem_toArray, List.getElem_cons_succ, List.getElem_cons_zero, List.setIfInBounds_toArray, List.set_cons_succ, List.set_cons_zero]
  refine wpAnyH_ready (rs := [2]) (by kernel_rfl) (by simp) ?_
  refine AllReadyH.cons (o := _) rfl (fun K hK => ?_) AllReadyH.nil
  go_simp
  refine (all_in (E15.M.keep hHeld) HM3.out).mono ?_
  rintro en q1 ⟨ya, rfl, hya, hb⟩
  have hHeld' := hHeld.trans (hb.mono hHeld.size)
  refine hK.out _ _ hHeld' (fun hHeld => ?_)
  clear hK K hHeld'
  try simp only [Act.put, List.getElem_toArray, List.getElem_cons_succ, List.getElem_cons_zero, List.setIfInBounds_toArray, List.set_cons_succ, List.set_cons_zero]
  have rd1 := Reads.of_own hya rfl
  clear hb hya
  have HIN := Lib.hid (HL3.out _ _ rd1)
  clear rd1
  refine wpAnyH_ready (rs := [4]) (by kernel_rfl) (by simp) ?_
  refine AllReadyH.cons (o := _) rfl (fun K hK => ?_) AllReadyH.nil
  go_simp
  refine (HIN.out).mono ?_
  rintro en q2 ⟨y15, rfl, O15, hb⟩
  have hHeld' := hHeld.trans (hb.mono hHeld.size)
  have R15 := O15.reads
  refine hK.out _ _ hHeld' (fun hHeld => ?_)
  clear hK K hHeld' HIN O15
  try simp only [Act.put, List.getElem_toArray, List.getElem_cons_succ, List.getElem_cons_zero, List.setIfInBounds_toArray, List.set_cons_succ, List.set_cons_zero]
  clear hb
  refine wpAnyH_take (i := 5) (oi := _) (v := .tuple #[.slice y15.ad y15.len y15.cap, .bool true]) rfl (by kernel_rfl) (by kernel_rfl) (by kernel_rfl) (fun _ _ _ h => h) (Or.inl ⟨by rfl, fun w' hSw => by go_simp⟩) hHeld ?_
  try simp only [Act.put, List.getElem_toArray, List.getElem_cons_succ, List.getElem_cons_zero, List.setIfInBounds_toArray, List.set_cons_succ, List.set_cons_zero]
  refine wpAnyH_take (i := 6) (oi := _) (v := .slice y15.ad y15.len y15.cap) rfl (by kernel_rfl) (by kernel_rfl) (by kernel_rfl) (fun _ _ _ h => h) (Or.inl ⟨by rfl, fun w' hSw => by go_simp⟩) hHeld ?_
  try simp only [Act.put, List.getElem_toArray, List.getElem_cons_succ, List.getElem_cons_zero, List.setIfInBounds_toArray, List.set_cons_succ, List.set_cons_zero]
  refine wpAnyH_take (i := 7) (oi := _) (v := .bool true) rfl (by kernel_rfl) (by kernel_rfl) (by kernel_rfl) (fun _ _ _ h => h) (Or.inl ⟨by rfl, fun w' hSw => by go_simp⟩) hHeld ?_
  try simp only [Act.put, List.getElem_toArray, List.getElem_cons_succ, List.getElem_cons_zero, List.setIfInBounds_toArray, List.set_cons_succ, List.set_cons_zero]
  refine wpAnyH_take (i := 8) (oi := _) (v := .slice y15.ad y15.len y15.cap) rfl (by kernel_rfl) (by kernel_rfl) (by kernel_rfl) (fun _ _ _ h => h) (Or.inl ⟨by rfl, fun w' hSw => by go_simp⟩) hHeld ?_
  try simp only [Act.put, List.getElem_toArray, List.getElem_cons_succ, List.getElem_cons_zero, List.setIfInBounds_toArray, List.set_cons_succ, List.set_cons_zero]
  refine wpAnyH_take (i := 9) (oi := _) (v := .bool true) rfl (by kernel_rfl) (by kernel_rfl) (by kernel_rfl) (fun _ _ _ h => h) (Or.inl ⟨by rfl, fun w' hSw => by go_simp⟩) hHeld ?_
  try simp only [Act.put, List.getElem_toArray, List.getElem_cons_succ, List.getElem_cons_zero, List.setIfInBounds_toArray, List.set_cons_succ, List.set_cons_zero]
  refine wpAnyH_done (by kernel_rfl) ?_ _
  have E16 := E15.keep hHeld
  clear hHeld E15
  go_wp2_with fail
  refine (peek_any E16.M HM3.out 2).mono ?_
  rintro en w17 ⟨rfl, rfl⟩
  go_wp2_with fail
  refine (HNR.out _).mono ?_
  rintro en w18 ⟨rfl, hb18⟩
  have E18 := E16.keep hb18
  have R18 := R15.keep hb18
  have RY := E18.R
  simp only [Sl.v] at RY
  rw [HNW.out]
  have b1 : ((V / 4294967296 + 2) % 4294967296 == (V / 4294967296 + 2) % 4294967296) = true := by simp
  have b2 : ((V / 4294967296 + 2) % 4294967296 == IntKind.u64.wrap (V / 4294967296 + 2) % 4294967296) = true := by
    have hw9 : IntKind.u64.wrap (V / 4294967296 + 2) = V / 4294967296 + 2 := by rw [IntKind.wrap_u64]; omega
    rw [hw9]; simp
  clear hp13 hp14 hp15 L13 L14 L15 E16 hb18
  go_wp2_with fail
  refine (ints_true R18 RY).mono ?_
  rintro en w19 ⟨rfl, hb19⟩
  have E19 := E18.keep hb19
  go_wp2
  go_ret
  exact ⟨rfl, E19.hb⟩
theorem stackTakes_false (c : Cfg) (hf : c.Wf) (v : Sl) (L : List Int) (w : World) (hr : Reads w .u64 v.v L) (hL : WR L) :
    Calls Try.prog 4 #[cv c, v.v, .bool false] w fun e w' => e = .returned (.bool true) ∧ Below w.heap.size w w' := by
  have hl := reads_len hr
  have hc := reads_le hr
  obtain ⟨ad, n, cap⟩ := v
  simp only at hl hc
  unfold maxLen at hc
  cases hg : greatC c with
  | true => exact stk_no c hf ad n cap false w (Lib.hid fun _ => both_great c hf ad n cap hg _)
  | false =>
    by_cases hn : 400 < n
    · exact stk_no c hf ad n cap false w (Lib.hid fun _ => both_long c hf ad n cap hg hn (by omega) _)
    · by_cases hk : chk c = 0
      · by_cases hs : (n : Int) = siz c
        · have HB : RowKit.Hid (∀ {w0 : World}, Below w.heap.size w w0 → Calls Try.prog 20 #[cv c, .slice ad n cap] w0 (BothYes c L w0)) := Lib.hid fun hb => both_yes c hf ad n cap hg (by omega) (chk_ok.1 hk) L hl.symm hs _ (hr.keep hb)
          have h3 := siz_ge hk
          have hr2 := hr
          obtain ⟨ad', cap', e1, _, _, h4⟩ := hr
          simp only [Sl.v, Value.slice.injEq] at e1
          obtain ⟨rfl, e2, rfl⟩ := e1
          rcases h4 with h4 | ⟨b0, off, rfl, hb0, hcl⟩
          · subst h4; simp at hl; omega
          · cases hls : listR c L false with
            | none => exact stk_none_false c hf n cap b0 off L (by omega) hL hl.symm w hb0 hcl hr2 HB hls
            | some l =>
              cases l with
              | nil => exact stk_empty_false c hf n cap b0 off L (by omega) hL hl.symm w hb0 hcl hr2 HB hk (by omega) hls
              | cons k0 tl => exact stk_full_false c hf n cap b0 off L (by omega) hL hl.symm w hb0 hcl hr2 HB hk (by omega) k0 tl hls
        · exact stk_no c hf ad n cap false w (Lib.hid fun hb => both_form c hf ad n cap hg (by omega) (chk_ok.1 hk) hs L hl.symm _ (hr.keep hb))
      · exact stk_no c hf ad n cap false w (Lib.hid fun hb => both_bad c hf ad n cap hg (by omega) hk L hl.symm _ (hr.keep hb))
theorem stackTakes_true (c : Cfg) (hf : c.Wf) (v : Sl) (L : List Int) (w : World) (hr : Reads w .u64 v.v L) (hL : WR L) :
    Calls Try.prog 4 #[cv c, v.v, .bool true] w fun e w' => e = .returned (.bool true) ∧ Below w.heap.size w w' := by
  have hl := reads_len hr
  have hc := reads_le hr
  obtain ⟨ad, n, cap⟩ := v
  simp only at hl hc
  unfold maxLen at hc
  cases hg : greatC c with
  | true => exact stk_no c hf ad n cap true w (Lib.hid fun _ => both_great c hf ad n cap hg _)
  | false =>
    by_cases hn : 400 < n
    · exact stk_no c hf ad n cap true w (Lib.hid fun _ => both_long c hf ad n cap hg hn (by omega) _)
    · by_cases hk : chk c = 0
      · by_cases hs : (n : Int) = siz c
        · have HB : RowKit.Hid (∀ {w0 : World}, Below w.heap.size w w0 → Calls Try.prog 20 #[cv c, .slice ad n cap] w0 (BothYes c L w0)) := Lib.hid fun hb => both_yes c hf ad n cap hg (by omega) (chk_ok.1 hk) L hl.symm hs _ (hr.keep hb)
          have h3 := siz_ge hk
          have hr2 := hr
          obtain ⟨ad', cap', e1, _, _, h4⟩ := hr
          simp only [Sl.v, Value.slice.injEq] at e1
          obtain ⟨rfl, e2, rfl⟩ := e1
          rcases h4 with h4 | ⟨b0, off, rfl, hb0, hcl⟩
          · subst h4; simp at hl; omega
          · cases hls : listR c L true with
            | none => exact stk_none_true c hf n cap b0 off L (by omega) hL hl.symm w hb0 hcl hr2 HB hls
            | some l =>
              cases l with
              | nil => exact stk_empty_true c hf n cap b0 off L (by omega) hL hl.symm w hb0 hcl hr2 HB hk (by omega) hls
              | cons k0 tl => exact stk_full_true c hf n cap b0 off L (by omega) hL hl.symm w hb0 hcl hr2 HB hk (by omega) k0 tl hls
        · exact stk_no c hf ad n cap true w (Lib.hid fun hb => both_form c hf ad n cap hg (by omega) (chk_ok.1 hk) hs L hl.symm _ (hr.keep hb))
      · exact stk_no c hf ad n cap true w (Lib.hid fun hb => both_bad c hf ad n cap hg (by omega) hk L hl.symm _ (hr.keep hb))
theorem stackTakes (c : Cfg) (hf : c.Wf) (v : Sl) (e : Bool) (L : List Int) (w : World) (hr : Reads w .u64 v.v L) (hL : WR L) :
    Calls Try.prog 4 #[cv c, v.v, .bool e] w fun e w' => e = .returned (.bool true) ∧ Below w.heap.size w w' := by
  cases e
  · exact stackTakes_false c hf v L w hr hL
  · exact stackTakes_true c hf v L w hr hL
end Go.Proofs.Ytblkfbbdeodpjaa.Me

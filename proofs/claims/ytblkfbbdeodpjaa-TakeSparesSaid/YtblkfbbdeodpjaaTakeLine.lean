/- The lines of take that its example runs (made by gentake3.py). -/
import Derived.Test.YtblkfbbdeodpjaaStepTake
import Derived.Test.YtblkfbbdeodpjaaStackStep
import Derived.Test.YtblkfbbdeodpjaaSlabLines
import Derived.Test.YtblkfbbdeodpjaaRefStep
import Derived.Test.YtblkfbbdeodpjaaGuardSee0
import Derived.Test.YtblkfbbdeodpjaaListNum
namespace Go.Proofs.Ytblkfbbdeodpjaa.Me
open Go Go.RowKit Go.Proofs.Ytblkfbbdeodpjaa.Gro Go.Proofs.Ytblkfbbdeodpjaa.Own Go.Proofs.Ytblkfbbdeodpjaa.Wd Go.Proofs.Ytblkfbbdeodpjaa.Ap Go.Proofs.Ytblkfbbdeodpjaa.Pl Go.Proofs.Ytblkfbbdeodpjaa.Wo
set_option linter.unusedVariables false
set_option linter.unusedSimpArgs false
theorem Tri.of_row9 {g gl gx : Nat} {w : World} (cs : Array Value) : Tri g gl gx w (w.setRow gx cs) := by
  have t := (Touch.refl gx gx w).setRow cs
  exact ⟨t.os, t.tape, t.output, t.size, fun b hb _ _ h3 => t.block b hb h3 h3⟩
theorem MX.row9 {B : Nat} {w0 w : World} {g gl cap gx : Nat} {c : Cfg} {a : Acc} {L : List Int} {s : Wk} (h : MX B w0 g gl cap gx c a L s w) (s' : Wk) : MX B w0 g gl cap gx c a L s' (w.setRow gx (wc s')) :=
  ⟨h.M.apart (g' := gx) (gl' := gx) ((Touch.refl gx gx w).setRow _) h.n1.symm h.n1.symm h.n2.symm h.n2.symm, h.X.setRow _, h.T.trans (Tri.of_row9 _), h.n1, h.n2⟩
section
variable {P : Program} {ops : Array Oper} {S : World → Prop} {a : Act} {o : Oper} {w : World} {K : Act → World → Prop} {Q : Exit → Act → World → Prop} {E : Prop}
theorem step_load9 (hgd : o.guard = none) (ty : TypeId) (x : Operand) (ho : o.op = .load ty x) (g : Nat) (hx : a.eval x = .pointer (some ⟨g, 0, none⟩)) (cs : Array Value) (t : TypeId) (d : TypeDesc)
    (hg : Bk w g cs t) (hu : P.underlying ty = some d) (hd : (match d with | .struct _ | .array _ _ => true | _ => false) = true) (hi : (P.info? ty).map (·.size) = some cs.size)
    (h : K (a.put o.dst (.agg cs)) w) : if Region.wanted o (yielded ops a.tmps) = true then Oper.wp P o a w K Q else E := by
  rw [if_pos (by simp [Region.wanted, hgd])]
  exact wp_load_row ty x ho g hx t cs (0, 0) d hg hu hd hi h
end
abbrev c9 : Cfg := ⟨1, 1, 2, 1, 1, 0, 1, 1⟩
theorem c9_wf : c9.Wf := ⟨by decide, by decide⟩
theorem c9_ok : Ok c9 := chk_ok.1 (by decide)
set_option maxRecDepth 10000 in
set_option maxHeartbeats 4000000 in
theorem tkPop2 {B n : Nat} {w0 w : World} {g gl cap gx : Nat} {c : Cfg} {a a' : Acc} {L L' : List Int} {s : Wk} {p' : Pl} (h : MX B w0 g gl cap gx c a L s w) (hm : L.length ≤ 1000) (hL : WR L) (hf : c.Wf) (x : St) (hx : Few 900 x) (A : Anew n w s x) (hp : PR x.p) (hn : n ≤ w.heap.size) (hg : gx < n) (hr : (stackLn c a L x.p).fin = ⟨a', L', p', 2, true⟩) (hv : 0 ≤ p'.v ∧ p'.v < 18446744073709551616) :
    Calls Try.prog 153 #[.pointer (some ⟨g, 0, none⟩), .pointer (some ⟨gx, 0, none⟩)] w fun e w' => ∃ s3 : Wk, e = .returned (.int .i64 0) ∧ MX B w0 g gl cap gx c a' L' s3 w' ∧ Anew n w' s3 { x with p := { p' with u := p'.v / 4294967296, j := 0, ln := 33 } } := by
  have HS := Lib.hid (stackStepAny h.M hf hm hL s x (hx.mono (by omega)) A.lies hp)
  rw [hr] at HS
  clear hr
  have f0 : ∀ s : Wk, (wc s)[0]? = some (.int .i64 s.p.ln) := fun _ => rfl
  have f18 : ∀ s : Wk, (wc s)[18]? = some (.int .i64 s.p.b) := fun _ => rfl
  have f25 : ∀ s : Wk, (wc s)[25]? = some (.int .u64 s.p.v) := fun _ => rfl
  have f26 : ∀ s : Wk, (wc s)[26]? = some (.int .u64 s.p.u) := fun _ => rfl
  have f28 : ∀ s : Wk, (wc s)[28]? = some (.int .i64 s.p.j) := fun _ => rfl
  have X0 := h.X
  go_enter Try.func153, Try.ntmps153
  go_wp2_with (first | (refine wpList_load_row rfl 46 _ rfl (gx) rfl _ (wc s) (0, 0) _ (by exact X0) Try.underlying46 rfl (by kernel_rfl) ?_))
  refine HS.out.mono ?_
  rintro e w1 ⟨s2, rfl, A2, M2, T2⟩
  have H2 := h.mem M2 T2
  clear X0
  have b3 := boxed_below w1 s2
  have Z3 := boxed_bk w1 s2
  have H3 := H2.keep b3
  have A3 := A2.keep b3
  have Y1 : Bk (w1.alloc (.cells (wc wz) 46)) w1.heap.size (wc wz) 46 := Bk.new _ _ _
  have sz3 : n ≤ w1.heap.size := by have := T2.size; omega
  obtain ⟨w3, hw3⟩ : ∃ u, u = (w1.alloc (.cells (wc wz) 46)).setRow w1.heap.size (wc s2) := ⟨_, rfl⟩
  have sz4 : w1.heap.size ≤ w3.heap.size := by rw [hw3]; simp
  rw [← hw3] at b3 Z3 H3 A3
  have H4 := H3.row9 s2
  have X3 := H3.X
  have A4 := (A3.base hn).setRow hg (wc s2)
  obtain ⟨w5, hw5⟩ : ∃ u, u = w3.setRow gx (wc s2) := ⟨_, rfl⟩
  have sz5 : w3.heap.size = w5.heap.size := by rw [hw5]; simp
  rw [← hw5] at H4 A4
  have ep := A2.p
  simp only at ep
  clear H2 A2 M2 T2
  have x5 := H4.X.cells
  have z5 := H4.X.frozen
  have HU := Lib.hid (fun w => Pk.unhead s2.p.v (by rw [ep]; exact hv.1) (by rw [ep]; exact hv.2) w)
  have e5 : (w5.cell? ⟨gx, 26, none⟩).isSome = true := by rw [x5, f26]; rfl
  have H5 := H4.set (s' := { s2 with p := { s2.p with u := s2.p.v / 4294967296 } }) 26 (.int .u64 (s2.p.v / 4294967296)) rfl
  have A5 := A4.setCell hg 26 (.int .u64 (s2.p.v / 4294967296))
  have y5 : ((w5.setCell ⟨gx, 26, none⟩ (.int .u64 (s2.p.v / 4294967296))).cell? ⟨gx, 28, none⟩).isSome = true := by rw [H5.X.cells, f28]; rfl
  have H6 := H5.set (s' := { s2 with p := { s2.p with u := s2.p.v / 4294967296, j := 0 } }) 28 (.int .i64 0) rfl
  have A6 := A5.setCell hg 28 (.int .i64 0)
  have y6 : (((w5.setCell ⟨gx, 26, none⟩ (.int .u64 (s2.p.v / 4294967296))).setCell ⟨gx, 28, none⟩ (.int .i64 0)).cell? ⟨gx, 0, none⟩).isSome = true := by rw [H6.X.cells, f0]; rfl
  have H7 := H6.set (s' := { s2 with p := { s2.p with u := s2.p.v / 4294967296, j := 0, ln := 33 } }) 0 (.int .i64 33) rfl
  have A7 := A6.setCell hg 0 (.int .i64 33)
  have HEP := Lib.hid ep
  clear ep
  go_wp2_with (first | ((with_reducible refine wpList_alloc_wz rfl rfl ?_)) | (refine wpList_store_row rfl 46 _ _ rfl (w1.heap.size) (wc s2) rfl rfl _ _ (by exact Y1) (by kernel_rfl) (by kernel_rfl) (by kernel_rfl) ?_; rw [← hw3]; clear hw3 Y1) | (refine wpList_load_row rfl 46 _ rfl (w1.heap.size) rfl _ (wc s2) (0, 0) _ (by exact Z3) Try.underlying46 rfl (by kernel_rfl) ?_) | (refine wpList_store_row rfl 46 _ _ rfl (gx) (wc s2) rfl rfl _ _ (by exact X3) (by kernel_rfl) (by kernel_rfl) (by kernel_rfl) ?_; rw [← hw5]; clear hw5 X3))
  refine (HU.out _).mono ?_
  rintro e w6 ⟨rfl, rfl⟩
  go_wp2
  go_ret
  exact ⟨_, rfl, H7, ⟨by rw [HEP.out], A7.rk, A7.l0, A7.l1, A7.l2, A7.hl, A7.rd⟩⟩
set_option maxRecDepth 10000 in
set_option maxHeartbeats 4000000 in
theorem tkClaim0 {B n : Nat} {w0 w : World} {g gl cap gx : Nat} {c : Cfg} {a a' : Acc} {L L' : List Int} {s : Wk} {p' : Pl} (h : MX B w0 g gl cap gx c a L s w) (hm : L.length ≤ 1000) (hL : WR L) (hf : c.Wf) (x : St) (hx : Few 900 x) (A : Anew n w s x) (hp : PR x.p) (hn : n ≤ w.heap.size) (hg : gx < n) (hr : (slabLn c a L x.p).fin = ⟨a', L', p', 0, true⟩) :
    Calls Try.prog 155 #[.pointer (some ⟨g, 0, none⟩), .pointer (some ⟨gx, 0, none⟩)] w fun e w' => ∃ s3 : Wk, e = .returned (.int .i64 0) ∧ MX B w0 g gl cap gx c a' L' s3 w' ∧ Anew n w' s3 { x with p := p' } := by
  have HS := Lib.hid (slabStepAny h.M hf hm hL s x (hx.mono (by omega)) A.lies hp)
  rw [hr] at HS
  clear hr
  have X0 := h.X
  go_enter Try.func155, Try.ntmps155
  go_wp2_with (first | (refine wpList_load_row rfl 46 _ rfl (gx) rfl _ (wc s) (0, 0) _ (by exact X0) Try.underlying46 rfl (by kernel_rfl) ?_))
  refine HS.out.mono ?_
  rintro e w1 ⟨s2, rfl, A2, M2, T2⟩
  have H2 := h.mem M2 T2
  clear X0
  have b3 := boxed_below w1 s2
  have Z3 := boxed_bk w1 s2
  have H3 := H2.keep b3
  have A3 := A2.keep b3
  have Y1 : Bk (w1.alloc (.cells (wc wz) 46)) w1.heap.size (wc wz) 46 := Bk.new _ _ _
  have sz3 : n ≤ w1.heap.size := by have := T2.size; omega
  obtain ⟨w3, hw3⟩ : ∃ u, u = (w1.alloc (.cells (wc wz) 46)).setRow w1.heap.size (wc s2) := ⟨_, rfl⟩
  have sz4 : w1.heap.size ≤ w3.heap.size := by rw [hw3]; simp
  rw [← hw3] at b3 Z3 H3 A3
  have H4 := H3.row9 s2
  have X3 := H3.X
  have A4 := (A3.base hn).setRow hg (wc s2)
  obtain ⟨w5, hw5⟩ : ∃ u, u = w3.setRow gx (wc s2) := ⟨_, rfl⟩
  have sz5 : w3.heap.size = w5.heap.size := by rw [hw5]; simp
  rw [← hw5] at H4 A4
  have ep := A2.p
  simp only at ep
  clear H2 A2 M2 T2
  have HEP := Lib.hid ep
  clear ep
  go_wp2_with (first | ((with_reducible refine wpList_alloc_wz rfl rfl ?_)) | (refine wpList_store_row rfl 46 _ _ rfl (w1.heap.size) (wc s2) rfl rfl _ _ (by exact Y1) (by kernel_rfl) (by kernel_rfl) (by kernel_rfl) ?_; rw [← hw3]; clear hw3 Y1) | (refine wpList_load_row rfl 46 _ rfl (w1.heap.size) rfl _ (wc s2) (0, 0) _ (by exact Z3) Try.underlying46 rfl (by kernel_rfl) ?_) | (refine wpList_store_row rfl 46 _ _ rfl (gx) (wc s2) rfl rfl _ _ (by exact X3) (by kernel_rfl) (by kernel_rfl) (by kernel_rfl) ?_; rw [← hw5]; clear hw5 X3))
  go_ret
  exact ⟨s2, rfl, H4, A4⟩
set_option maxRecDepth 10000 in
set_option maxHeartbeats 4000000 in
theorem blocks9 (w : World) : Calls Try.prog 165 #[cv c9, .int .i64 0] w fun e w' => ∃ gq cap, e = .returned (.slice (some ⟨gq, 0, none⟩) 2 cap) ∧ 2 ≤ cap ∧ w.heap.size ≤ gq ∧ w'.cell? ⟨gq, 0, none⟩ = some (.int .i64 0) ∧ Reads w' .i64 (.slice (some ⟨gq, 0, none⟩) 2 cap) [0, 1] ∧ Below w.heap.size w w' := by
  have P0 := Bk.new w (ccM c9) 76
  have hw0 : Below w.heap.size w (w.alloc (.cells (ccM c9) 76)) := (Below.refl _ _).alloc (Nat.le_refl _) _
  have x0 := P0.cells
  go_enter Try.func165, Try.ntmps165
  go_wp2
  clear x0
  go_loopw [5, 10] (fun l i wr => ∃ (k : Nat) (y : Sl), k ≤ 2 ∧ l = .slice y.ad y.len y.cap ∧ i = .int .i64 k ∧ Owned w.heap.size wr .i64 3 y (List.map Int.ofNat (List.range k)) ∧ Bk wr w.heap.size (ccM c9) 76 ∧ Below w.heap.size w wr) (fun _ i _ => 2 - (intOf i).toNat)
  case atStart => exact ⟨0, nilS, by omega, rfl, rfl, Owned.nil, P0, hw0⟩
  case round =>
    clear P0 hw0
    obtain ⟨k, y, hk, rfl, rfl, O, P, hw⟩ := hrel
    have hlo := reads_len O.reads
    simp only [List.length_map, List.length_range] at hlo
    by_cases hlt : k < 2
    · have hd : decide ((k : Int) < 2) = true := by simp; omega
      have hsum : IntKind.i64.wrap ((k : Int) + 1) = (k : Int) + 1 := IntWalk.i64_in _ (by omega)
      have hsu0 : IntKind.i64.wrap (k : Int) = (k : Int) := IntWalk.i64_in _ (by omega)
      have xx := P.cells
      go_wp2_with (first | (at_builtin; refine append_one elemI rfl _ _ rfl w.heap.size _ _ _ rfl (World.ownsRow.alloc O _) _ _ (k : Int) rfl (new_one _ _ _) (by first | omega | (simp; omega)) (by first | (have := P.lt; omega) | (have := P.lt; simp; omega)) ?_; intro y2 w2 r2 hb2 hk2; have P2 := hk2 _ _ _ (by decide) (P.keep ((Below.refl _ _).alloc (Nat.le_refl _) _)); have hw2 := (hw.trans (((Below.refl _ _).alloc (Nat.le_refl _) _).mono hw.size)).trans hb2; have O2 := own_one r2))
      go_roundw
      case rel => exact ⟨k + 1, y2, by omega, rfl, by go_num, by rw [List.range_succ, List.map_append]; exact O2, P2, hw2⟩
      case measure => simp [intOf]; omega
    · obtain rfl : k = 2 := by omega
      have hr := O.reads
      have hown := O.2
      obtain ⟨ya, yl, yc⟩ := y
      simp only at hlo
      subst hlo
      rcases hown with ⟨h0, h1⟩ | ⟨gq, cap, cur, h0, hge, hh, h1, h2⟩
      · simp only [Sl.v, Value.slice.injEq] at h0
        first | omega | simp at h0
      · simp only [Sl.v, Value.slice.injEq] at h0
        obtain ⟨rfl, -, rfl⟩ := h0
        have hq : wr.cell? ⟨gq, 0, none⟩ = some (.int .i64 0) := by
          obtain ⟨ad, cap', e', _, _, h3⟩ := hr
          rcases h3 with h3 | ⟨b, off, h3, hb, hc⟩
          · cases h3
          · simp only [Sl.v, Value.slice.injEq] at e'
            rw [h3] at e'
            simp only [Option.some.injEq, Addr.mk.injEq, and_true] at e'
            obtain ⟨⟨rfl, rfl⟩, _⟩ := e'
            exact hc 0 (by decide)
        have hcl : 2 ≤ yc := by
          obtain ⟨ad, cap', e', h1', _, _⟩ := hr
          simp only [Sl.v, Value.slice.injEq] at e'
          have := e'.2.2
          simp at h1'
          omega
        have HQ := Lib.hid hq
        have HRR := Lib.hid hr
        clear hq hr h1 h2 hh O hlt
        go_wp2
        go_ret
        exact ⟨gq, yc, rfl, hcl, hge, HQ.out, HRR.out, hw⟩
theorem reads_tail9 {w : World} {b o n cap : Nat} {x : Int} {l : List Int} (h : Reads w .i64 (.slice (some ⟨b, o, none⟩) n cap) (x :: l)) : Reads w .i64 (.slice (some ⟨b, o + 1, none⟩) (n - 1) (cap - 1)) l := by
  obtain ⟨ad, cap', e, h1, h2, h3⟩ := h
  simp only [Value.slice.injEq, List.length_cons] at e
  obtain ⟨rfl, rfl, rfl⟩ := e
  refine ⟨_, _, rfl, by simp at h1; omega, by omega, ?_⟩
  rcases h3 with h3 | ⟨b', off, e2, hb, hc⟩
  · cases h3
  · simp only [Option.some.injEq, Addr.mk.injEq, and_true] at e2
    obtain ⟨rfl, rfl⟩ := e2
    exact .inr ⟨b, o + 1, rfl, hb, fun i hi => by
      have := hc (i + 1) (by simpa using hi)
      rw [show o + 1 + i = o + (i + 1) by omega]
      simpa using this⟩
set_option maxRecDepth 10000 in
set_option maxHeartbeats 4000000 in
theorem tkClaim1 {B n : Nat} {w0 w : World} {g gl cap gx : Nat} {a a' : Acc} {L L' : List Int} {s : Wk} {p' : Pl} (h : MX B w0 g gl cap gx c9 a L s w) (hm : L.length ≤ 1000) (hL : WR L) (x : St) (hx : Few 900 x) (A : Anew n w s x) (hp : PR x.p) (hn : n ≤ w.heap.size) (hg : gx < n) (hr : (slabLn c9 a L x.p).fin = ⟨a', L', p', 1, true⟩) (hj : p'.j = 0) :
    Calls Try.prog 155 #[.pointer (some ⟨g, 0, none⟩), .pointer (some ⟨gx, 0, none⟩)] w fun e w' => ∃ s3 : Wk, e = .returned (.int .i64 1) ∧ MX B w0 g gl cap gx c9 a' L' s3 w' ∧ Part n w' s3 { x with p := { p' with b := 1 }, hl := x.hl ++ [1] } := by
  have HS := Lib.hid (slabStepAny h.M c9_wf hm hL s x (hx.mono (by omega)) A.lies hp)
  rw [hr] at HS
  clear hr
  have f0 : ∀ s : Wk, (wc s)[0]? = some (.int .i64 s.p.ln) := fun _ => rfl
  have f18 : ∀ s : Wk, (wc s)[18]? = some (.int .i64 s.p.b) := fun _ => rfl
  have f25 : ∀ s : Wk, (wc s)[25]? = some (.int .u64 s.p.v) := fun _ => rfl
  have f26 : ∀ s : Wk, (wc s)[26]? = some (.int .u64 s.p.u) := fun _ => rfl
  have f28 : ∀ s : Wk, (wc s)[28]? = some (.int .i64 s.p.j) := fun _ => rfl
  have X0 := h.X
  go_enter Try.func155, Try.ntmps155
  go_wp2_with (first | (refine wpList_load_row rfl 46 _ rfl (gx) rfl _ (wc s) (0, 0) _ (by exact X0) Try.underlying46 rfl (by kernel_rfl) ?_))
  refine HS.out.mono ?_
  rintro e w1 ⟨s2, rfl, A2, M2, T2⟩
  have H2 := h.mem M2 T2
  clear X0
  have b3 := boxed_below w1 s2
  have Z3 := boxed_bk w1 s2
  have H3 := H2.keep b3
  have A3 := A2.keep b3
  have Y1 : Bk (w1.alloc (.cells (wc wz) 46)) w1.heap.size (wc wz) 46 := Bk.new _ _ _
  have sz3 : n ≤ w1.heap.size := by have := T2.size; omega
  obtain ⟨w3, hw3⟩ : ∃ u, u = (w1.alloc (.cells (wc wz) 46)).setRow w1.heap.size (wc s2) := ⟨_, rfl⟩
  have sz4 : w1.heap.size ≤ w3.heap.size := by rw [hw3]; simp
  rw [← hw3] at b3 Z3 H3 A3
  have H4 := H3.row9 s2
  have X3 := H3.X
  have A4 := (A3.base hn).setRow hg (wc s2)
  obtain ⟨w5, hw5⟩ : ∃ u, u = w3.setRow gx (wc s2) := ⟨_, rfl⟩
  have sz5 : w3.heap.size = w5.heap.size := by rw [hw5]; simp
  rw [← hw5] at H4 A4
  have ep := A2.p
  simp only at ep
  clear H2 A2 M2 T2
  have q28 : (wc s2)[28]? = some (.int .i64 0) := by rw [f28, ep, hj]
  have HEP := Lib.hid ep
  clear ep f28 hj
  go_wp2_with (first | ((with_reducible refine wpList_alloc_wz rfl rfl ?_)) | (refine wpList_store_row rfl 46 _ _ rfl (w1.heap.size) (wc s2) rfl rfl _ _ (by exact Y1) (by kernel_rfl) (by kernel_rfl) (by kernel_rfl) ?_; rw [← hw3]; clear hw3 Y1) | (refine wpList_load_row rfl 46 _ rfl (w1.heap.size) rfl _ (wc s2) (0, 0) _ (by exact Z3) Try.underlying46 rfl (by kernel_rfl) ?_) | (refine wpList_store_row rfl 46 _ _ rfl (gx) (wc s2) rfl rfl _ _ (by exact X3) (by kernel_rfl) (by kernel_rfl) (by kernel_rfl) ?_; rw [← hw5]; clear hw5 X3))
  have hS0 : Below w5.heap.size w5 w5.drew := Below.drew (Below.refl _ _)
  refine wp_region_held_drew (S := fun w' => Below w5.heap.size w5 w') (by kernel_rfl) hS0 (fun hHeld => ?_)
  generalize w5.drew = z0 at *
  refine wpAnyH_take (i := 0) (oi := _) (v := .pointer (some ⟨g, 0, none⟩)) rfl (by kernel_rfl) (by kernel_rfl) (by kernel_rfl) (fun _ _ _ h => h) (Or.inl ⟨by rfl, fun w' hSw => by go_simp⟩) hHeld ?_
  try simp only [Act.put, List.getElem_toArray, List.getElem_cons_succ, List.getElem_cons_zero, List.setIfInBounds_toArray, List.set_cons_succ, List.set_cons_zero]
  refine wpAnyH_take (i := 1) (oi := _) (v := .pointer (some ⟨g, 0, none⟩)) rfl (by kernel_rfl) (by kernel_rfl) (by kernel_rfl) (fun _ _ _ h => h) (Or.inl ⟨by rfl, fun w' hSw => by go_simp⟩) hHeld ?_
  try simp only [Act.put, List.getElem_toArray, List.getElem_cons_succ, List.getElem_cons_zero, List.setIfInBounds_toArray, List.set_cons_succ, List.set_cons_zero]
  refine wpAnyH_take (i := 2) (oi := _) (v := .pointer (some ⟨g, 0, none⟩)) rfl (by kernel_rfl) (by kernel_rfl) (by kernel_rfl) (fun _ _ _ h => h) (Or.inl ⟨by rfl, fun w' hSw => by go_simp⟩) hHeld ?_
  try simp only [Act.put, List.getElem_toArray, List.getElem_cons_succ, List.getElem_cons_zero, List.setIfInBounds_toArray, List.set_cons_succ, List.set_cons_zero]
  refine wpAnyH_take (i := 3) (oi := _) (v := cv c9) rfl (by kernel_rfl) (by kernel_rfl) (by kernel_rfl) (fun _ _ _ h => h) (Or.inl ⟨by rfl, fun w' hSw => by have xx := (H4.keep hSw).M.B.cells; go_simp⟩) hHeld ?_
  try simp only [Act.put, List.getElem_toArray, List.getElem_cons_succ, List.getElem_cons_zero, List.setIfInBounds_toArray, List.set_cons_succ, List.set_cons_zero]
  refine wpAnyH_take (i := 4) (oi := _) (v := .pointer (some ⟨gx, 0, none⟩)) rfl (by kernel_rfl) (by kernel_rfl) (by kernel_rfl) (fun _ _ _ h => h) (Or.inl ⟨by rfl, fun w' hSw => by go_simp⟩) hHeld ?_
  try simp only [Act.put, List.getElem_toArray, List.getElem_cons_succ, List.getElem_cons_zero, List.setIfInBounds_toArray, List.set_cons_succ, List.set_cons_zero]
  refine wpAnyH_take (i := 5) (oi := _) (v := .pointer (some ⟨gx, 0, none⟩)) rfl (by kernel_rfl) (by kernel_rfl) (by kernel_rfl) (fun _ _ _ h => h) (Or.inl ⟨by rfl, fun w' hSw => by go_simp⟩) hHeld ?_
  try simp only [Act.put, List.getElem_toArray, List.getElem_cons_succ, List.getElem_cons_zero, List.setIfInBounds_toArray, List.set_cons_succ, List.set_cons_zero]
  refine wpAnyH_take (i := 6) (oi := _) (v := .pointer (some ⟨gx, 28, none⟩)) rfl (by kernel_rfl) (by kernel_rfl) (by kernel_rfl) (fun _ _ _ h => h) (Or.inl ⟨by rfl, fun w' hSw => by go_simp⟩) hHeld ?_
  try simp only [Act.put, List.getElem_toArray, List.getElem_cons_succ, List.getElem_cons_zero, List.setIfInBounds_toArray, List.set_cons_succ, List.set_cons_zero]
  refine wpAnyH_take (i := 7) (oi := _) (v := .int .i64 0) rfl (by kernel_rfl) (by kernel_rfl) (by kernel_rfl) (fun _ _ _ h => h) (Or.inl ⟨by rfl, fun w' hSw => by have xx := (H4.keep hSw).X.cells; go_simp⟩) hHeld ?_
  try simp only [Act.put, List.getElem_toArray, List.getElem_cons_succ, List.getElem_cons_zero, List.setIfInBounds_toArray, List.set_cons_succ, List.set_cons_zero]
  have gz0 := hHeld.size
  refine wpAnyH_ready (rs := [8]) (by kernel_rfl) (by simp) ?_
  refine AllReadyH.cons (o := _) rfl (fun K hK => ?_) AllReadyH.nil
  go_simp
  refine (blocks9 _).mono ?_
  rintro e z1 ⟨gq, cq, rfl, hcq, hgq, hq0, hq1, hb⟩
  have hHeld' := hHeld.trans (hb.mono hHeld.size)
  refine hK.out _ _ hHeld' (fun hHeld => ?_)
  clear hK K hHeld'
  try simp only [Act.put, List.getElem_toArray, List.getElem_cons_succ, List.getElem_cons_zero, List.setIfInBounds_toArray, List.set_cons_succ, List.set_cons_zero]
  refine wpAnyH_take (i := 9) (oi := _) (v := .slice (some ⟨gq, 0, none⟩) 2 cq) rfl (by kernel_rfl) (by kernel_rfl) (by kernel_rfl) (fun _ _ _ h => h) (Or.inl ⟨by rfl, fun w' hSw => by go_simp⟩) hHeld ?_
  try simp only [Act.put, List.getElem_toArray, List.getElem_cons_succ, List.getElem_cons_zero, List.setIfInBounds_toArray, List.set_cons_succ, List.set_cons_zero]
  refine wpAnyH_done (by kernel_rfl) ?_ _
  have H5 := H4.keep hHeld
  have A5 := A4.keep hHeld
  have gz := hHeld.size
  have x5 := H5.X.cells
  have z5 := H5.X.frozen
  have e5 : (z1.cell? ⟨gx, 18, none⟩).isSome = true := by rw [x5, f18]; rfl
  have H6 := H5.set (s' := { s2 with p := { s2.p with b := 1 } }) 18 (.int .i64 1) rfl
  have A6 := A5.setCell hg 18 (.int .i64 1)
  have hgn : gq ≠ gx := by have := hb.size; have := H4.lt; omega
  have rq : Reads (z1.setCell ⟨gx, 18, none⟩ (.int .i64 1)) .i64 (.slice (some ⟨gq, 0, none⟩) 2 cq) [0, 1] := by
    obtain ⟨ad, cap', e', h1, h2, h3⟩ := hq1
    simp only [Value.slice.injEq] at e'
    obtain ⟨rfl, _, rfl⟩ := e'
    rcases h3 with h3 | ⟨b', off, e2, hbl, hc⟩
    · cases h3
    · simp only [Option.some.injEq, Addr.mk.injEq, and_true] at e2
      obtain ⟨rfl, rfl⟩ := e2
      exact ⟨_, _, rfl, h1, h2, .inr ⟨_, _, rfl, by simpa using hbl, fun i hi => (World.cell?_of_block (heap_setCell_other z1 ⟨gx, 18, none⟩ gq (.int .i64 1) hgn)).trans (hc i hi)⟩⟩
  obtain ⟨z6, hz6⟩ : ∃ u, u = z1.setCell ⟨gx, 18, none⟩ (.int .i64 1) := ⟨_, rfl⟩
  have gz6 : z1.heap.size = z6.heap.size := by rw [hz6]; simp
  rw [← hz6] at H6 A6 rq
  have AE : Anew n z6 ({ s2 with p := { s2.p with b := 1 } } : Wk) { x with p := { p' with b := 1 } } := ⟨by rw [HEP.out], A6.rk, A6.l0, A6.l1, A6.l2, A6.hl, A6.rd⟩
  have rt := reads_tail9 rq
  have hc1 : (cq = 1) = False := by simp; omega
  obtain ⟨t, ht⟩ : ∃ t : Wk, t = { s2 with p := { s2.p with b := 1 } } := ⟨_, rfl⟩
  rw [← ht] at H6 AE
  have HZ6 := Lib.hid hz6
  clear hHeld hS0 hb H5 A5 A6 hz6 ht hq1 rq
  go_wp2_with (first | (rw [← HZ6.out]; clear HZ6 x5 z5 e5 hq0))
  have F6 := H6.keep (w' := z6.drew) (Below.drew (Below.refl _ _))
  have AF := AE.keep (w' := z6.drew) (Below.drew (Below.refl _ _))
  have rf := rt.keep (w' := z6.drew) (Below.drew (Below.refl _ _))
  have sz7 : n ≤ z6.drew.heap.size := by have := (Below.drew (Below.refl z6.heap.size z6)).size; omega
  refine wp_region_held_drew (S := fun _ => True) (by kernel_rfl) trivial (fun hHeld => ?_)
  obtain ⟨v9, hv9⟩ : ∃ u, u = z6.drew := ⟨_, rfl⟩
  rw [← hv9] at F6 AF rf sz7 ⊢
  clear hv9 H6 AE rt
  refine wpAnyH_take (i := 0) (oi := _) (v := .pointer (some ⟨gx, 0, none⟩)) rfl (by kernel_rfl) (by kernel_rfl) (by kernel_rfl) (fun _ _ _ h => h) (Or.inl ⟨by rfl, fun w' hSw => by go_simp⟩) hHeld ?_
  try simp only [Act.put, List.getElem_toArray, List.getElem_cons_succ, List.getElem_cons_zero, List.setIfInBounds_toArray, List.set_cons_succ, List.set_cons_zero]
  refine wpAnyH_take (i := 1) (oi := _) (v := .pointer (some ⟨gx, 0, none⟩)) rfl (by kernel_rfl) (by kernel_rfl) (by kernel_rfl) (fun _ _ _ h => h) (Or.inl ⟨by rfl, fun w' hSw => by go_simp⟩) hHeld ?_
  try simp only [Act.put, List.getElem_toArray, List.getElem_cons_succ, List.getElem_cons_zero, List.setIfInBounds_toArray, List.set_cons_succ, List.set_cons_zero]
  refine wpAnyH_take (i := 2) (oi := _) (v := .pointer (some ⟨gx, 0, none⟩)) rfl (by kernel_rfl) (by kernel_rfl) (by kernel_rfl) (fun _ _ _ h => h) (Or.inl ⟨by rfl, fun w' hSw => by go_simp⟩) hHeld ?_
  try simp only [Act.put, List.getElem_toArray, List.getElem_cons_succ, List.getElem_cons_zero, List.setIfInBounds_toArray, List.set_cons_succ, List.set_cons_zero]
  refine wpAnyH_take (i := 4) (oi := _) (v := .slice (some ⟨gq, 0, none⟩) 2 cq) rfl (by kernel_rfl) (by kernel_rfl) (by kernel_rfl) (fun _ _ _ h => h) (Or.inl ⟨by rfl, fun w' hSw => by go_simp⟩) hHeld ?_
  try simp only [Act.put, List.getElem_toArray, List.getElem_cons_succ, List.getElem_cons_zero, List.setIfInBounds_toArray, List.set_cons_succ, List.set_cons_zero]
  refine wpAnyH_take (i := 5) (oi := _) (v := .slice (some ⟨gq, 1, none⟩) 1 (cq - 1)) rfl (by kernel_rfl) (by kernel_rfl) (by kernel_rfl) (fun _ _ _ h => h) (Or.inl ⟨by rfl, fun w' hSw => by go_simp⟩) hHeld ?_
  try simp only [Act.put, List.getElem_toArray, List.getElem_cons_succ, List.getElem_cons_zero, List.setIfInBounds_toArray, List.set_cons_succ, List.set_cons_zero]
  refine wpAnyH_ready (rs := [3]) (by kernel_rfl) (by simp) ?_
  refine AllReadyH.cons (o := _) rfl (fun K hK => ?_) AllReadyH.nil
  refine step_load9 rfl 46 _ rfl gx rfl (wc t) 46 _ F6.X Try.underlying46 rfl (by kernel_rfl) ?_
  refine hK.out _ _ trivial (fun hHeld => ?_)
  clear hK K
  try simp only [Act.put, List.getElem_toArray, List.getElem_cons_succ, List.getElem_cons_zero, List.setIfInBounds_toArray, List.set_cons_succ, List.set_cons_zero]
  refine wpAnyH_ready (rs := [6]) (by kernel_rfl) (by simp) ?_
  refine AllReadyH.cons (o := _) rfl (fun K hK => ?_) AllReadyH.nil
  go_simp
  refine (rackHold t { x with p := { p' with b := 1 } } ⟨hx.rk, hx.l0, hx.l1, hx.l2, hx.hl, hx.rd⟩ ⟨some ⟨gq, 1, none⟩, 1, cq - 1⟩ [1] (by decide) v9 AF.lies rf).mono ?_
  rintro e v10 ⟨t2, rfl, ⟨L2, c1', c2', c3', c4', O2, A2⟩, hb⟩
  refine hK.out _ _ trivial (fun hHeld => ?_)
  clear hK K
  try simp only [Act.put, List.getElem_toArray, List.getElem_cons_succ, List.getElem_cons_zero, List.setIfInBounds_toArray, List.set_cons_succ, List.set_cons_zero]
  refine wpAnyH_take (i := 7) (oi := _) (v := .pointer (some ⟨gx, 0, none⟩)) rfl (by kernel_rfl) (by kernel_rfl) (by kernel_rfl) (fun _ _ _ h => h) (Or.inl ⟨by rfl, fun w' hSw => by go_simp⟩) hHeld ?_
  try simp only [Act.put, List.getElem_toArray, List.getElem_cons_succ, List.getElem_cons_zero, List.setIfInBounds_toArray, List.set_cons_succ, List.set_cons_zero]
  have F7 := F6.keep hb
  have F8 := F7.row9 t2
  have PA0 : Part v9.heap.size v10 t2 { x with p := { p' with b := 1 }, hl := x.hl ++ [1] } := ⟨A2.p, A2.rk, A2.l0, A2.l1, A2.l2, O2, A2.rd⟩
  have PA : Part n (v10.setRow gx (wc t2)) t2 { x with p := { p' with b := 1 }, hl := x.hl ++ [1] } := (Part.base PA0 sz7).setRow hg (wc t2)
  refine wpAnyH_ready (rs := [8]) (by kernel_rfl) (by simp) ?_
  refine AllReadyH.cons (o := _) rfl (fun K hK => ?_) AllReadyH.nil
  refine step_row rfl 46 _ _ rfl gx (wc t2) rfl rfl _ _ (by exact F7.X) (by kernel_rfl) (by kernel_rfl) (by kernel_rfl) ?_
  refine hK.out _ _ trivial (fun hHeld => ?_)
  clear hK K
  refine wpAnyH_done (by kernel_rfl) ?_ _
  clear F7 F6 AF rf hb
  go_wp2
  go_ret
  first | exact ⟨t2, rfl, F8, PA⟩ | exact ⟨rfl, t2, F8, PA⟩
set_option maxRecDepth 10000 in
set_option maxHeartbeats 4000000 in
theorem tkl10 {B n : Nat} {w0 w : World} {g gl cap gx : Nat} {c : Cfg} {a a' : Acc} {L L' : List Int} {s : Wk} {p' : Pl} (h : MX B w0 g gl cap gx c a L s w) (hm : L.length ≤ 1000) (hL : WR L) (hf : c.Wf) (x : St) (hx : Few 900 x) (A : Anew n w s x) (hp : PR x.p) (hn : n ≤ w.heap.size) (hg : gx < n) (hl : s.p.ln = 10) (hr : (stackLn c a L x.p).fin = ⟨a', L', p', 2, true⟩) (hv : 0 ≤ p'.v ∧ p'.v < 18446744073709551616) :
    Calls Try.prog 134 #[.pointer (some ⟨g, 0, none⟩), .pointer (some ⟨gx, 0, none⟩)] w (LT B w0 g gl cap gx c n a' L' 0 true { x with p := { p' with u := p'.v / 4294967296, j := 0, ln := 33 } }) := by
  have HC := Lib.hid (tkPop2 h hm hL hf x hx A hp hn hg hr hv)
  have f0 : ∀ s : Wk, (wc s)[0]? = some (.int .i64 s.p.ln) := fun _ => rfl
  have t10 : (s.p.ln == 10) = true := by simp [hl]
  have x0 := h.X.cells
  clear hl
  go_enter Try.func134, Try.ntmps134
  go_wp2_with fail
  refine HC.out.mono ?_
  rintro en w1 ⟨s3, rfl, H1, A1⟩
  go_wp2
  go_ret2
  exact ⟨s3, rfl, H1, A1.part⟩
set_option maxRecDepth 10000 in
set_option maxHeartbeats 4000000 in
theorem tkl33 {B n : Nat} {w0 w : World} {g gl cap gx : Nat} {c : Cfg} {a a' : Acc} {L L' : List Int} {s : Wk} {p' : Pl} (h : MX B w0 g gl cap gx c a L s w) (hm : L.length ≤ 1000) (hL : WR L) (hf : c.Wf) (x : St) (hx : Few 900 x) (A : Anew n w s x) (hp : PR x.p) (hn : n ≤ w.heap.size) (hg : gx < n) (hl : s.p.ln = 33) (hr : (slabLn c a L x.p).fin = ⟨a', L', p', 0, true⟩) :
    Calls Try.prog 134 #[.pointer (some ⟨g, 0, none⟩), .pointer (some ⟨gx, 0, none⟩)] w (LT B w0 g gl cap gx c n a' L' 0 true { x with p := p' }) := by
  have HC := Lib.hid (tkClaim0 h hm hL hf x hx A hp hn hg hr)
  have f0 : ∀ s : Wk, (wc s)[0]? = some (.int .i64 s.p.ln) := fun _ => rfl
  have t10 : (s.p.ln == 10) = false := by simp [hl]
  have t11 : (s.p.ln == 11) = false := by simp [hl]
  have t12 : (s.p.ln == 12) = false := by simp [hl]
  have t30 : (s.p.ln == 30) = false := by simp [hl]
  have t31 : (s.p.ln == 31) = false := by simp [hl]
  have t32 : (s.p.ln == 32) = false := by simp [hl]
  have t33 : (s.p.ln == 33) = true := by simp [hl]
  have x0 := h.X.cells
  clear hl
  go_enter Try.func134, Try.ntmps134
  go_wp2_with fail
  refine HC.out.mono ?_
  rintro en w1 ⟨s3, rfl, H1, A1⟩
  go_wp2
  go_ret2
  exact ⟨s3, rfl, H1, A1.part⟩
set_option maxRecDepth 10000 in
set_option maxHeartbeats 4000000 in
theorem tkl34 {B n : Nat} {w0 w : World} {g gl cap gx : Nat} {a a' : Acc} {L L' : List Int} {s : Wk} {p' : Pl} (h : MX B w0 g gl cap gx c9 a L s w) (hm : L.length ≤ 1000) (hL : WR L) (x : St) (hx : Few 900 x) (A : Anew n w s x) (hp : PR x.p) (hn : n ≤ w.heap.size) (hg : gx < n) (hl : s.p.ln = 34) (hr : (slabLn c9 a L x.p).fin = ⟨a', L', p', 1, true⟩) (hj : p'.j = 0) :
    Calls Try.prog 134 #[.pointer (some ⟨g, 0, none⟩), .pointer (some ⟨gx, 0, none⟩)] w (LT B w0 g gl cap gx c9 n a' L' 1 true { x with p := { p' with b := 1 }, hl := x.hl ++ [1] }) := by
  have HC := Lib.hid (tkClaim1 h hm hL x hx A hp hn hg hr hj)
  have f0 : ∀ s : Wk, (wc s)[0]? = some (.int .i64 s.p.ln) := fun _ => rfl
  have t10 : (s.p.ln == 10) = false := by simp [hl]
  have t11 : (s.p.ln == 11) = false := by simp [hl]
  have t12 : (s.p.ln == 12) = false := by simp [hl]
  have t30 : (s.p.ln == 30) = false := by simp [hl]
  have t31 : (s.p.ln == 31) = false := by simp [hl]
  have t32 : (s.p.ln == 32) = false := by simp [hl]
  have t33 : (s.p.ln == 33) = false := by simp [hl]
  have t34 : (s.p.ln == 34) = true := by simp [hl]
  have x0 := h.X.cells
  clear hl
  go_enter Try.func134, Try.ntmps134
  go_wp2_with fail
  refine HC.out.mono ?_
  rintro en w1 ⟨s3, rfl, H1, A1⟩
  go_wp2
  go_ret2
  exact ⟨s3, rfl, H1, A1⟩
set_option maxRecDepth 10000 in
set_option maxHeartbeats 4000000 in
theorem takeBegin (s : Wk) (x : St) (hx : Few 1000 x) (w : World) (h : Lies w s x) (h0 : s.rk.len = 0) : Calls Try.prog 81 #[wv s] w fun e w' => ∃ s2, e = .returned (wv s2) ∧ Anew w.heap.size w' s2 { x with p := { x.p with ln := 10 } } ∧ Below w.heap.size w w' := by
  have T0 := Two.start w s
  have e10 : ∀ s : Wk, (wc s)[10]? = some (.slice s.rk.ad s.rk.len s.rk.cap) := fun _ => rfl
  have f0 : ∀ s : Wk, (wc s)[0]? = some (.int .i64 s.p.ln) := fun _ => rfl
  have x0 := T0.X.cells
  have hz : (((s.rk.len : Nat) : Int) == 0) = true := by simp [h0]
  go_enter Try.func81, Try.ntmps81
  go_wp2_with (first | ((with_reducible refine wpList_alloc_wz rfl rfl ?_)) | (refine wpList_load_row rfl 46 _ rfl (w.heap.size) rfl _ (wc s) (0, 0) _ (by exact T0.X) Try.underlying46 rfl (by kernel_rfl) ?_))
  refine (copyWork s x hx _ (h.keep T0.below)).mono ?_
  rintro e w1 ⟨s1, rfl, A1, hb1⟩
  have T1 := T0.keep hb1
  have b1 := T1.lt
  have T2 := T1.rowX s1
  have hsz : ((w.alloc (.cells (wc s) 46)).alloc (.cells (wc wz) 46)).heap.size = w.heap.size + 2 := by simp
  rw [hsz] at A1 hb1
  have A2 := A1.setRow (g := w.heap.size) (by omega) (wc s1)
  obtain ⟨w2, hw2⟩ : ∃ u, u = w1.setRow w.heap.size (wc s1) := ⟨_, rfl⟩
  rw [← hw2] at A2 T2
  have x2 := T2.X.cells
  have z2 := T2.X.frozen
  have e2 : (w2.cell? ⟨w.heap.size, 0, none⟩).isSome = true := by rw [x2, f0]; rfl
  have X3 : Bk (w2.setCell ⟨w.heap.size, 0, none⟩ (.int .i64 10)) w.heap.size (wc ({ s1 with p := { s1.p with ln := 10 } } : Wk)) 46 := T2.X.setCell 0 (.int .i64 10)
  have Z3 := T2.Z.setCell_far (a := ⟨w.heap.size, 0, none⟩) (by simp) (.int .i64 10)
  have A3 := A2.setCell (g := w.heap.size) (by omega) 0 (.int .i64 10)
  have hb3 := T2.below.setCell (p := ⟨w.heap.size, 0, none⟩) (Nat.le_refl _) (.int .i64 10)
  have hp := A1.p
  clear A1 hb1 T0 x0
  go_wp2_with (first | (refine wpList_store_row rfl 46 _ _ rfl (w.heap.size) (wc s1) rfl rfl _ _ (by exact T1.X) (by kernel_rfl) (by kernel_rfl) (by kernel_rfl) ?_; rw [← hw2]; clear hw2 T1) | (refine wpList_load_row rfl 46 _ rfl (w.heap.size) rfl _ (wc ({ s1 with p := { s1.p with ln := 10 } } : Wk)) (0, 0) _ (by exact X3) Try.underlying46 rfl (by kernel_rfl) ?_) | (refine wpList_store_row rfl 46 _ _ rfl (w.heap.size + 1) (wc ({ s1 with p := { s1.p with ln := 10 } } : Wk)) rfl rfl _ _ (by exact Z3) (by kernel_rfl) (by kernel_rfl) (by kernel_rfl) ?_))
  have ZF := Z3.setRow (wc ({ s1 with p := { s1.p with ln := 10 } } : Wk))
  have A4 := A3.setRow (g := w.heap.size + 1) (by omega) (wc ({ s1 with p := { s1.p with ln := 10 } } : Wk))
  refine bodyPost_ret (v := wv ({ s1 with p := { s1.p with ln := 10 } } : Wk)) ?_ rfl ⟨_, rfl, ⟨by rw [hp], (A4.rk.base (by omega)), (A4.l0.base (by omega)), (A4.l1.base (by omega)), (A4.l2.base (by omega)), (A4.hl.base (by omega)), (A4.rd.base (by omega))⟩, below_setRow hb3 (by omega) _⟩
  exact results_cell_row (p := 2) (ty := 46) Try.results81 _ _ (w.heap.size + 1) 46 _ (0, 0) _ rfl ZF Try.underlying46 rfl (by kernel_rfl)
end Go.Proofs.Ytblkfbbdeodpjaa.Me

/- The reference's functions of layer 16: One, first, Of; Same on equal answers. -/
import Derived.Test.YtgpdkagmacpghaaOrdOf
import Derived.Laws.StructEq
import Derived.Deep.MidRow
namespace Go.Proofs.Ytgpdkagmacpghaa.Od
open Go Go.RowKit Go.Proofs.Ytgpdkagmacpghaa.Gro Go.Proofs.Ytgpdkagmacpghaa.Own Go.Proofs.Ytgpdkagmacpghaa.Wd Go.Proofs.Ytgpdkagmacpghaa.Ap Go.Proofs.Ytgpdkagmacpghaa.Pl Go.Proofs.Ytgpdkagmacpghaa.Wo Go.Proofs.Ytgpdkagmacpghaa.Shp Go.Proofs.Ytgpdkagmacpghaa.Mr Go.ChangeMaps
set_option linter.unusedVariables false
set_option linter.unusedSimpArgs false
section
variable {P : Program} {ops : Array Oper} {C : World → Prop} {Q : Act → Prop} {a : Act} {o : Oper} {rest : List Oper}
theorem wpQuiet_load_mid (hw : Region.wanted o (yielded ops a.tmps) = true) (ty : TypeId) (x : Operand) (ho : o.op = .load ty x) (b off : Nat) (hx : a.eval x = .pointer (some ⟨b, off, none⟩)) (cs : List Value) (d : TypeDesc)
    (hC : ∀ w, C w → w.rangeAt b off cs) (hu : P.underlying ty = some d) (hd : d.isRow = true) (hi : (P.info? ty).map (·.size) = some cs.length)
    (h : wpQuiet P ops C Q rest (a.put o.dst (.agg cs.toArray))) : wpQuiet P ops C Q (o :: rest) a := by
  unfold wpQuiet
  rw [if_pos hw]
  refine ⟨.agg cs.toArray, fun w hc => ?_, h⟩
  unfold Oper.quietAt execOp
  simp only [ho, hx, Instr.loadAt, Instr.sureAddr, Sem.run_bind, Sem.run_pure, Result.andThen_ok, run_loadVar_mid w b off ty cs d (hC w hc) hu hd hi]
  exact ⟨rfl, rfl⟩
end
section
variable {P : Program} {ops : Array Oper} {a : Act} {o : Oper} {w : World} {rest : List Oper} {Q : Exit → Act → World → Prop}
theorem wpList_load_mid_w (hw : Region.wanted o (yielded ops a.tmps) = true) (ty : TypeId) (x : Operand) (ho : o.op = .load ty x)
    (b off : Nat) (hx : a.eval x = .pointer (some ⟨b, off, none⟩)) (cs : List Value) (d : TypeDesc) (hc : w.rangeAt b off cs)
    (hu : P.underlying ty = some d) (hd : d.isRow = true) (hi : (P.info? ty).map (·.size) = some cs.length)
    (h : wpList P ops Q rest (a.put o.dst (.agg cs.toArray)) w) : wpList P ops Q (o :: rest) a w :=
  wpList_step fun K hK => by rw [if_pos hw]; exact wp_load_mid ty x ho b off hx cs d hc hu hd hi (hK _ _ h)
end
set_option maxRecDepth 10000 in
theorem refOne (a b : Shp.Ev) (w : World) : Calls Try.prog 86 #[.agg (ec a), .agg (ec b)] w fun e w' => e = .returned (.bool (decide ((a.wo, a.n) = (b.wo, b.n)))) ∧ Below w.heap.size w w' := by
  have X0 := (Bk.new w (ec a) 99).alloc (.cells (ec b) 99)
  have Y0 := Bk.new (w.alloc (.cells (ec a) 99)) (ec b) 99
  rw [World.size_alloc] at Y0
  have hw0 : Below w.heap.size w ((w.alloc (.cells (ec a) 99)).alloc (.cells (ec b) 99)) := ((Below.refl _ _).alloc (Nat.le_refl _) _).alloc (by simp) _
  have x0 := X0.cells
  have y0 := Y0.cells
  have lx := X0.lt
  have ly := Y0.lt
  have f1 : ∀ s : Shp.Ev, (ec s)[1]? = some (.int .i64 s.wo) := fun _ => rfl
  have f2 : ∀ s : Shp.Ev, (ec s)[2]? = some (.int .i64 s.n) := fun _ => rfl
  clear X0 Y0
  by_cases h1 : a.wo = b.wo
  · have t1 : (a.wo == b.wo) = true := by simp [h1]
    by_cases h2 : a.n = b.n
    · have t2 : (a.n == b.n) = true := by simp [h2]
      have hd : decide ((a.wo, a.n) = (b.wo, b.n)) = true := by simp [h1, h2]
      have HD := Lib.hid hd
      clear h1 h2 hd
      go_enter Try.func86, Try.ntmps86
      go_wp2
      go_ret
      exact ⟨Wd.ret_bool HD.out.symm, hw0⟩
    · have t2 : (a.n == b.n) = false := by simp [h2]
      have hd : decide ((a.wo, a.n) = (b.wo, b.n)) = false := by simp [h2]
      have HD := Lib.hid hd
      clear h1 h2 hd
      go_enter Try.func86, Try.ntmps86
      go_wp2
      go_ret
      exact ⟨Wd.ret_bool HD.out.symm, hw0⟩
  · have t1 : (a.wo == b.wo) = false := by simp [h1]
    have hd : decide ((a.wo, a.n) = (b.wo, b.n)) = false := by simp [h1]
    have HD := Lib.hid hd
    clear h1 hd
    go_enter Try.func86, Try.ntmps86
    go_wp2
    go_ret
    exact ⟨Wd.ret_bool HD.out.symm, hw0⟩
def fI : Option Nat → Int
  | none => -1
  | some j => j
theorem first_end (ad : Option Addr) (cap n : Nat) (e : Shp.Ev) (kd : Int) (w : World) : Calls Try.prog 56 #[.slice ad n cap, .agg (ec e), .int .i64 kd, .int .i64 (n : Int)] w fun en w' => en = .returned (.int .i64 (-1)) ∧ Below w.heap.size w w' := by
  go_enter Try.func56, Try.ntmps56
  go_wp2
  refine wp_loop_rounds 1 ?_
  rw [rounds_succ]
  go_wp2
  go_ret
  exact ⟨rfl, (Below.refl _ _).alloc (Nat.le_refl _) _⟩
set_option maxRecDepth 10000 in
set_option maxHeartbeats 4000000 in
theorem first_pos (b off cap : Nat) (es : List Shp.Ev) (e : Shp.Ev) (kd : Int) (from_ : Nat) (w : World) (hf : from_ ≤ es.length) (hm : es.length ≤ 100000) (hb : b < w.heap.size) (hr : ∀ i (h : i < es.length), w.rangeAt b (off + i * 20) (ec es[i]).toList) :
    Calls Try.prog 56 #[.slice (some ⟨b, off, none⟩) es.length cap, .agg (ec e), .int .i64 kd, .int .i64 (from_ : Int)] w fun en w' => en = .returned (.int .i64 (fI (fst (es.map evo) kd (e.wo, e.n) from_))) ∧ Below w.heap.size w w' := by
  have HR := Lib.hid hr
  have HBL := Lib.hid hb
  have HONE := Lib.hid refOne
  clear hr hb
  have f3 : ∀ s : Shp.Ev, (ec s)[3]? = some (.int .i64 s.kd) := fun _ => rfl
  have X0 := Bk.new w (ec e) 99
  have hw0 : Below w.heap.size w (w.alloc (.cells (ec e) 99)) := (Below.refl _ _).alloc (Nat.le_refl _) _
  have HX0 := Lib.hid X0
  have HW0 := Lib.hid hw0
  obtain ⟨w0, hw0'⟩ : ∃ u, u = w.alloc (.cells (ec e) 99) := ⟨_, rfl⟩
  rw [← hw0'] at HX0 HW0
  clear X0 hw0
  go_enter Try.func56, Try.ntmps56
  go_wp2
  rw [← hw0']
  clear hw0'
  go_loopw [9] (fun i wr => ∃ k : Nat, k ≤ es.length ∧ i = .int .i64 k ∧ fst (es.map evo) kd (e.wo, e.n) from_ = fst (es.map evo) kd (e.wo, e.n) k ∧ Below w0.heap.size w0 wr) (fun i _ => es.length - (intOf i).toNat)
  case atStart => exact ⟨from_, hf, rfl, rfl, Below.refl _ _⟩
  case round =>
    obtain ⟨k, hk, rfl, hF, hbw⟩ := hrel
    have hw0 := HW0.out
    have hbr := hw0.trans (hbw.mono hw0.size)
    by_cases hlt : k < es.length
    · have hr' : ∀ w', Below wr.heap.size wr w' → w'.rangeAt b (off + k * 20) (ec es[k]).toList := fun w' h' j v hv => ((hbr.trans (h'.mono hbr.size)).cell (p := ⟨b, _, none⟩) HBL.out).trans (HR.out k hlt j v hv)
      have hk3 : ∀ w', Below wr.heap.size wr w' → w'.cell? ⟨b, off + k * 20 + 3, none⟩ = some (.int .i64 es[k].kd) := fun w' h' => hr' w' h' 3 _ rfl
      have hbb : b < wr.heap.size := Nat.lt_of_lt_of_le HBL.out hbr.size
      have hhit := @fst_hit (es.map evo) kd (e.wo, e.n) k (by simpa using hlt)
      have hmiss := @fst_miss (es.map evo) kd (e.wo, e.n) k (by simpa using hlt)
      have e0 : (es.map evo)[k]'(by simpa using hlt) = evo es[k] := by simp
      rw [e0] at hhit hmiss
      obtain ⟨s, hs⟩ : ∃ s, s = es[k] := ⟨_, rfl⟩
      rw [← hs] at hr' hk3 hhit hmiss
      have hsum : IntKind.i64.wrap ((k : Int) + 1) = (k : Int) + 1 := IntWalk.i64_in _ (by omega)
      have X1 := HX0.out.keep hbw
      have HH := Lib.hid hhit
      have HM := Lib.hid hmiss
      have HF := Lib.hid hF
      have HB := Lib.hid hbw
      have HBR := Lib.hid hbr
      clear hs e0 hhit hmiss hF hbr hw0 hbw
      by_cases hkd : s.kd = kd
      · have tk : (s.kd == kd) = true := by simp [hkd]
        have h1 := HONE.out s e
        by_cases hq : (s.wo, s.n) = (e.wo, e.n)
        · have hx : fst (es.map evo) kd (e.wo, e.n) from_ = some k := HF.out.trans (HH.out hkd hq)
          rw [decide_eq_true hq] at h1
          have H1 := Lib.hid h1
          have HX := Lib.hid hx
          clear hkd hq h1 hx
          go_wp2
          refine wp_region_grown (by kernel_rfl) (by kernel_rfl) ?_
          have hg' := @gcell
          have hc3 := hk3 wr (Below.refl _ _)
          repeat (first | (refine wpQuiet_load_mid rfl 99 _ rfl b (off + k * 20) rfl (ec s).toList _ (by rintro _ ⟨n, rfl⟩; exact hr' n.1 n.2) Try.underlying99 rfl (by kernel_rfl) ?_; simp only [Act.put, List.setIfInBounds_toArray, List.set_cons_succ, List.set_cons_zero]) | (refine wpQuiet_load_row_w rfl 99 _ rfl w.heap.size rfl (ec e) 99 _ (by rintro _ ⟨n, rfl⟩; exact Bk.keep X1 n.2) Try.underlying99 rfl (by kernel_rfl) ?_; simp only [Act.put, List.setIfInBounds_toArray, List.set_cons_succ, List.set_cons_zero]) | go_big_quiet_step (exact grown_of (H1.out _)))
          refine wpQuiet_nil ?_
          rintro w4 ⟨⟨_, hb4⟩, rfl⟩
          clear hg' hc3
          have hbr := HBR.out
          go_wp2
          go_ret
          exact ⟨by rw [HX.out]; rfl, hbr.trans (hb4.mono hbr.size)⟩
        · have hx : fst (es.map evo) kd (e.wo, e.n) from_ = fst (es.map evo) kd (e.wo, e.n) (k + 1) := HF.out.trans (HM.out (fun h => hq h.2))
          rw [decide_eq_false hq] at h1
          have H1 := Lib.hid h1
          have HX := Lib.hid hx
          clear hkd hq h1 hx
          go_wp2
          refine wp_region_grown (by kernel_rfl) (by kernel_rfl) ?_
          have hg' := @gcell
          have hc3 := hk3 wr (Below.refl _ _)
          repeat (first | (refine wpQuiet_load_mid rfl 99 _ rfl b (off + k * 20) rfl (ec s).toList _ (by rintro _ ⟨n, rfl⟩; exact hr' n.1 n.2) Try.underlying99 rfl (by kernel_rfl) ?_; simp only [Act.put, List.setIfInBounds_toArray, List.set_cons_succ, List.set_cons_zero]) | (refine wpQuiet_load_row_w rfl 99 _ rfl w.heap.size rfl (ec e) 99 _ (by rintro _ ⟨n, rfl⟩; exact Bk.keep X1 n.2) Try.underlying99 rfl (by kernel_rfl) ?_; simp only [Act.put, List.setIfInBounds_toArray, List.set_cons_succ, List.set_cons_zero]) | go_big_quiet_step (exact grown_of (H1.out _)))
          refine wpQuiet_nil ?_
          rintro w4 ⟨⟨_, hb4⟩, rfl⟩
          clear hg' hc3
          have hbw := HB.out
          go_wp2
          go_roundw
          case rel => exact ⟨k + 1, by omega, by go_num, HX.out, hbw.trans (hb4.mono hbw.size)⟩
          case measure => simp [intOf]; omega
      · have tk : (s.kd == kd) = false := by simp [hkd]
        have hx : fst (es.map evo) kd (e.wo, e.n) from_ = fst (es.map evo) kd (e.wo, e.n) (k + 1) := HF.out.trans (HM.out (fun h => hkd h.1))
        have HX := Lib.hid hx
        clear hkd hx
        go_wp2
        refine wp_region_grown (by kernel_rfl) (by kernel_rfl) ?_
        have hg' := @gcell
        have hc3 := hk3 wr (Below.refl _ _)
        repeat (go_big_quiet_step (fail))
        refine wpQuiet_nil ?_
        rintro w4 ⟨⟨_, hb4⟩, rfl⟩
        clear hg' hc3
        have hbw := HB.out
        go_wp2
        go_roundw
        case rel => exact ⟨k + 1, by omega, by go_num, HX.out, hbw.trans (hb4.mono hbw.size)⟩
        case measure => simp [intOf]; omega
    · obtain rfl : k = es.length := by omega
      have hx : fst (es.map evo) kd (e.wo, e.n) from_ = none := hF.trans (fst_end _ _ _ _ (by simp))
      have HX := Lib.hid hx
      have HBR := Lib.hid hbr
      clear hF hx hbw
      go_wp2
      go_ret
      exact ⟨by rw [HX.out]; rfl, HBR.out⟩
end Go.Proofs.Ytgpdkagmacpghaa.Od

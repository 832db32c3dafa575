/- Part Rules13. -/
import Derived.Test.YtaiodbcnbcdokaaGreatKMaps
import Derived.Test.YtaiodbcnbcdokaaGreatKTakes
import Derived.Deep.Cut
import Derived.Deep.CutRange
set_option linter.unusedVariables false
set_option linter.unusedSimpArgs false
set_option linter.unusedSectionVars false
set_option maxRecDepth 100000
set_option maxHeartbeats 16000000
namespace Go.Proofs.YtaiodbcnbcdokaaGreat.Me
open Go Go.RowKit Go.ChangeMaps Gro Own Wd Ap Go.Proofs.YtaiodbcnbcdokaaGreat.Pl Wo Mr
abbrev fnV (k : Nat) : Value := .func (.func k) #[] #[]
abbrev aO (k a : Nat) : Value := .func (.func k) #[] #[.pointer (some ⟨a, 0, none⟩)]
abbrev dB (s g n : Value) : Value := .agg #[s, g, n]
abbrev iV : Int → Value := Value.int .i64
theorem fJ : Keys Tryz.prog 3 iV := int_keys Tryz.underlying3
theorem build3 (f1 f2 f3 : Fn) (a1 c1 a2 c2 a3 c3 : Array Value) (w : World) : (Instr.build 144 #[(0, .func f1 a1 c1), (1, .func f2 a2 c2), (2, .func f3 a3 c3)]).run Tryz.prog w = .ok (dB (.func f1 a1 c1) (.func f2 a2 c2) (.func f3 a3 c3)) w := run_build w _ _ _ ah
theorem build2 (f1 f2 : Fn) (a1 c1 a2 c2 : Array Value) (w : World) : (Instr.build 144 #[(0, .func f1 a1 c1), (1, .func f2 a2 c2)]).run Tryz.prog w = .ok (dB (.func f1 a1 c1) (.func f2 a2 c2) .nilFunc) w := run_build w _ _ _ ah
theorem makeBook (w : World) : (Instr.makeMap 147 (some (.int .i64 40))).run Tryz.prog w = .ok (.map (some w.heap.size)) (w.alloc (.map #[] 0)) := ah
theorem touch_only {b : Nat} {w u : World} (h : Only b w u) : Touch b b w u := ⟨h.os, h.tape, h.output, by rw [h.size]; exact Nat.le_refl _, fun i _ h1 _ => h.block i h1⟩
theorem map_cell {w : World} {b : Nat} {es : Array MapEntry} {c o : Nat} (h : w.heap[b]? = some (.map es c)) : w.cell? ⟨b, o, none⟩ = none := by
 unfold World.cell?
 simp [h]
theorem aB {κ : Type} {val : κ → Value} {L : List (κ × Value)} {w u : World} {b : Nat} (h : MapAt w b val L) (t : Below w.heap.size w u) : MapAt u b val L := by
 obtain ⟨es, c, hb, hL⟩ := h
 exact ⟨es, c, (t.block b (Array.getElem?_eq_some_iff.1 hb).1).trans hb, hL⟩
theorem iG {κ : Type} {val : κ → Value} {L : List (κ × Value)} {w : World} {b : Nat} (h : MapAt w b val L) : b < w.heap.size := by
 obtain ⟨es, c, hb, hL⟩ := h
 exact (Array.getElem?_eq_some_iff.1 hb).1
theorem reads_at {w : World} {k : IntKind} {x : Sl} {l : List Int} (h : Reads w k x.v l) {i : Nat} (hi : i < l.length) : ∃ b off, x.ad = some ⟨b, off, none⟩ ∧ b < w.heap.size ∧ w.cell? ⟨b, off + i, none⟩ = some (.int k l[i]) := qa25
theorem foldl_take (r : Value) (ks : List Int) (L : List (Int × Value)) (k : Nat) (hk : k < ks.length) : (ks.take (k + 1)).foldl (fun L k => upd k r L) L = upd ks[k] r ((ks.take k).foldl (fun L k => upd k r L) L) := by
 rw [List.take_add_one, List.getElem?_eq_getElem hk, Option.toList_some, List.foldl_append, List.foldl_cons, List.foldl_nil]
theorem bP {w : World} {b : Nat} {s g n : Value} {y : Sl} {ks : List Int} {L : List (Int × Value)} (hm : MapAt w b iV L) (hr : Reads w .i64 y.v ks) (hk : ks.length ≤ 20) :
  Calls Tryz.prog 132 #[.map (some b), dB s g n, y.v] w fun e w' => e = .returned (.tuple #[]) ∧ MapAt w' b iV (ks.foldl (fun L k => upd k (dB s g n) L) L) ∧ Touch b b w w' := by
 have hl := bI hr
 obtain ⟨ad, len, cap⟩ := y
 simp only at hl
 subst hl
 have R0 := Bk.new w #[s, g, n] 144
 have b0 : Below w.heap.size w (w.alloc (.cells #[s, g, n] 144)) := (Below.refl _ _).alloc (Nat.le_refl _) _
 have lb := iG hm
 have M0 := aB hm b0
 have T0 : Touch b b w (w.alloc (.cells #[s, g, n] 144)) := Touch.of_below b0
 have HR := Lib.hid hr
 have HM := Lib.hid hm
 clear hm hr b0
 simp only [Sl.v]
 go_enter Tryz.func132, Tryz.ntmps132
 go_wp2
 go_loopw [10] (fun i wr => ∃ k : Nat, k ≤ ks.length ∧ i = .int .i64 k ∧ MapAt wr b iV ((ks.take k).foldl (fun L k => upd k (dB s g n) L) L) ∧ Touch b b w wr ∧ Bk wr w.heap.size #[s, g, n] 144) (fun i _ => ks.length - (intOf i).toNat)
 case atStart => exact ⟨0, Nat.zero_le _, rfl, M0, T0, R0⟩
 case round =>
  clear M0 T0 R0
  obtain ⟨k, hk1, rfl, MM, TT, RR⟩ := hrel
  by_cases hlt : k < ks.length
  ·obtain ⟨bb, off, hadx, lbb, hc⟩ := reads_at HR.out (i := k) hlt
   have hne : bb ≠ b := by
    intro e
    subst e
    obtain ⟨es, c, hb, _⟩ := HM.out
    rw [map_cell hb] at hc
    cases hc
   simp only at hadx
   subst hadx
   have hc1 : wr.cell? ⟨bb, off + k, none⟩ = some (.int .i64 ks[k]) := (World.cell?_of_block (TT.block bb lbb hne hne)).trans hc
   obtain ⟨q, hq⟩ : ∃ q, q = ks[k] := ⟨_, rfl⟩
   have hf := foldl_take (dB s g n) ks L k hlt
   rw [← hq] at hc1 hf
   obtain ⟨L1, hL1⟩ : ∃ l, l = (ks.take k).foldl (fun L k => upd k (dB s g n) L) L := ⟨_, rfl⟩
   rw [← hL1] at MM hf
   have HF := Lib.hid hf
   have hk2 : (k : Int) < (ks.length : Int) := aj
   have hsum : IntKind.i64.wrap ((k : Int) + 1) = (k : Int) + 1 := IntWalk.i64_in _ aj
   clear hc hq hf hL1
   go_wp2_with (first | (refine wpList_load_row rfl 144 _ rfl w.heap.size rfl _ #[s, g, n] (0, 0) _ (by exact RR) Tryz.underlying144 rfl ah ?_) | (refine wpList_upd rfl _ _ _ rfl fJ Tryz.underlying147 b L1 rfl q rfl (dB s g n) rfl (by exact MM) ?_; intro w9 M9 O9; have RR9 := O9.bk RR aj; have TT9 := TT.trans (touch_only O9); clear MM RR TT O9 hc1))
   go_roundw
   case rel => exact ⟨k + 1, by omega, by go_num, by rw [HF.out]; exact M9, TT9, RR9⟩
   case measure => simp [intOf]; omega
  ·obtain rfl : k = ks.length := by omega
   rw [List.take_length] at MM
   go_wp2
   go_end0
   exact ⟨rfl, MM, TT⟩
theorem jF (v : Nat) (w : World) : Calls Tryz.prog 139 #[fnV v] w fun e w' => ∃ a, e = .returned (aO 163 a) ∧ Bk w' a #[fnV v] 193 ∧ w.heap.size ≤ a ∧ Below w.heap.size w w' := by
 have hmf : ∀ (fn : Fn) (first cap : Array Value) (w : World), (Instr.makeFunc fn first cap).run Tryz.prog w = .ok (.func fn first cap) w := fun _ _ _ _ => rfl
 go_enter Tryz.func139, Tryz.ntmps139
 exact qa26
theorem mk_to (v : Int) (w : World) : Calls Tryz.prog 136 #[(.int .i64 v)] w fun e w' => ∃ a, e = .returned (aO 160 a) ∧ Bk w' a #[.int .i64 v] 3 ∧ w.heap.size ≤ a ∧ Below w.heap.size w w' := by
 have hmf : ∀ (fn : Fn) (first cap : Array Value) (w : World), (Instr.makeFunc fn first cap).run Tryz.prog w = .ok (.func fn first cap) w := fun _ _ _ _ => rfl
 go_enter Tryz.func136, Tryz.ntmps136
 exact qa26
theorem jM (v : Int) (w : World) : Calls Tryz.prog 141 #[(.int .i64 v)] w fun e w' => ∃ a, e = .returned (aO 165 a) ∧ Bk w' a #[.int .i64 v] 32 ∧ w.heap.size ≤ a ∧ Below w.heap.size w w' := by
 have hmf : ∀ (fn : Fn) (first cap : Array Value) (w : World), (Instr.makeFunc fn first cap).run Tryz.prog w = .ok (.func fn first cap) w := fun _ _ _ _ => rfl
 go_enter Tryz.func141, Tryz.ntmps141
 exact qa26
theorem iF (v : Int) (w : World) : Calls Tryz.prog 147 #[(.int .i64 v)] w fun e w' => ∃ a, e = .returned (aO 170 a) ∧ Bk w' a #[.int .i64 v] 32 ∧ w.heap.size ≤ a ∧ Below w.heap.size w w' := by
 have hmf : ∀ (fn : Fn) (first cap : Array Value) (w : World), (Instr.makeFunc fn first cap).run Tryz.prog w = .ok (.func fn first cap) w := fun _ _ _ _ => rfl
 go_enter Tryz.func147, Tryz.ntmps147
 exact qa26
theorem jL (v : Int) (w : World) : Calls Tryz.prog 146 #[(.int .i64 v)] w fun e w' => ∃ a, e = .returned (aO 169 a) ∧ Bk w' a #[.int .i64 v] 3 ∧ w.heap.size ≤ a ∧ Below w.heap.size w w' := by
 have hmf : ∀ (fn : Fn) (first cap : Array Value) (w : World), (Instr.makeFunc fn first cap).run Tryz.prog w = .ok (.func fn first cap) w := fun _ _ _ _ => rfl
 go_enter Tryz.func146, Tryz.ntmps146
 exact qa26
theorem jr (v : Int) (w : World) : Calls Tryz.prog 149 #[(.int .i64 v)] w fun e w' => ∃ a, e = .returned (aO 173 a) ∧ Bk w' a #[.int .i64 v] 3 ∧ w.heap.size ≤ a ∧ Below w.heap.size w w' := by
 have hmf : ∀ (fn : Fn) (first cap : Array Value) (w : World), (Instr.makeFunc fn first cap).run Tryz.prog w = .ok (.func fn first cap) w := fun _ _ _ _ => rfl
 go_enter Tryz.func149, Tryz.ntmps149
 exact qa26
structure Bx (B : Nat) (w : World) (a : Nat) (cs : Array Value) (t : TypeId) : Prop where
 bk : Bk w a cs t
 le : B ≤ a
theorem Bx.keep {B : Nat} {w u : World} {a : Nat} {cs : Array Value} {t : TypeId} (h : Bx B w a cs t) (hb : Below w.heap.size w u) : Bx B u a cs t := ⟨h.bk.keep hb, h.le⟩
theorem Bx.touch {B : Nat} {w u : World} {a g gl : Nat} {cs : Array Value} {t : TypeId} (h : Bx B w a cs t) (T : Touch g gl w u) (h1 : g < B) (h2 : gl < B) : Bx B u a cs t := ⟨T.bk h.bk (by have := h.le; omega) (by have := h.le; omega), h.le⟩
theorem Bx.base {B B' : Nat} {w : World} {a : Nat} {cs : Array Value} {t : TypeId} (h : Bx B w a cs t) (hb : B' ≤ B) : Bx B' w a cs t := ⟨h.bk, Nat.le_trans hb h.le⟩
def cZ (t1 t2 : Nat) : List (Int × Value) := [(1, dB (fnV 133) (fnV 134) .nilFunc), (2, dB (fnV 133) (fnV 134) .nilFunc), (3, dB (fnV 133) (fnV 134) .nilFunc), (90, dB (fnV 133) (fnV 135) .nilFunc), (70, dB (fnV 133) (aO 160 t1) (aO 160 t2)), (71, dB (fnV 133) (aO 160 t1) (aO 160 t2)), (72, dB (fnV 133) (aO 160 t1) (aO 160 t2)), (73, dB (fnV 137) (fnV 138) .nilFunc)]
theorem w_addEpochs {w : World} {b : Nat} (hm : MapAt w b iV []) :
  Calls Tryz.prog 121 #[.map (some b)] w fun e w' => e = .returned (.tuple #[]) ∧ ∃ t1 t2 : Nat, MapAt w' b iV ([] ++ cZ t1 t2) ∧ Bx w.heap.size w' t1 #[.int .i64 73] 3 ∧ Bx w.heap.size w' t2 #[.int .i64 73] 3 ∧ Touch b b w w' := by
 have h3 := build3
 have h2 := build2
 have lb := iG hm
 have T0 : Touch b b w w := Touch.refl _ _ _
 go_enter Tryz.func121, Tryz.ntmps121
 have hb1 : Below w.heap.size w (w.alloc (.cells #[.int .i64 1, .int .i64 2, .int .i64 3] 3)) := (Below.refl _ _).alloc (Nat.le_refl _) _
 have R1 : Reads (w.alloc (.cells #[.int .i64 1, .int .i64 2, .int .i64 3] 3)) .i64 (.slice (some ⟨w.heap.size, 0, none⟩) 3 3) [1, 2, 3] := Reads.dn (l := [1, 2, 3]) (Bk.new w #[.int .i64 1, .int .i64 2, .int .i64 3] 3) fZ
 have P1 := aB hm hb1
 have T1x := T0.trans (Touch.of_below hb1)
 have HA1 := Lib.hid (bP (y := ⟨some ⟨w.heap.size, 0, none⟩, 3, 3⟩) (s := (fnV 133)) (g := (fnV 134)) (n := .nilFunc) P1 R1 aF)
 simp only [Sl.v] at HA1
 clear hb1 R1 P1 hm T0
 go_wp2_with fail
 refine HA1.out.mono ?_
 rintro e w1 ⟨rfl, M1, V1⟩
 have T1 := T1x.trans V1
 clear HA1 V1 T1x
 have hb2 : Below w1.heap.size w1 (w1.alloc (.cells #[.int .i64 90] 3)) := (Below.refl _ _).alloc (Nat.le_refl _) _
 have R2 : Reads (w1.alloc (.cells #[.int .i64 90] 3)) .i64 (.slice (some ⟨w1.heap.size, 0, none⟩) 1 1) [90] := Reads.dn (l := [90]) (Bk.new w1 #[.int .i64 90] 3) fZ
 have P2 := aB M1 hb2
 have T2x := T1.trans (Touch.of_below hb2)
 have HA2 := Lib.hid (bP (y := ⟨some ⟨w1.heap.size, 0, none⟩, 1, 1⟩) (s := (fnV 133)) (g := (fnV 135)) (n := .nilFunc) P2 R2 aF)
 simp only [Sl.v] at HA2
 clear hb2 R2 P2 M1 T1
 go_wp2_with fail
 refine HA2.out.mono ?_
 rintro e w2 ⟨rfl, M2, V2⟩
 have T2 := T2x.trans V2
 clear HA2 V2 T2x
 go_wp2_with fail
 refine (mk_to 73 _).mono ?_
 rintro e w3 ⟨t1, rfl, Kt1, lt1, hb3⟩
 have M3 := aB M2 hb3
 have T3 := T2.trans (Touch.of_below hb3)
 have Bt1_3 : Bx w.heap.size w3 t1 _ _ := ⟨Kt1, by have := T2.size; omega⟩
 clear Kt1 lt1 hb3 M2 T2
 go_wp2_with fail
 refine (mk_to 73 _).mono ?_
 rintro e w4 ⟨t2, rfl, Kt2, lt2, hb4⟩
 have M4 := aB M3 hb4
 have T4 := T3.trans (Touch.of_below hb4)
 have Bt1_4 := Bt1_3.keep hb4
 have Bt2_4 : Bx w.heap.size w4 t2 _ _ := ⟨Kt2, by have := T3.size; omega⟩
 clear Kt2 lt2 hb4 M3 T3
 clear Bt1_3
 have hb5 : Below w4.heap.size w4 (w4.alloc (.cells #[.int .i64 70, .int .i64 71, .int .i64 72] 3)) := (Below.refl _ _).alloc (Nat.le_refl _) _
 have R5 : Reads (w4.alloc (.cells #[.int .i64 70, .int .i64 71, .int .i64 72] 3)) .i64 (.slice (some ⟨w4.heap.size, 0, none⟩) 3 3) [70, 71, 72] := Reads.dn (l := [70, 71, 72]) (Bk.new w4 #[.int .i64 70, .int .i64 71, .int .i64 72] 3) fZ
 have P5 := aB M4 hb5
 have T5x := T4.trans (Touch.of_below hb5)
 have Ct1_5 := Bt1_4.keep hb5
 have Ct2_5 := Bt2_4.keep hb5
 have HA5 := Lib.hid (bP (y := ⟨some ⟨w4.heap.size, 0, none⟩, 3, 3⟩) (s := (fnV 133)) (g := (aO 160 t1)) (n := (aO 160 t2)) P5 R5 aF)
 simp only [Sl.v] at HA5
 clear hb5 R5 P5 M4 T4
 clear Bt1_4 Bt2_4
 go_wp2_with fail
 refine HA5.out.mono ?_
 rintro e w5 ⟨rfl, M5, V5⟩
 have T5 := T5x.trans V5
 have Bt1_5 := Ct1_5.touch V5 lb lb
 have Bt2_5 := Ct2_5.touch V5 lb lb
 clear HA5 V5 T5x Ct1_5 Ct2_5
 have hb6 : Below w5.heap.size w5 (w5.alloc (.cells #[.int .i64 73] 3)) := (Below.refl _ _).alloc (Nat.le_refl _) _
 have R6 : Reads (w5.alloc (.cells #[.int .i64 73] 3)) .i64 (.slice (some ⟨w5.heap.size, 0, none⟩) 1 1) [73] := Reads.dn (l := [73]) (Bk.new w5 #[.int .i64 73] 3) fZ
 have P6 := aB M5 hb6
 have T6x := T5.trans (Touch.of_below hb6)
 have Ct1_6 := Bt1_5.keep hb6
 have Ct2_6 := Bt2_5.keep hb6
 have HA6 := Lib.hid (bP (y := ⟨some ⟨w5.heap.size, 0, none⟩, 1, 1⟩) (s := (fnV 137)) (g := (fnV 138)) (n := .nilFunc) P6 R6 aF)
 simp only [Sl.v] at HA6
 clear hb6 R6 P6 M5 T5
 clear Bt1_5 Bt2_5
 go_wp2_with fail
 refine HA6.out.mono ?_
 rintro e w6 ⟨rfl, M6, V6⟩
 have T6 := T6x.trans V6
 have Bt1_6 := Ct1_6.touch V6 lb lb
 have Bt2_6 := Ct2_6.touch V6 lb lb
 clear HA6 V6 T6x Ct1_6 Ct2_6
 go_wp2
 first | go_end0 | ((try simp only [Exit.inBlock, Exit.then]); refine bodyPost_ret (results_none rfl _ _ _) rfl ?_)
 exact ⟨rfl, t1, t2, M6, Bt1_6, Bt2_6, T6⟩
def iD (s1 e1 e2 g1 : Nat) : List (Int × Value) := [(36, dB (aO 163 s1) (aO 165 e1) (aO 165 e2)), (37, dB (aO 163 s1) (aO 165 e1) (aO 165 e2)), (13, dB (aO 163 g1) (fnV 142) .nilFunc), (14, dB (aO 163 g1) (fnV 142) .nilFunc), (15, dB (aO 163 g1) (fnV 142) .nilFunc), (30, dB (aO 163 g1) (fnV 142) .nilFunc), (31, dB (aO 163 g1) (fnV 142) .nilFunc), (32, dB (aO 163 g1) (fnV 142) .nilFunc), (39, dB (aO 163 g1) (fnV 142) .nilFunc)]
theorem w_addSlabsT {w : World} {b : Nat} {q1 q2 : Nat} (hm : MapAt w b iV (cZ q1 q2)) :
  Calls Tryz.prog 122 #[.map (some b), .bool true] w fun e w' => e = .returned (.tuple #[]) ∧ ∃ s1 e1 e2 g1 : Nat, MapAt w' b iV ((cZ q1 q2) ++ iD s1 e1 e2 g1) ∧ Bx w.heap.size w' s1 #[fnV 140] 193 ∧ Bx w.heap.size w' e1 #[.int .i64 0] 32 ∧ Bx w.heap.size w' e2 #[.int .i64 9] 32 ∧ Bx w.heap.size w' g1 #[fnV 144] 193 ∧ Touch b b w w' := by
 have h3 := build3
 have h2 := build2
 have lb := iG hm
 have T0 : Touch b b w w := Touch.refl _ _ _
 go_enter Tryz.func122, Tryz.ntmps122
 go_wp2_with fail
 refine (jF 140 _).mono ?_
 rintro e w1 ⟨s1, rfl, Ks1, ls1, hb1⟩
 have M1 := aB hm hb1
 have T1 := T0.trans (Touch.of_below hb1)
 have Bs1_1 : Bx w.heap.size w1 s1 _ _ := ⟨Ks1, by have := T0.size; omega⟩
 clear Ks1 ls1 hb1 hm T0
 go_wp2_with fail
 refine (jM 0 _).mono ?_
 rintro e w2 ⟨e1, rfl, Ke1, le1, hb2⟩
 have M2 := aB M1 hb2
 have T2 := T1.trans (Touch.of_below hb2)
 have Bs1_2 := Bs1_1.keep hb2
 have Be1_2 : Bx w.heap.size w2 e1 _ _ := ⟨Ke1, by have := T1.size; omega⟩
 clear Ke1 le1 hb2 M1 T1
 clear Bs1_1
 go_wp2_with fail
 refine (jM 9 _).mono ?_
 rintro e w3 ⟨e2, rfl, Ke2, le2, hb3⟩
 have M3 := aB M2 hb3
 have T3 := T2.trans (Touch.of_below hb3)
 have Bs1_3 := Bs1_2.keep hb3
 have Be1_3 := Be1_2.keep hb3
 have Be2_3 : Bx w.heap.size w3 e2 _ _ := ⟨Ke2, by have := T2.size; omega⟩
 clear Ke2 le2 hb3 M2 T2
 clear Bs1_2 Be1_2
 have hb4 : Below w3.heap.size w3 (w3.alloc (.cells #[.int .i64 36, .int .i64 37] 3)) := (Below.refl _ _).alloc (Nat.le_refl _) _
 have R4 : Reads (w3.alloc (.cells #[.int .i64 36, .int .i64 37] 3)) .i64 (.slice (some ⟨w3.heap.size, 0, none⟩) 2 2) [36, 37] := Reads.dn (l := [36, 37]) (Bk.new w3 #[.int .i64 36, .int .i64 37] 3) fZ
 have P4 := aB M3 hb4
 have T4x := T3.trans (Touch.of_below hb4)
 have Cs1_4 := Bs1_3.keep hb4
 have Ce1_4 := Be1_3.keep hb4
 have Ce2_4 := Be2_3.keep hb4
 have HA4 := Lib.hid (bP (y := ⟨some ⟨w3.heap.size, 0, none⟩, 2, 2⟩) (s := (aO 163 s1)) (g := (aO 165 e1)) (n := (aO 165 e2)) P4 R4 aF)
 simp only [Sl.v] at HA4
 clear hb4 R4 P4 M3 T3
 clear Bs1_3 Be1_3 Be2_3
 go_wp2_with fail
 refine HA4.out.mono ?_
 rintro e w4 ⟨rfl, M4, V4⟩
 have T4 := T4x.trans V4
 have Bs1_4 := Cs1_4.touch V4 lb lb
 have Be1_4 := Ce1_4.touch V4 lb lb
 have Be2_4 := Ce2_4.touch V4 lb lb
 clear HA4 V4 T4x Cs1_4 Ce1_4 Ce2_4
 go_wp2_with fail
 refine (jF 144 _).mono ?_
 rintro e w5 ⟨g1, rfl, Kg1, lg1, hb5⟩
 have M5 := aB M4 hb5
 have T5 := T4.trans (Touch.of_below hb5)
 have Bs1_5 := Bs1_4.keep hb5
 have Be1_5 := Be1_4.keep hb5
 have Be2_5 := Be2_4.keep hb5
 have Bg1_5 : Bx w.heap.size w5 g1 _ _ := ⟨Kg1, by have := T4.size; omega⟩
 clear Kg1 lg1 hb5 M4 T4
 clear Bs1_4 Be1_4 Be2_4
 have hb6 : Below w5.heap.size w5 (w5.alloc (.cells #[.int .i64 13, .int .i64 14, .int .i64 15, .int .i64 30, .int .i64 31, .int .i64 32, .int .i64 39] 3)) := (Below.refl _ _).alloc (Nat.le_refl _) _
 have R6 : Reads (w5.alloc (.cells #[.int .i64 13, .int .i64 14, .int .i64 15, .int .i64 30, .int .i64 31, .int .i64 32, .int .i64 39] 3)) .i64 (.slice (some ⟨w5.heap.size, 0, none⟩) 7 7) [13, 14, 15, 30, 31, 32, 39] := Reads.dn (l := [13, 14, 15, 30, 31, 32, 39]) (Bk.new w5 #[.int .i64 13, .int .i64 14, .int .i64 15, .int .i64 30, .int .i64 31, .int .i64 32, .int .i64 39] 3) fZ
 have P6 := aB M5 hb6
 have T6x := T5.trans (Touch.of_below hb6)
 have Cs1_6 := Bs1_5.keep hb6
 have Ce1_6 := Be1_5.keep hb6
 have Ce2_6 := Be2_5.keep hb6
 have Cg1_6 := Bg1_5.keep hb6
 have HA6 := Lib.hid (bP (y := ⟨some ⟨w5.heap.size, 0, none⟩, 7, 7⟩) (s := (aO 163 g1)) (g := (fnV 142)) (n := .nilFunc) P6 R6 aF)
 simp only [Sl.v] at HA6
 clear hb6 R6 P6 M5 T5
 clear Bs1_5 Be1_5 Be2_5 Bg1_5
 go_wp2_with fail
 refine HA6.out.mono ?_
 rintro e w6 ⟨rfl, M6, V6⟩
 have T6 := T6x.trans V6
 have Bs1_6 := Cs1_6.touch V6 lb lb
 have Be1_6 := Ce1_6.touch V6 lb lb
 have Be2_6 := Ce2_6.touch V6 lb lb
 have Bg1_6 := Cg1_6.touch V6 lb lb
 clear HA6 V6 T6x Cs1_6 Ce1_6 Ce2_6 Cg1_6
 go_wp2
 first | go_end0 | ((try simp only [Exit.inBlock, Exit.then]); refine bodyPost_ret (results_none rfl _ _ _) rfl ?_)
 exact ⟨rfl, s1, e1, e2, g1, M6, Bs1_6, Be1_6, Be2_6, Bg1_6, T6⟩
def iE (s1 e1 e2 k1 f50 x5 : Nat) : List (Int × Value) := [(36, dB (aO 163 s1) (aO 165 e1) (aO 165 e2)), (37, dB (aO 163 s1) (aO 165 e1) (aO 165 e2)), (10, dB (aO 163 k1) (aO 169 f50) (aO 170 x5)), (11, dB (aO 163 k1) (aO 169 f50) (aO 170 x5)), (12, dB (aO 163 k1) (aO 169 f50) (aO 170 x5)), (30, dB (aO 163 k1) (aO 169 f50) (aO 170 x5)), (31, dB (aO 163 k1) (aO 169 f50) (aO 170 x5)), (32, dB (aO 163 k1) (aO 169 f50) (aO 170 x5)), (33, dB (aO 163 k1) (aO 169 f50) (aO 170 x5)), (34, dB (aO 163 k1) (aO 169 f50) (aO 170 x5)), (35, dB (aO 163 k1) (aO 169 f50) (aO 170 x5)), (38, dB (aO 163 k1) (aO 169 f50) (aO 170 x5))]
theorem w_addSlabsF {w : World} {b : Nat} {q1 q2 : Nat} (hm : MapAt w b iV (cZ q1 q2)) :
  Calls Tryz.prog 122 #[.map (some b), .bool false] w fun e w' => e = .returned (.tuple #[]) ∧ ∃ s1 e1 e2 k1 f50 x5 : Nat, MapAt w' b iV ((cZ q1 q2) ++ iE s1 e1 e2 k1 f50 x5) ∧ Bx w.heap.size w' s1 #[fnV 140] 193 ∧ Bx w.heap.size w' e1 #[.int .i64 0] 32 ∧ Bx w.heap.size w' e2 #[.int .i64 9] 32 ∧ Bx w.heap.size w' k1 #[fnV 145] 193 ∧ Bx w.heap.size w' f50 #[.int .i64 50] 3 ∧ Bx w.heap.size w' x5 #[.int .i64 5] 32 ∧ Touch b b w w' := by
 have h3 := build3
 have h2 := build2
 have lb := iG hm
 have T0 : Touch b b w w := Touch.refl _ _ _
 go_enter Tryz.func122, Tryz.ntmps122
 go_wp2_with fail
 refine (jF 140 _).mono ?_
 rintro e w1 ⟨s1, rfl, Ks1, ls1, hb1⟩
 have M1 := aB hm hb1
 have T1 := T0.trans (Touch.of_below hb1)
 have Bs1_1 : Bx w.heap.size w1 s1 _ _ := ⟨Ks1, by have := T0.size; omega⟩
 clear Ks1 ls1 hb1 hm T0
 go_wp2_with fail
 refine (jM 0 _).mono ?_
 rintro e w2 ⟨e1, rfl, Ke1, le1, hb2⟩
 have M2 := aB M1 hb2
 have T2 := T1.trans (Touch.of_below hb2)
 have Bs1_2 := Bs1_1.keep hb2
 have Be1_2 : Bx w.heap.size w2 e1 _ _ := ⟨Ke1, by have := T1.size; omega⟩
 clear Ke1 le1 hb2 M1 T1
 clear Bs1_1
 go_wp2_with fail
 refine (jM 9 _).mono ?_
 rintro e w3 ⟨e2, rfl, Ke2, le2, hb3⟩
 have M3 := aB M2 hb3
 have T3 := T2.trans (Touch.of_below hb3)
 have Bs1_3 := Bs1_2.keep hb3
 have Be1_3 := Be1_2.keep hb3
 have Be2_3 : Bx w.heap.size w3 e2 _ _ := ⟨Ke2, by have := T2.size; omega⟩
 clear Ke2 le2 hb3 M2 T2
 clear Bs1_2 Be1_2
 have hb4 : Below w3.heap.size w3 (w3.alloc (.cells #[.int .i64 36, .int .i64 37] 3)) := (Below.refl _ _).alloc (Nat.le_refl _) _
 have R4 : Reads (w3.alloc (.cells #[.int .i64 36, .int .i64 37] 3)) .i64 (.slice (some ⟨w3.heap.size, 0, none⟩) 2 2) [36, 37] := Reads.dn (l := [36, 37]) (Bk.new w3 #[.int .i64 36, .int .i64 37] 3) fZ
 have P4 := aB M3 hb4
 have T4x := T3.trans (Touch.of_below hb4)
 have Cs1_4 := Bs1_3.keep hb4
 have Ce1_4 := Be1_3.keep hb4
 have Ce2_4 := Be2_3.keep hb4
 have HA4 := Lib.hid (bP (y := ⟨some ⟨w3.heap.size, 0, none⟩, 2, 2⟩) (s := (aO 163 s1)) (g := (aO 165 e1)) (n := (aO 165 e2)) P4 R4 aF)
 simp only [Sl.v] at HA4
 clear hb4 R4 P4 M3 T3
 clear Bs1_3 Be1_3 Be2_3
 go_wp2_with fail
 refine HA4.out.mono ?_
 rintro e w4 ⟨rfl, M4, V4⟩
 have T4 := T4x.trans V4
 have Bs1_4 := Cs1_4.touch V4 lb lb
 have Be1_4 := Ce1_4.touch V4 lb lb
 have Be2_4 := Ce2_4.touch V4 lb lb
 clear HA4 V4 T4x Cs1_4 Ce1_4 Ce2_4
 go_wp2_with fail
 refine (jF 145 _).mono ?_
 rintro e w5 ⟨k1, rfl, Kk1, lk1, hb5⟩
 have M5 := aB M4 hb5
 have T5 := T4.trans (Touch.of_below hb5)
 have Bs1_5 := Bs1_4.keep hb5
 have Be1_5 := Be1_4.keep hb5
 have Be2_5 := Be2_4.keep hb5
 have Bk1_5 : Bx w.heap.size w5 k1 _ _ := ⟨Kk1, by have := T4.size; omega⟩
 clear Kk1 lk1 hb5 M4 T4
 clear Bs1_4 Be1_4 Be2_4
 go_wp2_with fail
 refine (jL 50 _).mono ?_
 rintro e w6 ⟨f50, rfl, Kf50, lf50, hb6⟩
 have M6 := aB M5 hb6
 have T6 := T5.trans (Touch.of_below hb6)
 have Bs1_6 := Bs1_5.keep hb6
 have Be1_6 := Be1_5.keep hb6
 have Be2_6 := Be2_5.keep hb6
 have Bk1_6 := Bk1_5.keep hb6
 have Bf50_6 : Bx w.heap.size w6 f50 _ _ := ⟨Kf50, by have := T5.size; omega⟩
 clear Kf50 lf50 hb6 M5 T5
 clear Bs1_5 Be1_5 Be2_5 Bk1_5
 go_wp2_with fail
 refine (iF 5 _).mono ?_
 rintro e w7 ⟨x5, rfl, Kx5, lx5, hb7⟩
 have M7 := aB M6 hb7
 have T7 := T6.trans (Touch.of_below hb7)
 have Bs1_7 := Bs1_6.keep hb7
 have Be1_7 := Be1_6.keep hb7
 have Be2_7 := Be2_6.keep hb7
 have Bk1_7 := Bk1_6.keep hb7
 have Bf50_7 := Bf50_6.keep hb7
 have Bx5_7 : Bx w.heap.size w7 x5 _ _ := ⟨Kx5, by have := T6.size; omega⟩
 clear Kx5 lx5 hb7 M6 T6
 clear Bs1_6 Be1_6 Be2_6 Bk1_6 Bf50_6
 have hb8 : Below w7.heap.size w7 (w7.alloc (.cells #[.int .i64 10, .int .i64 11, .int .i64 12, .int .i64 30, .int .i64 31, .int .i64 32, .int .i64 33, .int .i64 34, .int .i64 35, .int .i64 38] 3)) := (Below.refl _ _).alloc (Nat.le_refl _) _
 have R8 : Reads (w7.alloc (.cells #[.int .i64 10, .int .i64 11, .int .i64 12, .int .i64 30, .int .i64 31, .int .i64 32, .int .i64 33, .int .i64 34, .int .i64 35, .int .i64 38] 3)) .i64 (.slice (some ⟨w7.heap.size, 0, none⟩) 10 10) [10, 11, 12, 30, 31, 32, 33, 34, 35, 38] := Reads.dn (l := [10, 11, 12, 30, 31, 32, 33, 34, 35, 38]) (Bk.new w7 #[.int .i64 10, .int .i64 11, .int .i64 12, .int .i64 30, .int .i64 31, .int .i64 32, .int .i64 33, .int .i64 34, .int .i64 35, .int .i64 38] 3) fZ
 have P8 := aB M7 hb8
 have T8x := T7.trans (Touch.of_below hb8)
 have Cs1_8 := Bs1_7.keep hb8
 have Ce1_8 := Be1_7.keep hb8
 have Ce2_8 := Be2_7.keep hb8
 have Ck1_8 := Bk1_7.keep hb8
 have Cf50_8 := Bf50_7.keep hb8
 have Cx5_8 := Bx5_7.keep hb8
 have HA8 := Lib.hid (bP (y := ⟨some ⟨w7.heap.size, 0, none⟩, 10, 10⟩) (s := (aO 163 k1)) (g := (aO 169 f50)) (n := (aO 170 x5)) P8 R8 aF)
 simp only [Sl.v] at HA8
 clear hb8 R8 P8 M7 T7
 clear Bs1_7 Be1_7 Be2_7 Bk1_7 Bf50_7 Bx5_7
 go_wp2_with fail
 refine HA8.out.mono ?_
 rintro e w8 ⟨rfl, M8, V8⟩
 have T8 := T8x.trans V8
 have Bs1_8 := Cs1_8.touch V8 lb lb
 have Be1_8 := Ce1_8.touch V8 lb lb
 have Be2_8 := Ce2_8.touch V8 lb lb
 have Bk1_8 := Ck1_8.touch V8 lb lb
 have Bf50_8 := Cf50_8.touch V8 lb lb
 have Bx5_8 := Cx5_8.touch V8 lb lb
 clear HA8 V8 T8x Cs1_8 Ce1_8 Ce2_8 Ck1_8 Cf50_8 Cx5_8
 go_wp2
 first | go_end0 | ((try simp only [Exit.inBlock, Exit.then]); refine bodyPost_ret (results_none rfl _ _ _) rfl ?_)
 exact ⟨rfl, s1, e1, e2, k1, f50, x5, M8, Bs1_8, Be1_8, Be2_8, Bk1_8, Bf50_8, Bx5_8, T8⟩
def eD (n1 x7 y5 r43 r45 f61 : Nat) : List (Int × Value) := [(20, dB (aO 163 n1) (fnV 138) (aO 170 y5)), (21, dB (aO 163 n1) (fnV 138) (aO 170 y5)), (22, dB (aO 163 n1) (fnV 138) (aO 170 y5)), (40, dB (aO 163 n1) (fnV 138) (aO 170 y5)), (41, dB (aO 163 n1) (fnV 138) (aO 170 y5)), (23, dB (aO 163 n1) (fnV 138) .nilFunc), (24, dB (aO 163 n1) (fnV 138) .nilFunc), (25, dB (aO 163 n1) (fnV 138) .nilFunc), (42, dB (aO 163 n1) (aO 173 r43) (aO 170 x7)), (43, dB (aO 163 n1) (fnV 150) .nilFunc), (44, dB (aO 163 n1) (aO 173 r45) (aO 170 x7)), (45, dB (aO 163 n1) (fnV 151) .nilFunc), (46, dB (aO 163 n1) (fnV 152) (aO 170 x7)), (60, dB (aO 163 n1) (aO 169 f61) (aO 170 x7))]
theorem w_addEntriesT {w : World} {b : Nat} {q1 q2 q3 q4 q5 q6 : Nat} (hm : MapAt w b iV (cZ q1 q2 ++ iD q3 q4 q5 q6)) :
  Calls Tryz.prog 123 #[.map (some b)] w fun e w' => e = .returned (.tuple #[]) ∧ ∃ n1 x7 y5 r43 r45 f61 : Nat, MapAt w' b iV ((cZ q1 q2 ++ iD q3 q4 q5 q6) ++ eD n1 x7 y5 r43 r45 f61) ∧ Bx w.heap.size w' n1 #[fnV 148] 193 ∧ Bx w.heap.size w' x7 #[.int .i64 7] 32 ∧ Bx w.heap.size w' y5 #[.int .i64 5] 32 ∧ Bx w.heap.size w' r43 #[.int .i64 43] 3 ∧ Bx w.heap.size w' r45 #[.int .i64 45] 3 ∧ Bx w.heap.size w' f61 #[.int .i64 61] 3 ∧ Touch b b w w' := by
 have h3 := build3
 have h2 := build2
 have lb := iG hm
 have T0 : Touch b b w w := Touch.refl _ _ _
 go_enter Tryz.func123, Tryz.ntmps123
 go_wp2_with fail
 refine (jF 148 _).mono ?_
 rintro e w1 ⟨n1, rfl, Kn1, ln1, hb1⟩
 have M1 := aB hm hb1
 have T1 := T0.trans (Touch.of_below hb1)
 have Bn1_1 : Bx w.heap.size w1 n1 _ _ := ⟨Kn1, by have := T0.size; omega⟩
 clear Kn1 ln1 hb1 hm T0
 go_wp2_with fail
 refine (iF 7 _).mono ?_
 rintro e w2 ⟨x7, rfl, Kx7, lx7, hb2⟩
 have M2 := aB M1 hb2
 have T2 := T1.trans (Touch.of_below hb2)
 have Bn1_2 := Bn1_1.keep hb2
 have Bx7_2 : Bx w.heap.size w2 x7 _ _ := ⟨Kx7, by have := T1.size; omega⟩
 clear Kx7 lx7 hb2 M1 T1
 clear Bn1_1
 go_wp2_with fail
 refine (iF 5 _).mono ?_
 rintro e w3 ⟨y5, rfl, Ky5, ly5, hb3⟩
 have M3 := aB M2 hb3
 have T3 := T2.trans (Touch.of_below hb3)
 have Bn1_3 := Bn1_2.keep hb3
 have Bx7_3 := Bx7_2.keep hb3
 have By5_3 : Bx w.heap.size w3 y5 _ _ := ⟨Ky5, by have := T2.size; omega⟩
 clear Ky5 ly5 hb3 M2 T2
 clear Bn1_2 Bx7_2
 have hb4 : Below w3.heap.size w3 (w3.alloc (.cells #[.int .i64 20, .int .i64 21, .int .i64 22, .int .i64 40, .int .i64 41] 3)) := (Below.refl _ _).alloc (Nat.le_refl _) _
 have R4 : Reads (w3.alloc (.cells #[.int .i64 20, .int .i64 21, .int .i64 22, .int .i64 40, .int .i64 41] 3)) .i64 (.slice (some ⟨w3.heap.size, 0, none⟩) 5 5) [20, 21, 22, 40, 41] := Reads.dn (l := [20, 21, 22, 40, 41]) (Bk.new w3 #[.int .i64 20, .int .i64 21, .int .i64 22, .int .i64 40, .int .i64 41] 3) fZ
 have P4 := aB M3 hb4
 have T4x := T3.trans (Touch.of_below hb4)
 have Cn1_4 := Bn1_3.keep hb4
 have Cx7_4 := Bx7_3.keep hb4
 have Cy5_4 := By5_3.keep hb4
 have HA4 := Lib.hid (bP (y := ⟨some ⟨w3.heap.size, 0, none⟩, 5, 5⟩) (s := (aO 163 n1)) (g := (fnV 138)) (n := (aO 170 y5)) P4 R4 aF)
 simp only [Sl.v] at HA4
 clear hb4 R4 P4 M3 T3
 clear Bn1_3 Bx7_3 By5_3
 go_wp2_with fail
 refine HA4.out.mono ?_
 rintro e w4 ⟨rfl, M4, V4⟩
 have T4 := T4x.trans V4
 have Bn1_4 := Cn1_4.touch V4 lb lb
 have Bx7_4 := Cx7_4.touch V4 lb lb
 have By5_4 := Cy5_4.touch V4 lb lb
 clear HA4 V4 T4x Cn1_4 Cx7_4 Cy5_4
 have hb5 : Below w4.heap.size w4 (w4.alloc (.cells #[.int .i64 23, .int .i64 24, .int .i64 25] 3)) := (Below.refl _ _).alloc (Nat.le_refl _) _
 have R5 : Reads (w4.alloc (.cells #[.int .i64 23, .int .i64 24, .int .i64 25] 3)) .i64 (.slice (some ⟨w4.heap.size, 0, none⟩) 3 3) [23, 24, 25] := Reads.dn (l := [23, 24, 25]) (Bk.new w4 #[.int .i64 23, .int .i64 24, .int .i64 25] 3) fZ
 have P5 := aB M4 hb5
 have T5x := T4.trans (Touch.of_below hb5)
 have Cn1_5 := Bn1_4.keep hb5
 have Cx7_5 := Bx7_4.keep hb5
 have Cy5_5 := By5_4.keep hb5
 have HA5 := Lib.hid (bP (y := ⟨some ⟨w4.heap.size, 0, none⟩, 3, 3⟩) (s := (aO 163 n1)) (g := (fnV 138)) (n := .nilFunc) P5 R5 aF)
 simp only [Sl.v] at HA5
 clear hb5 R5 P5 M4 T4
 clear Bn1_4 Bx7_4 By5_4
 go_wp2_with fail
 refine HA5.out.mono ?_
 rintro e w5 ⟨rfl, M5, V5⟩
 have T5 := T5x.trans V5
 have Bn1_5 := Cn1_5.touch V5 lb lb
 have Bx7_5 := Cx7_5.touch V5 lb lb
 have By5_5 := Cy5_5.touch V5 lb lb
 clear HA5 V5 T5x Cn1_5 Cx7_5 Cy5_5
 go_wp2_with fail
 refine (jr 43 _).mono ?_
 rintro e w6 ⟨r43, rfl, Kr43, lr43, hb6⟩
 have M6 := aB M5 hb6
 have T6 := T5.trans (Touch.of_below hb6)
 have Bn1_6 := Bn1_5.keep hb6
 have Bx7_6 := Bx7_5.keep hb6
 have By5_6 := By5_5.keep hb6
 have Br43_6 : Bx w.heap.size w6 r43 _ _ := ⟨Kr43, by have := T5.size; omega⟩
 clear Kr43 lr43 hb6 M5 T5
 clear Bn1_5 Bx7_5 By5_5
 have hb7 : Below w6.heap.size w6 (w6.alloc (.cells #[.int .i64 42] 3)) := (Below.refl _ _).alloc (Nat.le_refl _) _
 have R7 : Reads (w6.alloc (.cells #[.int .i64 42] 3)) .i64 (.slice (some ⟨w6.heap.size, 0, none⟩) 1 1) [42] := Reads.dn (l := [42]) (Bk.new w6 #[.int .i64 42] 3) fZ
 have P7 := aB M6 hb7
 have T7x := T6.trans (Touch.of_below hb7)
 have Cn1_7 := Bn1_6.keep hb7
 have Cx7_7 := Bx7_6.keep hb7
 have Cy5_7 := By5_6.keep hb7
 have Cr43_7 := Br43_6.keep hb7
 have HA7 := Lib.hid (bP (y := ⟨some ⟨w6.heap.size, 0, none⟩, 1, 1⟩) (s := (aO 163 n1)) (g := (aO 173 r43)) (n := (aO 170 x7)) P7 R7 aF)
 simp only [Sl.v] at HA7
 clear hb7 R7 P7 M6 T6
 clear Bn1_6 Bx7_6 By5_6 Br43_6
 go_wp2_with fail
 refine HA7.out.mono ?_
 rintro e w7 ⟨rfl, M7, V7⟩
 have T7 := T7x.trans V7
 have Bn1_7 := Cn1_7.touch V7 lb lb
 have Bx7_7 := Cx7_7.touch V7 lb lb
 have By5_7 := Cy5_7.touch V7 lb lb
 have Br43_7 := Cr43_7.touch V7 lb lb
 clear HA7 V7 T7x Cn1_7 Cx7_7 Cy5_7 Cr43_7
 have hb8 : Below w7.heap.size w7 (w7.alloc (.cells #[.int .i64 43] 3)) := (Below.refl _ _).alloc (Nat.le_refl _) _
 have R8 : Reads (w7.alloc (.cells #[.int .i64 43] 3)) .i64 (.slice (some ⟨w7.heap.size, 0, none⟩) 1 1) [43] := Reads.dn (l := [43]) (Bk.new w7 #[.int .i64 43] 3) fZ
 have P8 := aB M7 hb8
 have T8x := T7.trans (Touch.of_below hb8)
 have Cn1_8 := Bn1_7.keep hb8
 have Cx7_8 := Bx7_7.keep hb8
 have Cy5_8 := By5_7.keep hb8
 have Cr43_8 := Br43_7.keep hb8
 have HA8 := Lib.hid (bP (y := ⟨some ⟨w7.heap.size, 0, none⟩, 1, 1⟩) (s := (aO 163 n1)) (g := (fnV 150)) (n := .nilFunc) P8 R8 aF)
 simp only [Sl.v] at HA8
 clear hb8 R8 P8 M7 T7
 clear Bn1_7 Bx7_7 By5_7 Br43_7
 go_wp2_with fail
 refine HA8.out.mono ?_
 rintro e w8 ⟨rfl, M8, V8⟩
 have T8 := T8x.trans V8
 have Bn1_8 := Cn1_8.touch V8 lb lb
 have Bx7_8 := Cx7_8.touch V8 lb lb
 have By5_8 := Cy5_8.touch V8 lb lb
 have Br43_8 := Cr43_8.touch V8 lb lb
 clear HA8 V8 T8x Cn1_8 Cx7_8 Cy5_8 Cr43_8
 go_wp2_with fail
 refine (jr 45 _).mono ?_
 rintro e w9 ⟨r45, rfl, Kr45, lr45, hb9⟩
 have M9 := aB M8 hb9
 have T9 := T8.trans (Touch.of_below hb9)
 have Bn1_9 := Bn1_8.keep hb9
 have Bx7_9 := Bx7_8.keep hb9
 have By5_9 := By5_8.keep hb9
 have Br43_9 := Br43_8.keep hb9
 have Br45_9 : Bx w.heap.size w9 r45 _ _ := ⟨Kr45, by have := T8.size; omega⟩
 clear Kr45 lr45 hb9 M8 T8
 clear Bn1_8 Bx7_8 By5_8 Br43_8
 have jd : Below w9.heap.size w9 (w9.alloc (.cells #[.int .i64 44] 3)) := (Below.refl _ _).alloc (Nat.le_refl _) _
 have R10 : Reads (w9.alloc (.cells #[.int .i64 44] 3)) .i64 (.slice (some ⟨w9.heap.size, 0, none⟩) 1 1) [44] := Reads.dn (l := [44]) (Bk.new w9 #[.int .i64 44] 3) fZ
 have P10 := aB M9 jd
 have T10x := T9.trans (Touch.of_below jd)
 have Cn1_10 := Bn1_9.keep jd
 have Cx7_10 := Bx7_9.keep jd
 have Cy5_10 := By5_9.keep jd
 have Cr43_10 := Br43_9.keep jd
 have Cr45_10 := Br45_9.keep jd
 have HA10 := Lib.hid (bP (y := ⟨some ⟨w9.heap.size, 0, none⟩, 1, 1⟩) (s := (aO 163 n1)) (g := (aO 173 r45)) (n := (aO 170 x7)) P10 R10 aF)
 simp only [Sl.v] at HA10
 clear jd R10 P10 M9 T9
 clear Bn1_9 Bx7_9 By5_9 Br43_9 Br45_9
 go_wp2_with fail
 refine HA10.out.mono ?_
 rintro e w10 ⟨rfl, M10, V10⟩
 have T10 := T10x.trans V10
 have Bn1_10 := Cn1_10.touch V10 lb lb
 have Bx7_10 := Cx7_10.touch V10 lb lb
 have By5_10 := Cy5_10.touch V10 lb lb
 have Br43_10 := Cr43_10.touch V10 lb lb
 have Br45_10 := Cr45_10.touch V10 lb lb
 clear HA10 V10 T10x Cn1_10 Cx7_10 Cy5_10 Cr43_10 Cr45_10
 have jQ : Below w10.heap.size w10 (w10.alloc (.cells #[.int .i64 45] 3)) := (Below.refl _ _).alloc (Nat.le_refl _) _
 have R11 : Reads (w10.alloc (.cells #[.int .i64 45] 3)) .i64 (.slice (some ⟨w10.heap.size, 0, none⟩) 1 1) [45] := Reads.dn (l := [45]) (Bk.new w10 #[.int .i64 45] 3) fZ
 have P11 := aB M10 jQ
 have T11x := T10.trans (Touch.of_below jQ)
 have Cn1_11 := Bn1_10.keep jQ
 have Cx7_11 := Bx7_10.keep jQ
 have Cy5_11 := By5_10.keep jQ
 have Cr43_11 := Br43_10.keep jQ
 have Cr45_11 := Br45_10.keep jQ
 have HA11 := Lib.hid (bP (y := ⟨some ⟨w10.heap.size, 0, none⟩, 1, 1⟩) (s := (aO 163 n1)) (g := (fnV 151)) (n := .nilFunc) P11 R11 aF)
 simp only [Sl.v] at HA11
 clear jQ R11 P11 M10 T10
 clear Bn1_10 Bx7_10 By5_10 Br43_10 Br45_10
 go_wp2_with fail
 refine HA11.out.mono ?_
 rintro e w11 ⟨rfl, M11, V11⟩
 have T11 := T11x.trans V11
 have Bn1_11 := Cn1_11.touch V11 lb lb
 have Bx7_11 := Cx7_11.touch V11 lb lb
 have By5_11 := Cy5_11.touch V11 lb lb
 have Br43_11 := Cr43_11.touch V11 lb lb
 have Br45_11 := Cr45_11.touch V11 lb lb
 clear HA11 V11 T11x Cn1_11 Cx7_11 Cy5_11 Cr43_11 Cr45_11
 have ig : Below w11.heap.size w11 (w11.alloc (.cells #[.int .i64 46] 3)) := (Below.refl _ _).alloc (Nat.le_refl _) _
 have R12 : Reads (w11.alloc (.cells #[.int .i64 46] 3)) .i64 (.slice (some ⟨w11.heap.size, 0, none⟩) 1 1) [46] := Reads.dn (l := [46]) (Bk.new w11 #[.int .i64 46] 3) fZ
 have P12 := aB M11 ig
 have T12x := T11.trans (Touch.of_below ig)
 have Cn1_12 := Bn1_11.keep ig
 have Cx7_12 := Bx7_11.keep ig
 have Cy5_12 := By5_11.keep ig
 have Cr43_12 := Br43_11.keep ig
 have Cr45_12 := Br45_11.keep ig
 have HA12 := Lib.hid (bP (y := ⟨some ⟨w11.heap.size, 0, none⟩, 1, 1⟩) (s := (aO 163 n1)) (g := (fnV 152)) (n := (aO 170 x7)) P12 R12 aF)
 simp only [Sl.v] at HA12
 clear ig R12 P12 M11 T11
 clear Bn1_11 Bx7_11 By5_11 Br43_11 Br45_11
 go_wp2_with fail
 refine HA12.out.mono ?_
 rintro e w12 ⟨rfl, M12, V12⟩
 have T12 := T12x.trans V12
 have Bn1_12 := Cn1_12.touch V12 lb lb
 have Bx7_12 := Cx7_12.touch V12 lb lb
 have By5_12 := Cy5_12.touch V12 lb lb
 have Br43_12 := Cr43_12.touch V12 lb lb
 have Br45_12 := Cr45_12.touch V12 lb lb
 clear HA12 V12 T12x Cn1_12 Cx7_12 Cy5_12 Cr43_12 Cr45_12
 go_wp2_with fail
 refine (jL 61 _).mono ?_
 rintro e w13 ⟨f61, rfl, Kf61, lf61, hb13⟩
 have M13 := aB M12 hb13
 have T13 := T12.trans (Touch.of_below hb13)
 have Bn1_13 := Bn1_12.keep hb13
 have Bx7_13 := Bx7_12.keep hb13
 have By5_13 := By5_12.keep hb13
 have Br43_13 := Br43_12.keep hb13
 have Br45_13 := Br45_12.keep hb13
 have Bf61_13 : Bx w.heap.size w13 f61 _ _ := ⟨Kf61, by have := T12.size; omega⟩
 clear Kf61 lf61 hb13 M12 T12
 clear Bn1_12 Bx7_12 By5_12 Br43_12 Br45_12
 have jO : Below w13.heap.size w13 (w13.alloc (.cells #[.int .i64 60] 3)) := (Below.refl _ _).alloc (Nat.le_refl _) _
 have R14 : Reads (w13.alloc (.cells #[.int .i64 60] 3)) .i64 (.slice (some ⟨w13.heap.size, 0, none⟩) 1 1) [60] := Reads.dn (l := [60]) (Bk.new w13 #[.int .i64 60] 3) fZ
 have P14 := aB M13 jO
 have T14x := T13.trans (Touch.of_below jO)
 have Cn1_14 := Bn1_13.keep jO
 have Cx7_14 := Bx7_13.keep jO
 have Cy5_14 := By5_13.keep jO
 have Cr43_14 := Br43_13.keep jO
 have Cr45_14 := Br45_13.keep jO
 have Cf61_14 := Bf61_13.keep jO
 have HA14 := Lib.hid (bP (y := ⟨some ⟨w13.heap.size, 0, none⟩, 1, 1⟩) (s := (aO 163 n1)) (g := (aO 169 f61)) (n := (aO 170 x7)) P14 R14 aF)
 simp only [Sl.v] at HA14
 clear jO R14 P14 M13 T13
 clear Bn1_13 Bx7_13 By5_13 Br43_13 Br45_13 Bf61_13
 go_wp2_with fail
 refine HA14.out.mono ?_
 rintro e w14 ⟨rfl, M14, V14⟩
 have T14 := T14x.trans V14
 have Bn1_14 := Cn1_14.touch V14 lb lb
 have Bx7_14 := Cx7_14.touch V14 lb lb
 have By5_14 := Cy5_14.touch V14 lb lb
 have Br43_14 := Cr43_14.touch V14 lb lb
 have Br45_14 := Cr45_14.touch V14 lb lb
 have Bf61_14 := Cf61_14.touch V14 lb lb
 clear HA14 V14 T14x Cn1_14 Cx7_14 Cy5_14 Cr43_14 Cr45_14 Cf61_14
 go_wp2
 first | go_end0 | ((try simp only [Exit.inBlock, Exit.then]); refine bodyPost_ret (results_none rfl _ _ _) rfl ?_)
 exact ⟨rfl, n1, x7, y5, r43, r45, f61, M14, Bn1_14, Bx7_14, By5_14, Br43_14, Br45_14, Bf61_14, T14⟩
theorem w_addEntriesF {w : World} {b : Nat} {q1 q2 q3 q4 q5 q6 q7 q8 : Nat} (hm : MapAt w b iV (cZ q1 q2 ++ iE q3 q4 q5 q6 q7 q8)) :
  Calls Tryz.prog 123 #[.map (some b)] w fun e w' => e = .returned (.tuple #[]) ∧ ∃ n1 x7 y5 r43 r45 f61 : Nat, MapAt w' b iV ((cZ q1 q2 ++ iE q3 q4 q5 q6 q7 q8) ++ eD n1 x7 y5 r43 r45 f61) ∧ Bx w.heap.size w' n1 #[fnV 148] 193 ∧ Bx w.heap.size w' x7 #[.int .i64 7] 32 ∧ Bx w.heap.size w' y5 #[.int .i64 5] 32 ∧ Bx w.heap.size w' r43 #[.int .i64 43] 3 ∧ Bx w.heap.size w' r45 #[.int .i64 45] 3 ∧ Bx w.heap.size w' f61 #[.int .i64 61] 3 ∧ Touch b b w w' := by
 have h3 := build3
 have h2 := build2
 have lb := iG hm
 have T0 : Touch b b w w := Touch.refl _ _ _
 go_enter Tryz.func123, Tryz.ntmps123
 go_wp2_with fail
 refine (jF 148 _).mono ?_
 rintro e w1 ⟨n1, rfl, Kn1, ln1, hb1⟩
 have M1 := aB hm hb1
 have T1 := T0.trans (Touch.of_below hb1)
 have Bn1_1 : Bx w.heap.size w1 n1 _ _ := ⟨Kn1, by have := T0.size; omega⟩
 clear Kn1 ln1 hb1 hm T0
 go_wp2_with fail
 refine (iF 7 _).mono ?_
 rintro e w2 ⟨x7, rfl, Kx7, lx7, hb2⟩
 have M2 := aB M1 hb2
 have T2 := T1.trans (Touch.of_below hb2)
 have Bn1_2 := Bn1_1.keep hb2
 have Bx7_2 : Bx w.heap.size w2 x7 _ _ := ⟨Kx7, by have := T1.size; omega⟩
 clear Kx7 lx7 hb2 M1 T1
 clear Bn1_1
 go_wp2_with fail
 refine (iF 5 _).mono ?_
 rintro e w3 ⟨y5, rfl, Ky5, ly5, hb3⟩
 have M3 := aB M2 hb3
 have T3 := T2.trans (Touch.of_below hb3)
 have Bn1_3 := Bn1_2.keep hb3
 have Bx7_3 := Bx7_2.keep hb3
 have By5_3 : Bx w.heap.size w3 y5 _ _ := ⟨Ky5, by have := T2.size; omega⟩
 clear Ky5 ly5 hb3 M2 T2
 clear Bn1_2 Bx7_2
 have hb4 : Below w3.heap.size w3 (w3.alloc (.cells #[.int .i64 20, .int .i64 21, .int .i64 22, .int .i64 40, .int .i64 41] 3)) := (Below.refl _ _).alloc (Nat.le_refl _) _
 have R4 : Reads (w3.alloc (.cells #[.int .i64 20, .int .i64 21, .int .i64 22, .int .i64 40, .int .i64 41] 3)) .i64 (.slice (some ⟨w3.heap.size, 0, none⟩) 5 5) [20, 21, 22, 40, 41] := Reads.dn (l := [20, 21, 22, 40, 41]) (Bk.new w3 #[.int .i64 20, .int .i64 21, .int .i64 22, .int .i64 40, .int .i64 41] 3) fZ
 have P4 := aB M3 hb4
 have T4x := T3.trans (Touch.of_below hb4)
 have Cn1_4 := Bn1_3.keep hb4
 have Cx7_4 := Bx7_3.keep hb4
 have Cy5_4 := By5_3.keep hb4
 have HA4 := Lib.hid (bP (y := ⟨some ⟨w3.heap.size, 0, none⟩, 5, 5⟩) (s := (aO 163 n1)) (g := (fnV 138)) (n := (aO 170 y5)) P4 R4 aF)
 simp only [Sl.v] at HA4
 clear hb4 R4 P4 M3 T3
 clear Bn1_3 Bx7_3 By5_3
 go_wp2_with fail
 refine HA4.out.mono ?_
 rintro e w4 ⟨rfl, M4, V4⟩
 have T4 := T4x.trans V4
 have Bn1_4 := Cn1_4.touch V4 lb lb
 have Bx7_4 := Cx7_4.touch V4 lb lb
 have By5_4 := Cy5_4.touch V4 lb lb
 clear HA4 V4 T4x Cn1_4 Cx7_4 Cy5_4
 have hb5 : Below w4.heap.size w4 (w4.alloc (.cells #[.int .i64 23, .int .i64 24, .int .i64 25] 3)) := (Below.refl _ _).alloc (Nat.le_refl _) _
 have R5 : Reads (w4.alloc (.cells #[.int .i64 23, .int .i64 24, .int .i64 25] 3)) .i64 (.slice (some ⟨w4.heap.size, 0, none⟩) 3 3) [23, 24, 25] := Reads.dn (l := [23, 24, 25]) (Bk.new w4 #[.int .i64 23, .int .i64 24, .int .i64 25] 3) fZ
 have P5 := aB M4 hb5
 have T5x := T4.trans (Touch.of_below hb5)
 have Cn1_5 := Bn1_4.keep hb5
 have Cx7_5 := Bx7_4.keep hb5
 have Cy5_5 := By5_4.keep hb5
 have HA5 := Lib.hid (bP (y := ⟨some ⟨w4.heap.size, 0, none⟩, 3, 3⟩) (s := (aO 163 n1)) (g := (fnV 138)) (n := .nilFunc) P5 R5 aF)
 simp only [Sl.v] at HA5
 clear hb5 R5 P5 M4 T4
 clear Bn1_4 Bx7_4 By5_4
 go_wp2_with fail
 refine HA5.out.mono ?_
 rintro e w5 ⟨rfl, M5, V5⟩
 have T5 := T5x.trans V5
 have Bn1_5 := Cn1_5.touch V5 lb lb
 have Bx7_5 := Cx7_5.touch V5 lb lb
 have By5_5 := Cy5_5.touch V5 lb lb
 clear HA5 V5 T5x Cn1_5 Cx7_5 Cy5_5
 go_wp2_with fail
 refine (jr 43 _).mono ?_
 rintro e w6 ⟨r43, rfl, Kr43, lr43, hb6⟩
 have M6 := aB M5 hb6
 have T6 := T5.trans (Touch.of_below hb6)
 have Bn1_6 := Bn1_5.keep hb6
 have Bx7_6 := Bx7_5.keep hb6
 have By5_6 := By5_5.keep hb6
 have Br43_6 : Bx w.heap.size w6 r43 _ _ := ⟨Kr43, by have := T5.size; omega⟩
 clear Kr43 lr43 hb6 M5 T5
 clear Bn1_5 Bx7_5 By5_5
 have hb7 : Below w6.heap.size w6 (w6.alloc (.cells #[.int .i64 42] 3)) := (Below.refl _ _).alloc (Nat.le_refl _) _
 have R7 : Reads (w6.alloc (.cells #[.int .i64 42] 3)) .i64 (.slice (some ⟨w6.heap.size, 0, none⟩) 1 1) [42] := Reads.dn (l := [42]) (Bk.new w6 #[.int .i64 42] 3) fZ
 have P7 := aB M6 hb7
 have T7x := T6.trans (Touch.of_below hb7)
 have Cn1_7 := Bn1_6.keep hb7
 have Cx7_7 := Bx7_6.keep hb7
 have Cy5_7 := By5_6.keep hb7
 have Cr43_7 := Br43_6.keep hb7
 have HA7 := Lib.hid (bP (y := ⟨some ⟨w6.heap.size, 0, none⟩, 1, 1⟩) (s := (aO 163 n1)) (g := (aO 173 r43)) (n := (aO 170 x7)) P7 R7 aF)
 simp only [Sl.v] at HA7
 clear hb7 R7 P7 M6 T6
 clear Bn1_6 Bx7_6 By5_6 Br43_6
 go_wp2_with fail
 refine HA7.out.mono ?_
 rintro e w7 ⟨rfl, M7, V7⟩
 have T7 := T7x.trans V7
 have Bn1_7 := Cn1_7.touch V7 lb lb
 have Bx7_7 := Cx7_7.touch V7 lb lb
 have By5_7 := Cy5_7.touch V7 lb lb
 have Br43_7 := Cr43_7.touch V7 lb lb
 clear HA7 V7 T7x Cn1_7 Cx7_7 Cy5_7 Cr43_7
 have hb8 : Below w7.heap.size w7 (w7.alloc (.cells #[.int .i64 43] 3)) := (Below.refl _ _).alloc (Nat.le_refl _) _
 have R8 : Reads (w7.alloc (.cells #[.int .i64 43] 3)) .i64 (.slice (some ⟨w7.heap.size, 0, none⟩) 1 1) [43] := Reads.dn (l := [43]) (Bk.new w7 #[.int .i64 43] 3) fZ
 have P8 := aB M7 hb8
 have T8x := T7.trans (Touch.of_below hb8)
 have Cn1_8 := Bn1_7.keep hb8
 have Cx7_8 := Bx7_7.keep hb8
 have Cy5_8 := By5_7.keep hb8
 have Cr43_8 := Br43_7.keep hb8
 have HA8 := Lib.hid (bP (y := ⟨some ⟨w7.heap.size, 0, none⟩, 1, 1⟩) (s := (aO 163 n1)) (g := (fnV 150)) (n := .nilFunc) P8 R8 aF)
 simp only [Sl.v] at HA8
 clear hb8 R8 P8 M7 T7
 clear Bn1_7 Bx7_7 By5_7 Br43_7
 go_wp2_with fail
 refine HA8.out.mono ?_
 rintro e w8 ⟨rfl, M8, V8⟩
 have T8 := T8x.trans V8
 have Bn1_8 := Cn1_8.touch V8 lb lb
 have Bx7_8 := Cx7_8.touch V8 lb lb
 have By5_8 := Cy5_8.touch V8 lb lb
 have Br43_8 := Cr43_8.touch V8 lb lb
 clear HA8 V8 T8x Cn1_8 Cx7_8 Cy5_8 Cr43_8
 go_wp2_with fail
 refine (jr 45 _).mono ?_
 rintro e w9 ⟨r45, rfl, Kr45, lr45, hb9⟩
 have M9 := aB M8 hb9
 have T9 := T8.trans (Touch.of_below hb9)
 have Bn1_9 := Bn1_8.keep hb9
 have Bx7_9 := Bx7_8.keep hb9
 have By5_9 := By5_8.keep hb9
 have Br43_9 := Br43_8.keep hb9
 have Br45_9 : Bx w.heap.size w9 r45 _ _ := ⟨Kr45, by have := T8.size; omega⟩
 clear Kr45 lr45 hb9 M8 T8
 clear Bn1_8 Bx7_8 By5_8 Br43_8
 have jd : Below w9.heap.size w9 (w9.alloc (.cells #[.int .i64 44] 3)) := (Below.refl _ _).alloc (Nat.le_refl _) _
 have R10 : Reads (w9.alloc (.cells #[.int .i64 44] 3)) .i64 (.slice (some ⟨w9.heap.size, 0, none⟩) 1 1) [44] := Reads.dn (l := [44]) (Bk.new w9 #[.int .i64 44] 3) fZ
 have P10 := aB M9 jd
 have T10x := T9.trans (Touch.of_below jd)
 have Cn1_10 := Bn1_9.keep jd
 have Cx7_10 := Bx7_9.keep jd
 have Cy5_10 := By5_9.keep jd
 have Cr43_10 := Br43_9.keep jd
 have Cr45_10 := Br45_9.keep jd
 have HA10 := Lib.hid (bP (y := ⟨some ⟨w9.heap.size, 0, none⟩, 1, 1⟩) (s := (aO 163 n1)) (g := (aO 173 r45)) (n := (aO 170 x7)) P10 R10 aF)
 simp only [Sl.v] at HA10
 clear jd R10 P10 M9 T9
 clear Bn1_9 Bx7_9 By5_9 Br43_9 Br45_9
 go_wp2_with fail
 refine HA10.out.mono ?_
 rintro e w10 ⟨rfl, M10, V10⟩
 have T10 := T10x.trans V10
 have Bn1_10 := Cn1_10.touch V10 lb lb
 have Bx7_10 := Cx7_10.touch V10 lb lb
 have By5_10 := Cy5_10.touch V10 lb lb
 have Br43_10 := Cr43_10.touch V10 lb lb
 have Br45_10 := Cr45_10.touch V10 lb lb
 clear HA10 V10 T10x Cn1_10 Cx7_10 Cy5_10 Cr43_10 Cr45_10
 have jQ : Below w10.heap.size w10 (w10.alloc (.cells #[.int .i64 45] 3)) := (Below.refl _ _).alloc (Nat.le_refl _) _
 have R11 : Reads (w10.alloc (.cells #[.int .i64 45] 3)) .i64 (.slice (some ⟨w10.heap.size, 0, none⟩) 1 1) [45] := Reads.dn (l := [45]) (Bk.new w10 #[.int .i64 45] 3) fZ
 have P11 := aB M10 jQ
 have T11x := T10.trans (Touch.of_below jQ)
 have Cn1_11 := Bn1_10.keep jQ
 have Cx7_11 := Bx7_10.keep jQ
 have Cy5_11 := By5_10.keep jQ
 have Cr43_11 := Br43_10.keep jQ
 have Cr45_11 := Br45_10.keep jQ
 have HA11 := Lib.hid (bP (y := ⟨some ⟨w10.heap.size, 0, none⟩, 1, 1⟩) (s := (aO 163 n1)) (g := (fnV 151)) (n := .nilFunc) P11 R11 aF)
 simp only [Sl.v] at HA11
 clear jQ R11 P11 M10 T10
 clear Bn1_10 Bx7_10 By5_10 Br43_10 Br45_10
 go_wp2_with fail
 refine HA11.out.mono ?_
 rintro e w11 ⟨rfl, M11, V11⟩
 have T11 := T11x.trans V11
 have Bn1_11 := Cn1_11.touch V11 lb lb
 have Bx7_11 := Cx7_11.touch V11 lb lb
 have By5_11 := Cy5_11.touch V11 lb lb
 have Br43_11 := Cr43_11.touch V11 lb lb
 have Br45_11 := Cr45_11.touch V11 lb lb
 clear HA11 V11 T11x Cn1_11 Cx7_11 Cy5_11 Cr43_11 Cr45_11
 have ig : Below w11.heap.size w11 (w11.alloc (.cells #[.int .i64 46] 3)) := (Below.refl _ _).alloc (Nat.le_refl _) _
 have R12 : Reads (w11.alloc (.cells #[.int .i64 46] 3)) .i64 (.slice (some ⟨w11.heap.size, 0, none⟩) 1 1) [46] := Reads.dn (l := [46]) (Bk.new w11 #[.int .i64 46] 3) fZ
 have P12 := aB M11 ig
 have T12x := T11.trans (Touch.of_below ig)
 have Cn1_12 := Bn1_11.keep ig
 have Cx7_12 := Bx7_11.keep ig
 have Cy5_12 := By5_11.keep ig
 have Cr43_12 := Br43_11.keep ig
 have Cr45_12 := Br45_11.keep ig
 have HA12 := Lib.hid (bP (y := ⟨some ⟨w11.heap.size, 0, none⟩, 1, 1⟩) (s := (aO 163 n1)) (g := (fnV 152)) (n := (aO 170 x7)) P12 R12 aF)
 simp only [Sl.v] at HA12
 clear ig R12 P12 M11 T11
 clear Bn1_11 Bx7_11 By5_11 Br43_11 Br45_11
 go_wp2_with fail
 refine HA12.out.mono ?_
 rintro e w12 ⟨rfl, M12, V12⟩
 have T12 := T12x.trans V12
 have Bn1_12 := Cn1_12.touch V12 lb lb
 have Bx7_12 := Cx7_12.touch V12 lb lb
 have By5_12 := Cy5_12.touch V12 lb lb
 have Br43_12 := Cr43_12.touch V12 lb lb
 have Br45_12 := Cr45_12.touch V12 lb lb
 clear HA12 V12 T12x Cn1_12 Cx7_12 Cy5_12 Cr43_12 Cr45_12
 go_wp2_with fail
 refine (jL 61 _).mono ?_
 rintro e w13 ⟨f61, rfl, Kf61, lf61, hb13⟩
 have M13 := aB M12 hb13
 have T13 := T12.trans (Touch.of_below hb13)
 have Bn1_13 := Bn1_12.keep hb13
 have Bx7_13 := Bx7_12.keep hb13
 have By5_13 := By5_12.keep hb13
 have Br43_13 := Br43_12.keep hb13
 have Br45_13 := Br45_12.keep hb13
 have Bf61_13 : Bx w.heap.size w13 f61 _ _ := ⟨Kf61, by have := T12.size; omega⟩
 clear Kf61 lf61 hb13 M12 T12
 clear Bn1_12 Bx7_12 By5_12 Br43_12 Br45_12
 have jO : Below w13.heap.size w13 (w13.alloc (.cells #[.int .i64 60] 3)) := (Below.refl _ _).alloc (Nat.le_refl _) _
 have R14 : Reads (w13.alloc (.cells #[.int .i64 60] 3)) .i64 (.slice (some ⟨w13.heap.size, 0, none⟩) 1 1) [60] := Reads.dn (l := [60]) (Bk.new w13 #[.int .i64 60] 3) fZ
 have P14 := aB M13 jO
 have T14x := T13.trans (Touch.of_below jO)
 have Cn1_14 := Bn1_13.keep jO
 have Cx7_14 := Bx7_13.keep jO
 have Cy5_14 := By5_13.keep jO
 have Cr43_14 := Br43_13.keep jO
 have Cr45_14 := Br45_13.keep jO
 have Cf61_14 := Bf61_13.keep jO
 have HA14 := Lib.hid (bP (y := ⟨some ⟨w13.heap.size, 0, none⟩, 1, 1⟩) (s := (aO 163 n1)) (g := (aO 169 f61)) (n := (aO 170 x7)) P14 R14 aF)
 simp only [Sl.v] at HA14
 clear jO R14 P14 M13 T13
 clear Bn1_13 Bx7_13 By5_13 Br43_13 Br45_13 Bf61_13
 go_wp2_with fail
 refine HA14.out.mono ?_
 rintro e w14 ⟨rfl, M14, V14⟩
 have T14 := T14x.trans V14
 have Bn1_14 := Cn1_14.touch V14 lb lb
 have Bx7_14 := Cx7_14.touch V14 lb lb
 have By5_14 := Cy5_14.touch V14 lb lb
 have Br43_14 := Cr43_14.touch V14 lb lb
 have Br45_14 := Cr45_14.touch V14 lb lb
 have Bf61_14 := Cf61_14.touch V14 lb lb
 clear HA14 V14 T14x Cn1_14 Cx7_14 Cy5_14 Cr43_14 Cr45_14 Cf61_14
 go_wp2
 first | go_end0 | ((try simp only [Exit.inBlock, Exit.then]); refine bodyPost_ret (results_none rfl _ _ _) rfl ?_)
 exact ⟨rfl, n1, x7, y5, r43, r45, f61, M14, Bn1_14, Bx7_14, By5_14, Br43_14, Br45_14, Bf61_14, T14⟩
def iQ (t0 : Nat) : List (Int × Value) := [(50, dB (fnV 154) (fnV 155) .nilFunc), (61, dB (fnV 156) (fnV 157) .nilFunc), (62, dB (fnV 158) (aO 160 t0) .nilFunc)]
theorem w_addPayloadsT {w : World} {b : Nat} {q1 q2 q3 q4 q5 q6 p1 p2 p3 p4 p5 p6 : Nat} (hm : MapAt w b iV (cZ q1 q2 ++ iD q3 q4 q5 q6 ++ eD p1 p2 p3 p4 p5 p6)) :
  Calls Tryz.prog 124 #[.map (some b)] w fun e w' => e = .returned (.tuple #[]) ∧ ∃ t0 : Nat, MapAt w' b iV ((cZ q1 q2 ++ iD q3 q4 q5 q6 ++ eD p1 p2 p3 p4 p5 p6) ++ iQ t0) ∧ Bx w.heap.size w' t0 #[.int .i64 0] 3 ∧ Touch b b w w' := by
 have h3 := build3
 have h2 := build2
 have lb := iG hm
 have T0 : Touch b b w w := Touch.refl _ _ _
 go_enter Tryz.func124, Tryz.ntmps124
 have hb1 : Below w.heap.size w (w.alloc (.cells #[.int .i64 50] 3)) := (Below.refl _ _).alloc (Nat.le_refl _) _
 have R1 : Reads (w.alloc (.cells #[.int .i64 50] 3)) .i64 (.slice (some ⟨w.heap.size, 0, none⟩) 1 1) [50] := Reads.dn (l := [50]) (Bk.new w #[.int .i64 50] 3) fZ
 have P1 := aB hm hb1
 have T1x := T0.trans (Touch.of_below hb1)
 have HA1 := Lib.hid (bP (y := ⟨some ⟨w.heap.size, 0, none⟩, 1, 1⟩) (s := (fnV 154)) (g := (fnV 155)) (n := .nilFunc) P1 R1 aF)
 simp only [Sl.v] at HA1
 clear hb1 R1 P1 hm T0
 go_wp2_with fail
 refine HA1.out.mono ?_
 rintro e w1 ⟨rfl, M1, V1⟩
 have T1 := T1x.trans V1
 clear HA1 V1 T1x
 have hb2 : Below w1.heap.size w1 (w1.alloc (.cells #[.int .i64 61] 3)) := (Below.refl _ _).alloc (Nat.le_refl _) _
 have R2 : Reads (w1.alloc (.cells #[.int .i64 61] 3)) .i64 (.slice (some ⟨w1.heap.size, 0, none⟩) 1 1) [61] := Reads.dn (l := [61]) (Bk.new w1 #[.int .i64 61] 3) fZ
 have P2 := aB M1 hb2
 have T2x := T1.trans (Touch.of_below hb2)
 have HA2 := Lib.hid (bP (y := ⟨some ⟨w1.heap.size, 0, none⟩, 1, 1⟩) (s := (fnV 156)) (g := (fnV 157)) (n := .nilFunc) P2 R2 aF)
 simp only [Sl.v] at HA2
 clear hb2 R2 P2 M1 T1
 go_wp2_with fail
 refine HA2.out.mono ?_
 rintro e w2 ⟨rfl, M2, V2⟩
 have T2 := T2x.trans V2
 clear HA2 V2 T2x
 go_wp2_with fail
 refine (mk_to 0 _).mono ?_
 rintro e w3 ⟨t0, rfl, Kt0, lt0, hb3⟩
 have M3 := aB M2 hb3
 have T3 := T2.trans (Touch.of_below hb3)
 have Bt0_3 : Bx w.heap.size w3 t0 _ _ := ⟨Kt0, by have := T2.size; omega⟩
 clear Kt0 lt0 hb3 M2 T2
 have hb4 : Below w3.heap.size w3 (w3.alloc (.cells #[.int .i64 62] 3)) := (Below.refl _ _).alloc (Nat.le_refl _) _
 have R4 : Reads (w3.alloc (.cells #[.int .i64 62] 3)) .i64 (.slice (some ⟨w3.heap.size, 0, none⟩) 1 1) [62] := Reads.dn (l := [62]) (Bk.new w3 #[.int .i64 62] 3) fZ
 have P4 := aB M3 hb4
 have T4x := T3.trans (Touch.of_below hb4)
 have Ct0_4 := Bt0_3.keep hb4
 have HA4 := Lib.hid (bP (y := ⟨some ⟨w3.heap.size, 0, none⟩, 1, 1⟩) (s := (fnV 158)) (g := (aO 160 t0)) (n := .nilFunc) P4 R4 aF)
 simp only [Sl.v] at HA4
 clear hb4 R4 P4 M3 T3
 clear Bt0_3
 go_wp2_with fail
 refine HA4.out.mono ?_
 rintro e w4 ⟨rfl, M4, V4⟩
 have T4 := T4x.trans V4
 have Bt0_4 := Ct0_4.touch V4 lb lb
 clear HA4 V4 T4x Ct0_4
 go_wp2
 first | go_end0 | ((try simp only [Exit.inBlock, Exit.then]); refine bodyPost_ret (results_none rfl _ _ _) rfl ?_)
 exact ⟨rfl, t0, M4, Bt0_4, T4⟩
theorem w_addPayloadsF {w : World} {b : Nat} {q1 q2 q3 q4 q5 q6 q7 q8 p1 p2 p3 p4 p5 p6 : Nat} (hm : MapAt w b iV (cZ q1 q2 ++ iE q3 q4 q5 q6 q7 q8 ++ eD p1 p2 p3 p4 p5 p6)) :
  Calls Tryz.prog 124 #[.map (some b)] w fun e w' => e = .returned (.tuple #[]) ∧ ∃ t0 : Nat, MapAt w' b iV ((cZ q1 q2 ++ iE q3 q4 q5 q6 q7 q8 ++ eD p1 p2 p3 p4 p5 p6) ++ iQ t0) ∧ Bx w.heap.size w' t0 #[.int .i64 0] 3 ∧ Touch b b w w' := by
 have h3 := build3
 have h2 := build2
 have lb := iG hm
 have T0 : Touch b b w w := Touch.refl _ _ _
 go_enter Tryz.func124, Tryz.ntmps124
 have hb1 : Below w.heap.size w (w.alloc (.cells #[.int .i64 50] 3)) := (Below.refl _ _).alloc (Nat.le_refl _) _
 have R1 : Reads (w.alloc (.cells #[.int .i64 50] 3)) .i64 (.slice (some ⟨w.heap.size, 0, none⟩) 1 1) [50] := Reads.dn (l := [50]) (Bk.new w #[.int .i64 50] 3) fZ
 have P1 := aB hm hb1
 have T1x := T0.trans (Touch.of_below hb1)
 have HA1 := Lib.hid (bP (y := ⟨some ⟨w.heap.size, 0, none⟩, 1, 1⟩) (s := (fnV 154)) (g := (fnV 155)) (n := .nilFunc) P1 R1 aF)
 simp only [Sl.v] at HA1
 clear hb1 R1 P1 hm T0
 go_wp2_with fail
 refine HA1.out.mono ?_
 rintro e w1 ⟨rfl, M1, V1⟩
 have T1 := T1x.trans V1
 clear HA1 V1 T1x
 have hb2 : Below w1.heap.size w1 (w1.alloc (.cells #[.int .i64 61] 3)) := (Below.refl _ _).alloc (Nat.le_refl _) _
 have R2 : Reads (w1.alloc (.cells #[.int .i64 61] 3)) .i64 (.slice (some ⟨w1.heap.size, 0, none⟩) 1 1) [61] := Reads.dn (l := [61]) (Bk.new w1 #[.int .i64 61] 3) fZ
 have P2 := aB M1 hb2
 have T2x := T1.trans (Touch.of_below hb2)
 have HA2 := Lib.hid (bP (y := ⟨some ⟨w1.heap.size, 0, none⟩, 1, 1⟩) (s := (fnV 156)) (g := (fnV 157)) (n := .nilFunc) P2 R2 aF)
 simp only [Sl.v] at HA2
 clear hb2 R2 P2 M1 T1
 go_wp2_with fail
 refine HA2.out.mono ?_
 rintro e w2 ⟨rfl, M2, V2⟩
 have T2 := T2x.trans V2
 clear HA2 V2 T2x
 go_wp2_with fail
 refine (mk_to 0 _).mono ?_
 rintro e w3 ⟨t0, rfl, Kt0, lt0, hb3⟩
 have M3 := aB M2 hb3
 have T3 := T2.trans (Touch.of_below hb3)
 have Bt0_3 : Bx w.heap.size w3 t0 _ _ := ⟨Kt0, by have := T2.size; omega⟩
 clear Kt0 lt0 hb3 M2 T2
 have hb4 : Below w3.heap.size w3 (w3.alloc (.cells #[.int .i64 62] 3)) := (Below.refl _ _).alloc (Nat.le_refl _) _
 have R4 : Reads (w3.alloc (.cells #[.int .i64 62] 3)) .i64 (.slice (some ⟨w3.heap.size, 0, none⟩) 1 1) [62] := Reads.dn (l := [62]) (Bk.new w3 #[.int .i64 62] 3) fZ
 have P4 := aB M3 hb4
 have T4x := T3.trans (Touch.of_below hb4)
 have Ct0_4 := Bt0_3.keep hb4
 have HA4 := Lib.hid (bP (y := ⟨some ⟨w3.heap.size, 0, none⟩, 1, 1⟩) (s := (fnV 158)) (g := (aO 160 t0)) (n := .nilFunc) P4 R4 aF)
 simp only [Sl.v] at HA4
 clear hb4 R4 P4 M3 T3
 clear Bt0_3
 go_wp2_with fail
 refine HA4.out.mono ?_
 rintro e w4 ⟨rfl, M4, V4⟩
 have T4 := T4x.trans V4
 have Bt0_4 := Ct0_4.touch V4 lb lb
 clear HA4 V4 T4x Ct0_4
 go_wp2
 first | go_end0 | ((try simp only [Exit.inBlock, Exit.then]); refine bodyPost_ret (results_none rfl _ _ _) rfl ?_)
 exact ⟨rfl, t0, M4, Bt0_4, T4⟩
def RulT (B : Nat) (w : World) (b : Nat) : Prop := ∃ t1 t2 s1 e1 e2 g1 n1 x7 y5 r43 r45 f61 t0 : Nat, MapAt w b iV (cZ t1 t2 ++ iD s1 e1 e2 g1 ++ eD n1 x7 y5 r43 r45 f61 ++ iQ t0) ∧ Bx B w t1 #[.int .i64 73] 3 ∧ Bx B w t2 #[.int .i64 73] 3 ∧ Bx B w s1 #[fnV 140] 193 ∧ Bx B w e1 #[.int .i64 0] 32 ∧ Bx B w e2 #[.int .i64 9] 32 ∧ Bx B w g1 #[fnV 144] 193 ∧ Bx B w n1 #[fnV 148] 193 ∧ Bx B w x7 #[.int .i64 7] 32 ∧ Bx B w y5 #[.int .i64 5] 32 ∧ Bx B w r43 #[.int .i64 43] 3 ∧ Bx B w r45 #[.int .i64 45] 3 ∧ Bx B w f61 #[.int .i64 61] 3 ∧ Bx B w t0 #[.int .i64 0] 3
theorem w_rulesT (w : World) : Calls Tryz.prog 94 #[.bool true] w fun e w' => ∃ b, e = .returned (.map (some b)) ∧ RulT w.heap.size w' b ∧ w.heap.size ≤ b ∧ Below w.heap.size w w' := by
 have hmk := makeBook
 have M0 : MapAt (w.alloc (.map #[] 0)) w.heap.size iV [] := (jU.new w).at
 have hb0 : Below w.heap.size w (w.alloc (.map #[] 0)) := (Below.refl _ _).alloc (Nat.le_refl _) _
 go_enter Tryz.func94, Tryz.ntmps94
 go_wp2_with fail
 refine (w_addEpochs M0).mono ?_
 rintro e w1 ⟨rfl, t1, t2, M1, At1, At2, T1⟩
 have z1 := T1.size
 simp only [World.size_alloc] at z1
 have hb1 := hb0.trans (T1.below (base := w.heap.size) (Nat.le_refl _) (Nat.le_refl _) hb0.size)
 simp only [List.nil_append] at M1
 clear M0 T1 hmk
 go_wp2_with fail
 refine (w_addSlabsT M1).mono ?_
 rintro e w2 ⟨rfl, s1, e1, e2, g1, M2, As1, Ae1, Ae2, Ag1, T2⟩
 have z2 := T2.size
 have hb2 := hb1.trans (T2.below (base := w.heap.size) (Nat.le_refl _) (Nat.le_refl _) hb1.size)
 have Ct1 := (At1.base (B' := w.heap.size + 1) aF).touch T2 aj aj
 have Ct2 := (At2.base (B' := w.heap.size + 1) aF).touch T2 aj aj
 clear M1 T2
 go_wp2_with fail
 refine (w_addEntriesT M2).mono ?_
 rintro e w3 ⟨rfl, n1, x7, y5, r43, r45, f61, M3, An1, Ax7, Ay5, Ar43, Ar45, Af61, T3⟩
 have z3 := T3.size
 have hb3 := hb2.trans (T3.below (base := w.heap.size) (Nat.le_refl _) (Nat.le_refl _) hb2.size)
 have Dt1 := Ct1.touch T3 aj aj
 have Dt2 := Ct2.touch T3 aj aj
 have Ds1 := (As1.base (B' := w.heap.size + 1) aj).touch T3 aj aj
 have De1 := (Ae1.base (B' := w.heap.size + 1) aj).touch T3 aj aj
 have De2 := (Ae2.base (B' := w.heap.size + 1) aj).touch T3 aj aj
 have Dg1 := (Ag1.base (B' := w.heap.size + 1) aj).touch T3 aj aj
 clear M2 T3
 go_wp2_with fail
 refine (w_addPayloadsT M3).mono ?_
 rintro e w4 ⟨rfl, t0, M4, At0, T4⟩
 have hb4 := hb3.trans (T4.below (base := w.heap.size) (Nat.le_refl _) (Nat.le_refl _) hb3.size)
 have Et1 := Dt1.touch T4 aj aj
 have Et2 := Dt2.touch T4 aj aj
 have Es1 := Ds1.touch T4 aj aj
 have Ee1 := De1.touch T4 aj aj
 have Ee2 := De2.touch T4 aj aj
 have Eg1 := Dg1.touch T4 aj aj
 have En1 := (An1.base (B' := w.heap.size + 1) aj).touch T4 aj aj
 have Ex7 := (Ax7.base (B' := w.heap.size + 1) aj).touch T4 aj aj
 have Ey5 := (Ay5.base (B' := w.heap.size + 1) aj).touch T4 aj aj
 have Er43 := (Ar43.base (B' := w.heap.size + 1) aj).touch T4 aj aj
 have Er45 := (Ar45.base (B' := w.heap.size + 1) aj).touch T4 aj aj
 have Ef61 := (Af61.base (B' := w.heap.size + 1) aj).touch T4 aj aj
 have Et0 := At0.base (B' := w.heap.size + 1) aj
 clear M3 T4
 go_wp2
 go_ret
 exact ⟨_, rfl, ⟨t1, t2, s1, e1, e2, g1, n1, x7, y5, r43, r45, f61, t0, M4, Et1.base aj, Et2.base aj, Es1.base aj, Ee1.base aj, Ee2.base aj, Eg1.base aj, En1.base aj, Ex7.base aj, Ey5.base aj, Er43.base aj, Er45.base aj, Ef61.base aj, Et0.base aj⟩, Nat.le_refl _, hb4⟩
def RulF (B : Nat) (w : World) (b : Nat) : Prop := ∃ t1 t2 s1 e1 e2 k1 f50 x5 n1 x7 y5 r43 r45 f61 t0 : Nat, MapAt w b iV (cZ t1 t2 ++ iE s1 e1 e2 k1 f50 x5 ++ eD n1 x7 y5 r43 r45 f61 ++ iQ t0) ∧ Bx B w t1 #[.int .i64 73] 3 ∧ Bx B w t2 #[.int .i64 73] 3 ∧ Bx B w s1 #[fnV 140] 193 ∧ Bx B w e1 #[.int .i64 0] 32 ∧ Bx B w e2 #[.int .i64 9] 32 ∧ Bx B w k1 #[fnV 145] 193 ∧ Bx B w f50 #[.int .i64 50] 3 ∧ Bx B w x5 #[.int .i64 5] 32 ∧ Bx B w n1 #[fnV 148] 193 ∧ Bx B w x7 #[.int .i64 7] 32 ∧ Bx B w y5 #[.int .i64 5] 32 ∧ Bx B w r43 #[.int .i64 43] 3 ∧ Bx B w r45 #[.int .i64 45] 3 ∧ Bx B w f61 #[.int .i64 61] 3 ∧ Bx B w t0 #[.int .i64 0] 3
theorem fG (w : World) : Calls Tryz.prog 94 #[.bool false] w fun e w' => ∃ b, e = .returned (.map (some b)) ∧ RulF w.heap.size w' b ∧ w.heap.size ≤ b ∧ Below w.heap.size w w' := by
 have hmk := makeBook
 have M0 : MapAt (w.alloc (.map #[] 0)) w.heap.size iV [] := (jU.new w).at
 have hb0 : Below w.heap.size w (w.alloc (.map #[] 0)) := (Below.refl _ _).alloc (Nat.le_refl _) _
 go_enter Tryz.func94, Tryz.ntmps94
 go_wp2_with fail
 refine (w_addEpochs M0).mono ?_
 rintro e w1 ⟨rfl, t1, t2, M1, At1, At2, T1⟩
 have z1 := T1.size
 simp only [World.size_alloc] at z1
 have hb1 := hb0.trans (T1.below (base := w.heap.size) (Nat.le_refl _) (Nat.le_refl _) hb0.size)
 simp only [List.nil_append] at M1
 clear M0 T1 hmk
 go_wp2_with fail
 refine (w_addSlabsF M1).mono ?_
 rintro e w2 ⟨rfl, s1, e1, e2, k1, f50, x5, M2, As1, Ae1, Ae2, Ak1, Af50, Ax5, T2⟩
 have z2 := T2.size
 have hb2 := hb1.trans (T2.below (base := w.heap.size) (Nat.le_refl _) (Nat.le_refl _) hb1.size)
 have Ct1 := (At1.base (B' := w.heap.size + 1) aF).touch T2 aj aj
 have Ct2 := (At2.base (B' := w.heap.size + 1) aF).touch T2 aj aj
 clear M1 T2
 go_wp2_with fail
 refine (w_addEntriesF M2).mono ?_
 rintro e w3 ⟨rfl, n1, x7, y5, r43, r45, f61, M3, An1, Ax7, Ay5, Ar43, Ar45, Af61, T3⟩
 have z3 := T3.size
 have hb3 := hb2.trans (T3.below (base := w.heap.size) (Nat.le_refl _) (Nat.le_refl _) hb2.size)
 have Dt1 := Ct1.touch T3 aj aj
 have Dt2 := Ct2.touch T3 aj aj
 have Ds1 := (As1.base (B' := w.heap.size + 1) aj).touch T3 aj aj
 have De1 := (Ae1.base (B' := w.heap.size + 1) aj).touch T3 aj aj
 have De2 := (Ae2.base (B' := w.heap.size + 1) aj).touch T3 aj aj
 have Dk1 := (Ak1.base (B' := w.heap.size + 1) aj).touch T3 aj aj
 have Df50 := (Af50.base (B' := w.heap.size + 1) aj).touch T3 aj aj
 have Dx5 := (Ax5.base (B' := w.heap.size + 1) aj).touch T3 aj aj
 clear M2 T3
 go_wp2_with fail
 refine (w_addPayloadsF M3).mono ?_
 rintro e w4 ⟨rfl, t0, M4, At0, T4⟩
 have hb4 := hb3.trans (T4.below (base := w.heap.size) (Nat.le_refl _) (Nat.le_refl _) hb3.size)
 have Et1 := Dt1.touch T4 aj aj
 have Et2 := Dt2.touch T4 aj aj
 have Es1 := Ds1.touch T4 aj aj
 have Ee1 := De1.touch T4 aj aj
 have Ee2 := De2.touch T4 aj aj
 have Ek1 := Dk1.touch T4 aj aj
 have Ef50 := Df50.touch T4 aj aj
 have Ex5 := Dx5.touch T4 aj aj
 have En1 := (An1.base (B' := w.heap.size + 1) aj).touch T4 aj aj
 have Ex7 := (Ax7.base (B' := w.heap.size + 1) aj).touch T4 aj aj
 have Ey5 := (Ay5.base (B' := w.heap.size + 1) aj).touch T4 aj aj
 have Er43 := (Ar43.base (B' := w.heap.size + 1) aj).touch T4 aj aj
 have Er45 := (Ar45.base (B' := w.heap.size + 1) aj).touch T4 aj aj
 have Ef61 := (Af61.base (B' := w.heap.size + 1) aj).touch T4 aj aj
 have Et0 := At0.base (B' := w.heap.size + 1) aj
 clear M3 T4
 go_wp2
 go_ret
 exact ⟨_, rfl, ⟨t1, t2, s1, e1, e2, k1, f50, x5, n1, x7, y5, r43, r45, f61, t0, M4, Et1.base aj, Et2.base aj, Es1.base aj, Ee1.base aj, Ee2.base aj, Ek1.base aj, Ef50.base aj, Ex5.base aj, En1.base aj, Ex7.base aj, Ey5.base aj, Er43.base aj, Er45.base aj, Ef61.base aj, Et0.base aj⟩, Nat.le_refl _, hb4⟩
end Go.Proofs.YtaiodbcnbcdokaaGreat.Me
namespace Go.Proofs.YtaiodbcnbcdokaaGreat.Me
open Go Go.RowKit Go.ChangeMaps Gro Own Wd Ap Go.Proofs.YtaiodbcnbcdokaaGreat.Pl Wo Mr
structure Cap (Q : Nat → World → Array Value → Prop) : Prop where
 keep : ∀ {B : Nat} {w u : World} {cs : Array Value}, Q B w cs → Below w.heap.size w u → Q B u cs
 touch : ∀ {B : Nat} {w u : World} {cs : Array Value} {g gl : Nat}, Q B w cs → Touch g gl w u → g < B → gl < B → Q B u cs
def fA : Nat → World → Array Value → Prop := fun _ _ cs => cs = #[]
def dw (v : Value) (t : TypeId) : Nat → World → Array Value → Prop := fun B w cs => ∃ a, cs = #[.pointer (some ⟨a, 0, none⟩)] ∧ Bx B w a #[v] t
theorem aX : Cap fA := ⟨fun h _ => h, fun h _ _ _ => h⟩
theorem aK (v : Value) (t : TypeId) : Cap (dw v t) := ⟨fun ⟨a, h1, h2⟩ hb => ⟨a, h1, h2.keep hb⟩, fun ⟨a, h1, h2⟩ T q1 q2 => ⟨a, h1, h2.touch T q1 q2⟩⟩
theorem Cap.row {Q : Nat → World → Array Value → Prop} (C : Cap Q) {B x : Nat} {w : World} {cs : Array Value} (h : Q B w cs) (hx : x < B) (r : Array Value) : Q B (w.setRow x r) cs := C.touch h ((Touch.refl x x w).setRow r) hx hx
def RG (gv : Bool) (ln : Int) (sf : Nat) (SQ : Nat → World → Array Value → Prop) (gf : Nat) (GQ : Nat → World → Array Value → Prop) (NP : Nat → World → Value → Prop) : Prop :=
 ∀ w : World, Calls Tryz.prog 94 #[.bool gv] w fun e w' => ∃ b L sc gc n, e = .returned (.map (some b)) ∧ MapAt w' b iV L ∧ Mr.look ln L = some (dB (.func (.func sf) #[] sc) (.func (.func gf) #[] gc) n) ∧ SQ w.heap.size w' sc ∧ GQ w.heap.size w' gc ∧ NP w.heap.size w' n ∧ n.oneCell' = true ∧ Below w.heap.size w w'
theorem rul_one {f1 f2 : Fn} {a1 c1 a2 c2 : Array Value} {n : Value} (h : n.oneCell' = true) : (#[Value.func f1 a1 c1, .func f2 a2 c2, n].all (·.oneCell')) = true := by
 have h1 : (Value.func f1 a1 c1).oneCell' = true := rfl
 have h2 : (Value.func f2 a2 c2).oneCell' = true := rfl
 simp [h, h1, h2]
def WS (B g gl cap : Nat) (c : Cfg) (a : Acc) (L : List Int) (x : St) (ok : Bool) (w : World) (e : Ending) (w' : World) : Prop :=
 ∃ s2, e = .returned (.tuple #[wv s2, .bool ok]) ∧ aQ w.heap.size w' s2 x ∧ aC B w' g c a gl cap L ∧ Touch g gl w w'
theorem zero_rul (w : World) : (zeroValue 144).run Tryz.prog w = .ok (dB .nilFunc .nilFunc .nilFunc) w := ah
theorem look_run {w : World} {b : Nat} {L : List (Int × Value)} {v : Value} {k : Int} (hm : MapAt w b iV L) (h : Mr.look k L = some v) : (Instr.lookup 147 (.map (some b)) (.int .i64 k) true).run Tryz.prog w = .ok (.tuple #[v, .bool true]) w := by
 have := run_look fJ Tryz.underlying147 (zero_rul w) hm k true
 rw [h] at this
 exact this
theorem touchW {g gl gz : Nat} {w w2 w3 : World} (hb : Below w.heap.size w w2) (t : Touch g gl w2 w3) (hz : w.heap.size ≤ gz) (cs : Array Value) : Touch g gl w (w3.setRow gz cs) := dQ hb (Tri.of_touch t) hz cs
theorem jH {g gl gz : Nat} {w w3 : World} (t : Touch g gl w w3) (hz : w.heap.size ≤ gz) (cs : Array Value) : Touch g gl w (w3.setRow gz cs) := touchW (Below.refl _ _) t hz cs
theorem workStep0 {B : Nat} {w : World} {g gl cap : Nat} {c : Cfg} {a : Acc} {L : List Int} (M : aC B w g c a gl cap L) (wk : Int) (s : Wk) (x : St) (hx : Few 800 x) (h : aP w s x) {gv : Bool} (hgv : x.p.gv = gv) {ln : Int} (hln : x.p.ln = ln) {sf gf : Nat} {SQ GQ : Nat → World → Array Value → Prop} {NP : Nat → World → Value → Prop} (cS : Cap SQ) (cG : Cap GQ) (cN : ∀ {B : Nat} {w u : World} {n : Value}, NP B w n → Below w.heap.size w u → NP B u n) (cT : ∀ {B : Nat} {w u : World} {n : Value} {g gl : Nat}, NP B w n → Touch g gl w u → g < B → gl < B → NP B u n) (HR : RG gv ln sf SQ gf GQ NP) (hsf : ∀ args w, (callFunc sf args).run Tryz.prog w = .ok (.enter sf args) w)
  {r : Rs} (HS : RowKit.Hid (∀ (P : Nat → Prop) B1 w1 s1 sc, (∀ b, w1.heap.size ≤ b → P b) → (∀ b, P b → b ≠ g ∧ b ≠ gl) → aC B w1 g c a gl cap L → aM P w1 s1 x → s1.rd.cap = s1.rd.len → SQ B1 w1 sc → Calls Tryz.prog sf (#[.pointer (some ⟨g, 0, none⟩), .int .i64 wk, wv s1] ++ sc) w1 (GSP P B g gl cap c r w1))) (hw : r.way ≠ 1 ∧ r.way ≠ 2) :
  Calls Tryz.prog 55 #[.pointer (some ⟨g, 0, none⟩), .int .i64 wk, wv s] w (WS B g gl cap c r.a r.L r.x true w) := by
 have T0 := Two.start w s
 have mlt := M.lt
 have cR : ∀ {B x : Nat} {w : World} {n : Value}, NP B w n → x < B → ∀ r : Array Value, NP B (w.setRow x r) n := fun h hx r => cT h ((Touch.refl _ _ _).setRow r) hx hx
 go_enter Tryz.func55, Tryz.ntmps55
 go_wp2_with (first | ((with_reducible refine au rfl rfl ?_)) | (refine wpList_load_row rfl 46 _ rfl (w.heap.size) rfl _ (wc s) (0, 0) _ bT Tryz.underlying46 rfl ah ?_))
 refine (aW s x (hx.mono aj) _ (h.keep T0.below)).mono ?_
 rintro e w1 ⟨s1, rfl, A1, hb1⟩
 have T1 := T0.keep hb1
 have b1 := T1.lt
 have T2 := T1.bO s1
 have hsz : ((w.alloc (.cells (wc s) 46)).alloc (.cells (wc wz) 46)).heap.size = w.heap.size + 2 := aF
 rw [hsz] at A1 hb1
 have A2 := A1.dL.setRow (g := w.heap.size) aj (wc s1)
 have HCP := Lib.hid A1.rd.1
 have M2 := M.keep T2.below
 obtain ⟨w2, hw2⟩ : ∃ u, u = w1.setRow w.heap.size (wc s1) := ⟨_, rfl⟩
 rw [← hw2] at M2 A2 T2
 have hs2 : w.heap.size + 2 ≤ w2.heap.size := qa57
 have mlt2 := M2.lt
 have X2 := T2.X
 have q32 : (wc s1)[32]? = some (.bool gv) := by rw [show (wc s1)[32]? = some (.bool s1.p.gv) from rfl, A2.p, hgv]
 have q0 : (wc s1)[0]? = some (.int .i64 ln) := by rw [show (wc s1)[0]? = some (.int .i64 s1.p.ln) from rfl, A2.p, hln]
 clear A1 hb1 T0 hgv hln
 go_wp2_with (first | (refine wpList_store_row rfl 46 _ _ rfl (w.heap.size) (wc s1) rfl rfl _ _ dG ah ah ah ?_; rw [← hw2]; clear hw2 T1))
 have HT2 := Lib.hid T2
 have HA2 := Lib.hid A2
 have HM2 := Lib.hid M2
 clear T2 A2 M2
 simp only [Act.put]
 go_cut [8, 9] from 14 to 22 (fun p ok wx => ∃ gr B1 sc gc n, p = .pointer (some ⟨gr, 0, none⟩) ∧ ok = .bool true ∧ Bk wx gr #[.func (.func sf) #[] sc, .func (.func gf) #[] gc, n] 144 ∧ w2.heap.size ≤ gr ∧ w2.heap.size ≤ B1 ∧ SQ B1 wx sc ∧ GQ B1 wx gc ∧ NP B1 wx n ∧ Below w2.heap.size w2 wx)
 case first =>
  have hS0 : Below w2.heap.size w2 w2.drew := Below.drew (Below.refl _ _)
  refine wp_region_held_drew (S := fun w' => Below w2.heap.size w2 w') ah hS0 (fun hHeld => ?_)
  clear hS0
  generalize w2.drew = u0 at *
  have hz0 := hHeld.size
  refine jT 0 (.pointer (some ⟨w.heap.size, 32, none⟩)) rfl hHeld ?_
  try simp only [Act.put, jP]
  refine jY 1 (.bool gv) rfl (Or.inl ⟨by rfl, fun w' hSw => by have xx := (X2.keep hSw).cells; go_simp⟩) hHeld ?_
  try simp only [Act.put, jP]
  refine jT 3 (.pointer (some ⟨w.heap.size, 0, none⟩)) rfl hHeld ?_
  try simp only [Act.put, jP]
  refine jY 4 (.int .i64 ln) rfl (Or.inl ⟨by rfl, fun w' hSw => by have xx := (X2.keep hSw).cells; go_simp⟩) hHeld ?_
  try simp only [Act.put, jP]
  refine jR [2, 9] ?_
  refine jC rfl (fun K hK => ?_) (jC rfl (fun K hK => ?_) (jN))
  ·exact qa27
  ·exact qa28
 case rest =>
  revert wc
  intro wx hcut
  obtain ⟨gr, B1, sc, gc, n, rfl, rfl, ZR, hgr, hB1, hSQ, hGQ, hNP, hbx⟩ := hcut
  clear X2 q32 q0 HR
  have T3 := HT2.out.keep hbx
  have A3 := HA2.out.keep hbx
  have M3 := HM2.out.keep hbx
  have szx := hbx.size
  have mlt3 := M3.lt
  have xr := ZR.cells
  have lr := ZR.lt
  have X3 := T3.X
  have hbw := HT2.out.below.trans (hbx.mono qa66)
  have HS1 := Lib.hid (HS.out (fun b => w.heap.size + 2 ≤ b) B1 wx s1 sc (fun b hb => by omega) (fun b hb => by omega) M3 (aM.of A3 (fun b _ q => q)) HCP.out hSQ)
  clear HS hSQ hbx
  go_wp2_with (first | (refine wpList_load_row rfl 46 _ rfl (w.heap.size) rfl _ (wc s1) (0, 0) _ qa5p Tryz.underlying46 rfl ah ?_))
  refine HS1.out.mono ?_
  rintro e w3 ⟨s3, rfl, A4, M4, T4⟩
  clear xr X3 HS1
  have X4 := T4.bk T3.X aj aj
  have Z4 := T4.bk T3.Z aj aj
  have R4 := T4.bk ZR aj aj
  have G4 := cG.touch hGQ T4 aj aj
  have N4 := cT hNP T4 aj aj
  have s4 := T4.size
  have M5 : aC B (w3.setRow w.heap.size (wc s3)) g c r.a gl cap r.L := M4.apart (g' := w.heap.size) (gl' := w.heap.size) ((Touch.refl _ _ _).setRow _) aj aj aj aj
  have X5 := X4.setRow (wc s3)
  have Z5 := Z4.aJ (g' := w.heap.size) aj (wc s3)
  have R5 := R4.aJ (g' := w.heap.size) aj (wc s3)
  have G5 := cG.row G4 (x := w.heap.size) aj (wc s3)
  have N5 := cR N4 (x := w.heap.size) aj (wc s3)
  have A5 := (A4.dL (B := w.heap.size + 2) (fun b _ q => q)).setRow (g := w.heap.size) aj (wc s3)
  have TT : Touch g gl w (w3.setRow w.heap.size (wc s3)) := touchW hbw T4 (Nat.le_refl _) _
  obtain ⟨w4, hw4⟩ : ∃ u, u = w3.setRow w.heap.size (wc s3) := ⟨_, rfl⟩
  have s5 : w4.heap.size = w3.heap.size := by rw [hw4]; simp
  rw [← hw4] at M5 X5 Z5 R5 G5 N5 A5 TT
  obtain ⟨ra, rL, rx, rw', rok⟩ := r
  simp only at *
  clear ZR hGQ hNP T3 T4 Z4 R4 G4 N4 A4 M4 A3 M3
  have t1 : (rw' == 1) = false := by simp [hw.1]
  have t2 : (rw' == 2) = false := by simp [hw.2]
  clear hw
  go_wp2_with (first | (refine wpList_store_row rfl 46 _ _ rfl (w.heap.size) (wc s3) rfl rfl _ _ (by exact X4) ah ah ah ?_; rw [← hw4]; clear hw4 X4) | (refine wpList_load_row rfl 46 _ rfl (w.heap.size) rfl _ (wc s3) (0, 0) _ (by exact X5) Tryz.underlying46 rfl ah ?_) | (refine wpList_store_row rfl 46 _ _ rfl (w.heap.size + 1) (wc s3) rfl rfl _ _ qa5u ah ah ah ?_))
  have ZF := Z5.setRow (wc s3)
  refine bodyPost_ret (v := .tuple #[wv s3, .bool true]) ?_ rfl ⟨_, rfl, (A5.setRow (g := w.heap.size + 1) aj (wc s3)).base aj, M5.apart (g' := w.heap.size + 1) (gl' := w.heap.size + 1) ((Touch.refl _ _ _).setRow _) aj aj aj aj, jH TT aj _⟩
  exact Rw.results_cell_slot (p := 6) (q := 7) (ty := 46) Tryz.results55 _ _ (w.heap.size + 1) 46 _ (0, 0) _ rfl ZF Tryz.underlying46 rfl ah
theorem workStep1 {B : Nat} {w : World} {g gl cap : Nat} {c : Cfg} {a : Acc} {L : List Int} (M : aC B w g c a gl cap L) (wk : Int) (s : Wk) (x : St) (hx : Few 800 x) (h : aP w s x) {gv : Bool} (hgv : x.p.gv = gv) {ln : Int} (hln : x.p.ln = ln) {sf gf : Nat} {SQ GQ : Nat → World → Array Value → Prop} {NP : Nat → World → Value → Prop} (cS : Cap SQ) (cG : Cap GQ) (cN : ∀ {B : Nat} {w u : World} {n : Value}, NP B w n → Below w.heap.size w u → NP B u n) (cT : ∀ {B : Nat} {w u : World} {n : Value} {g gl : Nat}, NP B w n → Touch g gl w u → g < B → gl < B → NP B u n) (HR : RG gv ln sf SQ gf GQ NP) (hsf : ∀ args w, (callFunc sf args).run Tryz.prog w = .ok (.enter sf args) w)
  {r : Rs} (HS : RowKit.Hid (∀ (P : Nat → Prop) B1 w1 s1 sc, (∀ b, w1.heap.size ≤ b → P b) → (∀ b, P b → b ≠ g ∧ b ≠ gl) → aC B w1 g c a gl cap L → aM P w1 s1 x → s1.rd.cap = s1.rd.len → SQ B1 w1 sc → Calls Tryz.prog sf (#[.pointer (some ⟨g, 0, none⟩), .int .i64 wk, wv s1] ++ sc) w1 (GSP P B g gl cap c r w1))) (hw : r.way = 1) (hgf : ∀ args w, (callFunc gf args).run Tryz.prog w = .ok (.enter gf args) w) {y : St} (HG : RowKit.Hid (∀ P B1 w1 s1 gc, (∀ b, w1.heap.size ≤ b → P b) → aM P w1 s1 r.x → GQ B1 w1 gc → Calls Tryz.prog gf (#[cv c, wv s1] ++ gc) w1 (fun e w' => ∃ s', e = .returned (wv s') ∧ aM P w' s' y ∧ Below w1.heap.size w1 w'))) :
  Calls Tryz.prog 55 #[.pointer (some ⟨g, 0, none⟩), .int .i64 wk, wv s] w (WS B g gl cap c r.a r.L y true w) := by
 have T0 := Two.start w s
 have mlt := M.lt
 have cR : ∀ {B x : Nat} {w : World} {n : Value}, NP B w n → x < B → ∀ r : Array Value, NP B (w.setRow x r) n := fun h hx r => cT h ((Touch.refl _ _ _).setRow r) hx hx
 go_enter Tryz.func55, Tryz.ntmps55
 go_wp2_with (first | ((with_reducible refine au rfl rfl ?_)) | (refine wpList_load_row rfl 46 _ rfl (w.heap.size) rfl _ (wc s) (0, 0) _ bT Tryz.underlying46 rfl ah ?_))
 refine (aW s x (hx.mono aj) _ (h.keep T0.below)).mono ?_
 rintro e w1 ⟨s1, rfl, A1, hb1⟩
 have T1 := T0.keep hb1
 have b1 := T1.lt
 have T2 := T1.bO s1
 have hsz : ((w.alloc (.cells (wc s) 46)).alloc (.cells (wc wz) 46)).heap.size = w.heap.size + 2 := aF
 rw [hsz] at A1 hb1
 have A2 := A1.dL.setRow (g := w.heap.size) aj (wc s1)
 have HCP := Lib.hid A1.rd.1
 have M2 := M.keep T2.below
 obtain ⟨w2, hw2⟩ : ∃ u, u = w1.setRow w.heap.size (wc s1) := ⟨_, rfl⟩
 rw [← hw2] at M2 A2 T2
 have hs2 : w.heap.size + 2 ≤ w2.heap.size := qa57
 have mlt2 := M2.lt
 have X2 := T2.X
 have q32 : (wc s1)[32]? = some (.bool gv) := by rw [show (wc s1)[32]? = some (.bool s1.p.gv) from rfl, A2.p, hgv]
 have q0 : (wc s1)[0]? = some (.int .i64 ln) := by rw [show (wc s1)[0]? = some (.int .i64 s1.p.ln) from rfl, A2.p, hln]
 clear A1 hb1 T0 hgv hln
 go_wp2_with (first | (refine wpList_store_row rfl 46 _ _ rfl (w.heap.size) (wc s1) rfl rfl _ _ dG ah ah ah ?_; rw [← hw2]; clear hw2 T1))
 have HT2 := Lib.hid T2
 have HA2 := Lib.hid A2
 have HM2 := Lib.hid M2
 clear T2 A2 M2
 simp only [Act.put]
 go_cut [8, 9] from 14 to 22 (fun p ok wx => ∃ gr B1 sc gc n, p = .pointer (some ⟨gr, 0, none⟩) ∧ ok = .bool true ∧ Bk wx gr #[.func (.func sf) #[] sc, .func (.func gf) #[] gc, n] 144 ∧ w2.heap.size ≤ gr ∧ w2.heap.size ≤ B1 ∧ SQ B1 wx sc ∧ GQ B1 wx gc ∧ NP B1 wx n ∧ Below w2.heap.size w2 wx)
 case first =>
  have hS0 : Below w2.heap.size w2 w2.drew := Below.drew (Below.refl _ _)
  refine wp_region_held_drew (S := fun w' => Below w2.heap.size w2 w') ah hS0 (fun hHeld => ?_)
  clear hS0
  generalize w2.drew = u0 at *
  have hz0 := hHeld.size
  refine jT 0 (.pointer (some ⟨w.heap.size, 32, none⟩)) rfl hHeld ?_
  try simp only [Act.put, jP]
  refine jY 1 (.bool gv) rfl (Or.inl ⟨by rfl, fun w' hSw => by have xx := (X2.keep hSw).cells; go_simp⟩) hHeld ?_
  try simp only [Act.put, jP]
  refine jT 3 (.pointer (some ⟨w.heap.size, 0, none⟩)) rfl hHeld ?_
  try simp only [Act.put, jP]
  refine jY 4 (.int .i64 ln) rfl (Or.inl ⟨by rfl, fun w' hSw => by have xx := (X2.keep hSw).cells; go_simp⟩) hHeld ?_
  try simp only [Act.put, jP]
  refine jR [2, 9] ?_
  refine jC rfl (fun K hK => ?_) (jC rfl (fun K hK => ?_) (jN))
  ·exact qa27
  ·exact qa28
 case rest =>
  revert wc
  intro wx hcut
  obtain ⟨gr, B1, sc, gc, n, rfl, rfl, ZR, hgr, hB1, hSQ, hGQ, hNP, hbx⟩ := hcut
  clear X2 q32 q0 HR
  have T3 := HT2.out.keep hbx
  have A3 := HA2.out.keep hbx
  have M3 := HM2.out.keep hbx
  have szx := hbx.size
  have mlt3 := M3.lt
  have xr := ZR.cells
  have lr := ZR.lt
  have X3 := T3.X
  have hbw := HT2.out.below.trans (hbx.mono qa66)
  have HS1 := Lib.hid (HS.out (fun b => w.heap.size + 2 ≤ b) B1 wx s1 sc (fun b hb => by omega) (fun b hb => by omega) M3 (aM.of A3 (fun b _ q => q)) HCP.out hSQ)
  clear HS hSQ hbx
  go_wp2_with (first | (refine wpList_load_row rfl 46 _ rfl (w.heap.size) rfl _ (wc s1) (0, 0) _ qa5p Tryz.underlying46 rfl ah ?_))
  refine HS1.out.mono ?_
  rintro e w3 ⟨s3, rfl, A4, M4, T4⟩
  clear xr X3 HS1
  have X4 := T4.bk T3.X aj aj
  have Z4 := T4.bk T3.Z aj aj
  have R4 := T4.bk ZR aj aj
  have G4 := cG.touch hGQ T4 aj aj
  have N4 := cT hNP T4 aj aj
  have s4 := T4.size
  have M5 : aC B (w3.setRow w.heap.size (wc s3)) g c r.a gl cap r.L := M4.apart (g' := w.heap.size) (gl' := w.heap.size) ((Touch.refl _ _ _).setRow _) aj aj aj aj
  have X5 := X4.setRow (wc s3)
  have Z5 := Z4.aJ (g' := w.heap.size) aj (wc s3)
  have R5 := R4.aJ (g' := w.heap.size) aj (wc s3)
  have G5 := cG.row G4 (x := w.heap.size) aj (wc s3)
  have N5 := cR N4 (x := w.heap.size) aj (wc s3)
  have A5 := (A4.dL (B := w.heap.size + 2) (fun b _ q => q)).setRow (g := w.heap.size) aj (wc s3)
  have TT : Touch g gl w (w3.setRow w.heap.size (wc s3)) := touchW hbw T4 (Nat.le_refl _) _
  obtain ⟨w4, hw4⟩ : ∃ u, u = w3.setRow w.heap.size (wc s3) := ⟨_, rfl⟩
  have s5 : w4.heap.size = w3.heap.size := by rw [hw4]; simp
  rw [← hw4] at M5 X5 Z5 R5 G5 N5 A5 TT
  obtain ⟨ra, rL, rx, rw', rok⟩ := r
  simp only at *
  clear ZR hGQ hNP T3 T4 Z4 R4 G4 N4 A4 M4 A3 M3
  subst hw
  go_wp2_with (first | (refine wpList_store_row rfl 46 _ _ rfl (w.heap.size) (wc s3) rfl rfl _ _ (by exact X4) ah ah ah ?_; rw [← hw4]; clear hw4 X4))
  have hS0 : Below w4.heap.size w4 w4.drew := Below.drew (Below.refl _ _)
  refine wp_region_held_drew (S := fun w' => Bk w' gr #[.func (.func sf) #[] sc, .func (.func gf) #[] gc, n] 144 ∧ Bk w' g (mc c ra ⟨some ⟨gl, 0, none⟩, rL.length, cap⟩) 99 ∧ Bk w' w.heap.size (wc s3) 46) ah ⟨R5.keep hS0, (M5.keep hS0).B, X5.keep hS0⟩ (fun hHeld => ?_)
  generalize w4.drew = z0 at *
  refine jT 0 (.pointer (some ⟨gr, 1, none⟩)) rfl hHeld ?_
  try simp only [Act.put, jP]
  refine jY 1 (.func (.func gf) #[] gc) rfl (Or.inl ⟨by rfl, fun w' hSw => by have xx := hSw.1.cells; go_simp⟩) hHeld ?_
  try simp only [Act.put, jP]
  refine jT 2 (.pointer (some ⟨g, 0, none⟩)) rfl hHeld ?_
  try simp only [Act.put, jP]
  refine jT 3 (.pointer (some ⟨g, 0, none⟩)) rfl hHeld ?_
  try simp only [Act.put, jP]
  refine jT 4 (.pointer (some ⟨g, 0, none⟩)) rfl hHeld ?_
  try simp only [Act.put, jP]
  refine jT 5 (.pointer (some ⟨g, 0, none⟩)) rfl hHeld ?_
  try simp only [Act.put, jP]
  refine jY 6 (cv c) rfl (Or.inl ⟨by rfl, fun w' hSw => by have xx := hSw.2.1.cells; go_simp⟩) hHeld ?_
  try simp only [Act.put, jP]
  refine jY 7 (.agg (wc s3)) rfl (bV rfl 46 _ rfl (w.heap.size) rfl (wc s3) 46 _ (fun w' hw' => hw'.2.2) Tryz.underlying46 rfl ah) hHeld ?_
  try simp only [Act.put, jP]
  refine jR [8] ?_
  refine jC rfl (fun K hK => ?_) (jN)
  go_simp
  refine (HG.out (fun b => w.heap.size + 2 ≤ b) B1 z0 s3 gc (fun b hb => by have := hS0.size; omega) (aM.of (A5.keep hS0) (fun b _ q => q)) (cG.keep G5 hS0)).mono ?_
  rintro e z1 ⟨s6, rfl, A6, hb⟩
  have sz6 := hS0.size
  have hS1 := hS0.trans (hb.mono hS0.size)
  refine hK.out _ _ ⟨R5.keep hS1, (M5.keep hS1).B, X5.keep hS1⟩ (fun hHeld => ?_)
  clear hK K
  try simp only [Act.put, jP]
  refine jR [9] ?_
  refine jC rfl (fun K hK => ?_) (jN)
  refine dh rfl 46 _ _ rfl (w.heap.size + 1) (wc s6) rfl rfl _ _ (by exact Z5.keep hS1) ah ah ah ?_
  have M8 := M5.keep hS1
  have TT8 := TT.trans (Touch.of_below hS1)
  have ZF := (Z5.keep hS1).setRow (wc s6)
  have A8 := ((A6.dL (fun b _ q => q)).setRow (g := w.heap.size + 1) aj (wc s6)).base (B' := w.heap.size) aj
  refine hK.out _ _ ⟨hHeld.1.aJ aj _, hHeld.2.1.aJ aj _, hHeld.2.2.aJ aj _⟩ (fun gJ => ?_)
  clear hK K hb
  have hHeld := gJ
  simp only [Act.put, List.getElem_toArray, List.getElem_cons_succ, List.getElem_cons_zero]
  refine jT 10 (.bool true) rfl hHeld ?_
  try simp only [Act.put, jP]
  refine wpAnyH_done ah ?_ _
  go_wp2
  refine bodyPost_ret (v := .tuple #[wv s6, .bool true]) ?_ rfl ⟨_, rfl, A8, M8.apart (g' := w.heap.size + 1) (gl' := w.heap.size + 1) ((Touch.refl _ _ _).setRow _) aj aj aj aj, jH TT8 aj _⟩
  exact Rw.results_cell_slot (p := 6) (q := 7) (ty := 46) Tryz.results55 _ _ (w.heap.size + 1) 46 _ (0, 0) _ rfl ZF Tryz.underlying46 rfl ah
theorem workStep2 {B : Nat} {w : World} {g gl cap : Nat} {c : Cfg} {a : Acc} {L : List Int} (M : aC B w g c a gl cap L) (wk : Int) (s : Wk) (x : St) (hx : Few 800 x) (h : aP w s x) {gv : Bool} (hgv : x.p.gv = gv) {ln : Int} (hln : x.p.ln = ln) {sf gf : Nat} {SQ GQ : Nat → World → Array Value → Prop} {NP : Nat → World → Value → Prop} (cS : Cap SQ) (cG : Cap GQ) (cN : ∀ {B : Nat} {w u : World} {n : Value}, NP B w n → Below w.heap.size w u → NP B u n) (cT : ∀ {B : Nat} {w u : World} {n : Value} {g gl : Nat}, NP B w n → Touch g gl w u → g < B → gl < B → NP B u n) (HR : RG gv ln sf SQ gf GQ NP) (hsf : ∀ args w, (callFunc sf args).run Tryz.prog w = .ok (.enter sf args) w)
  {r : Rs} (HS : RowKit.Hid (∀ (P : Nat → Prop) B1 w1 s1 sc, (∀ b, w1.heap.size ≤ b → P b) → (∀ b, P b → b ≠ g ∧ b ≠ gl) → aC B w1 g c a gl cap L → aM P w1 s1 x → s1.rd.cap = s1.rd.len → SQ B1 w1 sc → Calls Tryz.prog sf (#[.pointer (some ⟨g, 0, none⟩), .int .i64 wk, wv s1] ++ sc) w1 (GSP P B g gl cap c r w1))) (hw : r.way = 2) {y : St} {nf : Nat} (hgf : ∀ args w, (callFunc nf args).run Tryz.prog w = .ok (.enter nf args) w) {NQ : Nat → World → Array Value → Prop} (cQ : Cap NQ) (hNP : ∀ {B w n}, NP B w n → ∃ nc, n = .func (.func nf) #[] nc ∧ NQ B w nc) (HG : RowKit.Hid (∀ P B1 w1 s1 nc, (∀ b, w1.heap.size ≤ b → P b) → aM P w1 s1 r.x → NQ B1 w1 nc → Calls Tryz.prog nf (#[cv c, wv s1] ++ nc) w1 (fun e w' => ∃ s', e = .returned (wv s') ∧ aM P w' s' y ∧ Below w1.heap.size w1 w'))) :
  Calls Tryz.prog 55 #[.pointer (some ⟨g, 0, none⟩), .int .i64 wk, wv s] w (WS B g gl cap c r.a r.L y true w) := by
 have T0 := Two.start w s
 have mlt := M.lt
 have cR : ∀ {B x : Nat} {w : World} {n : Value}, NP B w n → x < B → ∀ r : Array Value, NP B (w.setRow x r) n := fun h hx r => cT h ((Touch.refl _ _ _).setRow r) hx hx
 go_enter Tryz.func55, Tryz.ntmps55
 go_wp2_with (first | ((with_reducible refine au rfl rfl ?_)) | (refine wpList_load_row rfl 46 _ rfl (w.heap.size) rfl _ (wc s) (0, 0) _ bT Tryz.underlying46 rfl ah ?_))
 refine (aW s x (hx.mono aj) _ (h.keep T0.below)).mono ?_
 rintro e w1 ⟨s1, rfl, A1, hb1⟩
 have T1 := T0.keep hb1
 have b1 := T1.lt
 have T2 := T1.bO s1
 have hsz : ((w.alloc (.cells (wc s) 46)).alloc (.cells (wc wz) 46)).heap.size = w.heap.size + 2 := aF
 rw [hsz] at A1 hb1
 have A2 := A1.dL.setRow (g := w.heap.size) aj (wc s1)
 have HCP := Lib.hid A1.rd.1
 have M2 := M.keep T2.below
 obtain ⟨w2, hw2⟩ : ∃ u, u = w1.setRow w.heap.size (wc s1) := ⟨_, rfl⟩
 rw [← hw2] at M2 A2 T2
 have hs2 : w.heap.size + 2 ≤ w2.heap.size := qa57
 have mlt2 := M2.lt
 have X2 := T2.X
 have q32 : (wc s1)[32]? = some (.bool gv) := by rw [show (wc s1)[32]? = some (.bool s1.p.gv) from rfl, A2.p, hgv]
 have q0 : (wc s1)[0]? = some (.int .i64 ln) := by rw [show (wc s1)[0]? = some (.int .i64 s1.p.ln) from rfl, A2.p, hln]
 clear A1 hb1 T0 hgv hln
 go_wp2_with (first | (refine wpList_store_row rfl 46 _ _ rfl (w.heap.size) (wc s1) rfl rfl _ _ dG ah ah ah ?_; rw [← hw2]; clear hw2 T1))
 have HT2 := Lib.hid T2
 have HA2 := Lib.hid A2
 have HM2 := Lib.hid M2
 clear T2 A2 M2
 simp only [Act.put]
 go_cut [8, 9] from 14 to 22 (fun p ok wx => ∃ gr B1 sc gc n, p = .pointer (some ⟨gr, 0, none⟩) ∧ ok = .bool true ∧ Bk wx gr #[.func (.func sf) #[] sc, .func (.func gf) #[] gc, n] 144 ∧ w2.heap.size ≤ gr ∧ w2.heap.size ≤ B1 ∧ SQ B1 wx sc ∧ GQ B1 wx gc ∧ NP B1 wx n ∧ Below w2.heap.size w2 wx)
 case first =>
  have hS0 : Below w2.heap.size w2 w2.drew := Below.drew (Below.refl _ _)
  refine wp_region_held_drew (S := fun w' => Below w2.heap.size w2 w') ah hS0 (fun hHeld => ?_)
  clear hS0
  generalize w2.drew = u0 at *
  have hz0 := hHeld.size
  refine jT 0 (.pointer (some ⟨w.heap.size, 32, none⟩)) rfl hHeld ?_
  try simp only [Act.put, jP]
  refine jY 1 (.bool gv) rfl (Or.inl ⟨by rfl, fun w' hSw => by have xx := (X2.keep hSw).cells; go_simp⟩) hHeld ?_
  try simp only [Act.put, jP]
  refine jT 3 (.pointer (some ⟨w.heap.size, 0, none⟩)) rfl hHeld ?_
  try simp only [Act.put, jP]
  refine jY 4 (.int .i64 ln) rfl (Or.inl ⟨by rfl, fun w' hSw => by have xx := (X2.keep hSw).cells; go_simp⟩) hHeld ?_
  try simp only [Act.put, jP]
  refine jR [2, 9] ?_
  refine jC rfl (fun K hK => ?_) (jC rfl (fun K hK => ?_) (jN))
  ·exact qa27
  ·exact qa28
 case rest =>
  revert wc
  intro wx hcut
  obtain ⟨gr, B1, sc, gc, n, rfl, rfl, ZR, hgr, hB1, hSQ, hGQ, hNP, hbx⟩ := hcut
  clear X2 q32 q0 HR
  have T3 := HT2.out.keep hbx
  have A3 := HA2.out.keep hbx
  have M3 := HM2.out.keep hbx
  have szx := hbx.size
  have mlt3 := M3.lt
  have xr := ZR.cells
  have lr := ZR.lt
  have X3 := T3.X
  have hbw := HT2.out.below.trans (hbx.mono qa66)
  have HS1 := Lib.hid (HS.out (fun b => w.heap.size + 2 ≤ b) B1 wx s1 sc (fun b hb => by omega) (fun b hb => by omega) M3 (aM.of A3 (fun b _ q => q)) HCP.out hSQ)
  clear HS hSQ hbx
  go_wp2_with (first | (refine wpList_load_row rfl 46 _ rfl (w.heap.size) rfl _ (wc s1) (0, 0) _ qa5p Tryz.underlying46 rfl ah ?_))
  refine HS1.out.mono ?_
  rintro e w3 ⟨s3, rfl, A4, M4, T4⟩
  clear xr X3 HS1
  have X4 := T4.bk T3.X aj aj
  have Z4 := T4.bk T3.Z aj aj
  have R4 := T4.bk ZR aj aj
  have G4 := cG.touch hGQ T4 aj aj
  have N4 := cT hNP T4 aj aj
  have s4 := T4.size
  have M5 : aC B (w3.setRow w.heap.size (wc s3)) g c r.a gl cap r.L := M4.apart (g' := w.heap.size) (gl' := w.heap.size) ((Touch.refl _ _ _).setRow _) aj aj aj aj
  have X5 := X4.setRow (wc s3)
  have Z5 := Z4.aJ (g' := w.heap.size) aj (wc s3)
  have R5 := R4.aJ (g' := w.heap.size) aj (wc s3)
  have G5 := cG.row G4 (x := w.heap.size) aj (wc s3)
  have N5 := cR N4 (x := w.heap.size) aj (wc s3)
  have A5 := (A4.dL (B := w.heap.size + 2) (fun b _ q => q)).setRow (g := w.heap.size) aj (wc s3)
  have TT : Touch g gl w (w3.setRow w.heap.size (wc s3)) := touchW hbw T4 (Nat.le_refl _) _
  obtain ⟨w4, hw4⟩ : ∃ u, u = w3.setRow w.heap.size (wc s3) := ⟨_, rfl⟩
  have s5 : w4.heap.size = w3.heap.size := by rw [hw4]; simp
  rw [← hw4] at M5 X5 Z5 R5 G5 N5 A5 TT
  obtain ⟨ra, rL, rx, rw', rok⟩ := r
  simp only at *
  clear ZR hGQ hNP T3 T4 Z4 R4 G4 N4 A4 M4 A3 M3
  subst hw
  obtain ⟨nc, rfl, NC5⟩ := hNP N5
  clear N5
  go_wp2_with (first | (refine wpList_store_row rfl 46 _ _ rfl (w.heap.size) (wc s3) rfl rfl _ _ (by exact X4) ah ah ah ?_; rw [← hw4]; clear hw4 X4))
  have hS0 : Below w4.heap.size w4 w4.drew := Below.drew (Below.refl _ _)
  refine wp_region_held_drew (S := fun w' => Bk w' gr #[.func (.func sf) #[] sc, .func (.func gf) #[] gc, .func (.func nf) #[] nc] 144 ∧ Bk w' g (mc c ra ⟨some ⟨gl, 0, none⟩, rL.length, cap⟩) 99 ∧ Bk w' w.heap.size (wc s3) 46) ah ⟨R5.keep hS0, (M5.keep hS0).B, X5.keep hS0⟩ (fun hHeld => ?_)
  generalize w4.drew = z0 at *
  refine jT 0 (.pointer (some ⟨gr, 2, none⟩)) rfl hHeld ?_
  try simp only [Act.put, jP]
  refine jY 1 (.func (.func nf) #[] nc) rfl (Or.inl ⟨by rfl, fun w' hSw => by have xx := hSw.1.cells; go_simp⟩) hHeld ?_
  try simp only [Act.put, jP]
  refine jT 2 (.pointer (some ⟨g, 0, none⟩)) rfl hHeld ?_
  try simp only [Act.put, jP]
  refine jT 3 (.pointer (some ⟨g, 0, none⟩)) rfl hHeld ?_
  try simp only [Act.put, jP]
  refine jT 4 (.pointer (some ⟨g, 0, none⟩)) rfl hHeld ?_
  try simp only [Act.put, jP]
  refine jT 5 (.pointer (some ⟨g, 0, none⟩)) rfl hHeld ?_
  try simp only [Act.put, jP]
  refine jY 6 (cv c) rfl (Or.inl ⟨by rfl, fun w' hSw => by have xx := hSw.2.1.cells; go_simp⟩) hHeld ?_
  try simp only [Act.put, jP]
  refine jY 7 (.agg (wc s3)) rfl (bV rfl 46 _ rfl (w.heap.size) rfl (wc s3) 46 _ (fun w' hw' => hw'.2.2) Tryz.underlying46 rfl ah) hHeld ?_
  try simp only [Act.put, jP]
  refine jR [8] ?_
  refine jC rfl (fun K hK => ?_) (jN)
  go_simp
  refine (HG.out (fun b => w.heap.size + 2 ≤ b) B1 z0 s3 nc (fun b hb => by have := hS0.size; omega) (aM.of (A5.keep hS0) (fun b _ q => q)) (cQ.keep NC5 hS0)).mono ?_
  rintro e z1 ⟨s6, rfl, A6, hb⟩
  have sz6 := hS0.size
  have hS1 := hS0.trans (hb.mono hS0.size)
  refine hK.out _ _ ⟨R5.keep hS1, (M5.keep hS1).B, X5.keep hS1⟩ (fun hHeld => ?_)
  clear hK K
  try simp only [Act.put, jP]
  refine jR [9] ?_
  refine jC rfl (fun K hK => ?_) (jN)
  refine dh rfl 46 _ _ rfl (w.heap.size + 1) (wc s6) rfl rfl _ _ (by exact Z5.keep hS1) ah ah ah ?_
  have M8 := M5.keep hS1
  have TT8 := TT.trans (Touch.of_below hS1)
  have ZF := (Z5.keep hS1).setRow (wc s6)
  have A8 := ((A6.dL (fun b _ q => q)).setRow (g := w.heap.size + 1) aj (wc s6)).base (B' := w.heap.size) aj
  refine hK.out _ _ ⟨hHeld.1.aJ aj _, hHeld.2.1.aJ aj _, hHeld.2.2.aJ aj _⟩ (fun gJ => ?_)
  clear hK K hb
  have hHeld := gJ
  simp only [Act.put, List.getElem_toArray, List.getElem_cons_succ, List.getElem_cons_zero]
  refine jT 10 (.bool true) rfl hHeld ?_
  try simp only [Act.put, jP]
  refine wpAnyH_done ah ?_ _
  go_wp2
  refine bodyPost_ret (v := .tuple #[wv s6, .bool true]) ?_ rfl ⟨_, rfl, A8, M8.apart (g' := w.heap.size + 1) (gl' := w.heap.size + 1) ((Touch.refl _ _ _).setRow _) aj aj aj aj, jH TT8 aj _⟩
  exact Rw.results_cell_slot (p := 6) (q := 7) (ty := 46) Tryz.results55 _ _ (w.heap.size + 1) 46 _ (0, 0) _ rfl ZF Tryz.underlying46 rfl ah
end Go.Proofs.YtaiodbcnbcdokaaGreat.Me

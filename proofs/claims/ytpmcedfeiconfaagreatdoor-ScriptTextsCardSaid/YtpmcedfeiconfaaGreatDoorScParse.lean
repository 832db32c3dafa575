/- Layer 21: script.Parse. -/
import Derived.Test.YtpmcedfeiconfaaGreatDoorScReader
import Derived.Test.YtpmcedfeiconfaaGreatDoorRows2
namespace Go.Proofs.YtpmcedfeiconfaaGreatDoor.Scw
open Go Go.RowKit Go.ChangeMaps Go.Proofs.YtpmcedfeiconfaaGreatDoor.Gro Go.Proofs.YtpmcedfeiconfaaGreatDoor.Own Go.Proofs.YtpmcedfeiconfaaGreatDoor.Mr Go.Proofs.YtpmcedfeiconfaaGreatDoor.Opn Go.Proofs.YtpmcedfeiconfaaGreatDoor.Opw Go.Proofs.YtpmcedfeiconfaaGreatDoor.Pl Go.Proofs.YtpmcedfeiconfaaGreatDoor.Scr Go.Proofs.YtpmcedfeiconfaaGreatDoor.Wd
set_option linter.unusedVariables false
set_option linter.unusedSimpArgs false
theorem good_r {st : RdS} {ls : List (List UInt8)} (g : Scr.Good st ls) : GoodR st := by
  cases g with
  | none => exact ⟨fun h => absurd rfl h, by decide, fun i => by simp, by decide⟩
  | some s b hr hk hbb =>
    rw [right_iff] at hr
    obtain ⟨h1, h2, h3, h4, h5, h6⟩ := hr
    refine ⟨fun _ => h1, by have := (ok_ww h1).2; simp only; omega, fun i => ?_, h3⟩
    simp only
    by_cases h : i < s.p.length
    · rw [List.getD_eq_getElem?_getD, List.getElem?_eq_getElem h]
      exact (h5 _ (List.getElem_mem h)).1
    · rw [List.getD_eq_getElem?_getD, List.getElem?_eq_none (by omega)]
      simp
abbrev scZ : Array Value := #[.int .i64 0, .int .i64 0, .int .i64 0, .int .i64 0, .int .i64 0, .int .i64 0, .int .i64 0, .int .u64 0, .slice none 0 0, .slice none 0 0]
theorem run_alloc_scz (w : World) : (Instr.alloc 34 true (.tuple #[])).run Tryz.prog w = .ok (.pointer (some ⟨w.heap.size, 0, none⟩)) (w.alloc (.cells scZ 34)) := by kernel_rfl
theorem wpList_alloc_scz {ops : Array Oper} {rest : List Oper} {o : Oper} {a : Act} {w : World} {Q : Exit → Act → World → Prop} (hg : o.guard = none) (ho : o.op = .alloc 34)
    (h : wpList Tryz.prog ops Q rest (a.put o.dst (.pointer (some ⟨w.heap.size, 0, none⟩))) (w.alloc (.cells scZ 34))) : wpList Tryz.prog ops Q (o :: rest) a w := by
  refine wpList_plain hg fun K hK => ?_
  unfold Oper.wp
  simp [execOp, ho, run_alloc_scz, Result.andThen]
  exact hK _ _ h
theorem build_sc (w : World) : (Instr.build 34 #[]).run Tryz.prog w = .ok (.agg scZ) w := run_build w _ _ _ (by kernel_rfl)
/-- What Parse gives. -/
def ParP (r : Option ScD × Nat) (w : World) (e : Ending) (w' : World) : Prop :=
  Below w.heap.size w w' ∧ (∀ s, r.1 = some s → ∃ ap cp ak ck, e = .returned (.tuple #[sV s.c (.slice ap s.p.length cp) (.slice ak s.k.length ck), .int .i64 0, .int .i64 0]) ∧ ReadsP w' (.slice ap s.p.length cp) s.p ∧ Reads w' .i64 (.slice ak s.k.length ck) s.k) ∧
    (r.1 = none → e = .returned (.tuple #[.agg scZ, .int .i64 r.2, .int .i64 3]))
def lenS : Value → Nat | .string s => s.size | _ => 0
theorem rd_scr {w : World} {g : Nat} {c : Cfg} {vp vk : Value} {bf : List UInt8} {m : Nat} (B : Bk w g (rdC c vp vk bf m) 71) : w.rangeAt g 0 (sC c vp vk).toList := fun j v hv => by
  rw [Nat.zero_add, B.cells j]
  rcases j with _ | _ | _ | _ | _ | _ | _ | _ | _ | _ | j <;> first | exact hv | (simp at hv)
set_option maxRecDepth 100000 in
set_option maxHeartbeats 8000000 in
theorem fParseS (t : List UInt8) (ht : t.length ≤ 100000) (w : World) (L : Lb w) : Calls Tryz.prog 16 #[strV t] w (ParP (parseS (t.length + 1) 1 t st0) w) := by
  obtain ⟨R, hR⟩ : ∃ R, R = parseS (t.length + 1) 1 t st0 := ⟨_, rfl⟩
  rw [← hR]
  have HR := Lib.hid hR
  clear hR
  have Z1 := Bk.new w scZ 34
  have b1 : Below w.heap.size w (w.alloc (.cells scZ 34)) := (Below.refl _ _).alloc (Nat.le_refl _) _
  have s1 : (w.alloc (.cells scZ 34)).heap.size = w.heap.size + 1 := by simp
  obtain ⟨w1, hw1⟩ : ∃ q, q = w.alloc (.cells scZ 34) := ⟨_, rfl⟩
  rw [← hw1] at Z1 b1 s1
  have HL1 := Lib.hid (L.keep b1)
  have HZ1 := Lib.hid Z1
  have HB1 := Lib.hid b1
  have HS1 := Lib.hid s1
  have HNW := Lib.hid (fNew w1)
  have hbs := build_sc
  clear Z1 b1 s1 L
  go_enter Tryz.func16, Tryz.ntmps16
  go_wp2_with (first | (refine wpList_alloc_scz rfl rfl ?_; rw [← hw1]; clear hw1))
  refine HNW.out.mono ?_
  rintro e w2 ⟨b, m, rfl, hb2, hbge, hrd, hru⟩
  obtain ⟨B, hB⟩ : ∃ B, B = w2.heap.size := ⟨_, rfl⟩
  rw [← hB] at hrd hru
  have HBE := Lib.hid hB
  have HX2 := Lib.hid hb2
  have HRD2 := Lib.hid hrd
  have HRU2 := Lib.hid hru
  have HGE := Lib.hid hbge
  have hbB := hrd.1
  have HZ2 := Lib.hid (HZ1.out.keep hb2)
  clear hb2 hrd hru hB hbge
  go_wp2_with fail
  go_loopw [0, 6] (fun tv nv wr => ∃ tl k f st ls, tv = strV tl ∧ nv = .int .i64 ((k : Nat) : Int) ∧ tl.length + k ≤ t.length + 1 ∧ 1 ≤ k ∧ tl.length < f ∧ RowKit.Hid (R = parseS f k tl st) ∧ RowKit.Hid (Scr.Good st ls) ∧ RowKit.Hid (RdW B b m st wr) ∧ RowKit.Hid (Rules B b m wr) ∧ RowKit.Hid (Below w1.heap.size w1 wr) ∧ RowKit.Hid (Bk wr w.heap.size scZ 34)) (fun tv _ _ => lenS tv)
  case atStart => exact ⟨t, 1, t.length + 1, st0, [], rfl, rfl, by omega, by omega, by omega, HR, Lib.hid .none, HRD2, HRU2, HX2, HZ2⟩
  case round =>
    obtain ⟨tl, k, f, st, ls, rfl, rfl, hlen, hk1, hf, HP, HG, HRD, HRU, HX, HZ⟩ := hrel
    have HCC := fCut tl 10 (by omega) wr (HL1.out.keep HX.out)
    have HLL := cut_len tl 10
    have HLT : RowKit.Hid ((Lib.cut tl [10]).2.2 = true → (Lib.cut tl [10]).2.1.length < tl.length) := Lib.hid (fun h => by
      have := congrArg List.length (cut_parts tl 10 h).1
      simp at this
      omega)
    obtain ⟨f, rfl⟩ : ∃ f', f = f' + 1 := ⟨f - 1, by omega⟩
    have HP2 := HP.out
    rw [parseS] at HP2
    obtain ⟨LN, hLN⟩ : ∃ q, q = (Lib.cut tl [10]).1 := ⟨_, rfl⟩
    obtain ⟨RS, hRS⟩ : ∃ q, q = (Lib.cut tl [10]).2.1 := ⟨_, rfl⟩
    obtain ⟨EN, hEN⟩ : ∃ q, q = (Lib.cut tl [10]).2.2 := ⟨_, rfl⟩
    rw [← hLN, ← hRS, ← hEN] at HCC HP2
    rw [← hLN, ← hRS] at HLL
    rw [← hRS, ← hEN] at HLT
    have HC1 := Lib.hid HCC
    have HLN : RowKit.Hid (LN.length ≤ 100000) := Lib.hid (by omega)
    have HP3 := Lib.hid HP2
    clear HCC HLL HP2 hLN hRS hEN HP
    go_wp2_with fail
    refine HC1.out.mono ?_
    rintro e w3 ⟨rfl, hb3⟩
    have hbe := HBE.out
    have HX3 := Lib.hid (HX.out.trans (hb3.mono HX.out.size))
    have F3 : Far B b wr w3 := Far.of hb3 HRD.out.2.1
    have HRU3 := Lib.hid (HRU.out.keep F3)
    have HZ3 := Lib.hid (HZ.out.keep hb3)
    have HRD3 : RowKit.Hid (RdW B b m st w3) := Lib.hid (by
      obtain ⟨q1, q2, vp, vk, U, q3, q4, q5⟩ := HRD.out
      exact ⟨q1, Nat.le_trans q2 hb3.size, vp, vk, U, q3.keep hb3, q4.keep hb3, OwnI.keep q5 hb3⟩)
    have z3 := HZ3.out.cells
    have lz3 := HZ3.out.lt
    clear hb3 F3 hbe
    have hneb : w.heap.size < B ∧ w.heap.size ≠ b := by
      have h1 := HS1.out
      have h2 := HGE.out
      omega
    have HNB := Lib.hid hneb
    cases EN with
    | false =>
      have HE : RowKit.Hid (R = (none, k)) := Lib.hid (by rw [HP3.out]; simp)
      clear HP3
      have Z4 := HZ3.out.setRow scZ
      go_wp2_with (first | (refine wpList_store_row rfl 34 _ _ rfl w.heap.size scZ rfl rfl _ _ (by exact HZ3.out) (by kernel_rfl) (by kernel_rfl) (by kernel_rfl) ?_))
      refine bodyPost_ret (v := .tuple #[.agg scZ, .int .i64 (k : Int), .int .i64 3]) ?_ rfl ?_
      · exact Rw.results_cell_slot2 (p := 2) (q := 3) (r := 4) (ty := 34) Tryz.results16 _ _ w.heap.size 34 _ (0, 0) _ rfl Z4 Tryz.underlying34 rfl (by kernel_rfl)
      · rw [HE.out]
        refine ⟨below_setRow (HB1.out.trans (HX3.out.mono (by have := HS1.out; omega))) (Nat.le_refl _) _, fun s h => (by cases h), fun _ => rfl⟩
    | true =>
      have HRL := Lib.hid (fRead B b m st LN HLN.out (good_r HG.out) w1 HL1.out w3 HX3.out HGE.out HRD3.out HRU3.out)
      have hrl := HLT.out rfl
      have HP4 := HP3.out
      simp only [Bool.true_eq_false, if_false] at HP4
      have HP5 := Lib.hid HP4
      clear HP3 HP4 z3 lz3
      go_wp2_with fail
      refine HRL.out.mono ?_
      rintro e w4 ⟨x, rfl, hF, hn, hs⟩
      have HX4 : RowKit.Hid (Below w1.heap.size w1 w4) := Lib.hid (HX3.out.trans (hF.below HGE.out hbB))
      have HZ4 : RowKit.Hid (Bk w4 w.heap.size scZ 34) := Lib.hid ((hF.block w.heap.size HNB.out.1 HNB.out.2).trans HZ3.out)
      have HRU4 := Lib.hid (HRU3.out.keep hF)
      have z4 := HZ4.out.cells
      have lz4 := HZ4.out.lt
      clear hF
      cases hls : lineS LN st with
      | none =>
        have hx := hn hls
        subst hx
        have HE : RowKit.Hid (R = (none, k)) := Lib.hid (by rw [HP5.out, hls])
        clear hls hn hs
        have Z5 := HZ4.out.setRow scZ
        go_wp2_with (first | (refine wpList_store_row rfl 34 _ _ rfl w.heap.size scZ rfl rfl _ _ (by exact HZ4.out) (by kernel_rfl) (by kernel_rfl) (by kernel_rfl) ?_))
        refine bodyPost_ret (v := .tuple #[.agg scZ, .int .i64 (k : Int), .int .i64 3]) ?_ rfl ?_
        · exact Rw.results_cell_slot2 (p := 2) (q := 3) (r := 4) (ty := 34) Tryz.results16 _ _ w.heap.size 34 _ (0, 0) _ rfl Z5 Tryz.underlying34 rfl (by kernel_rfl)
        · rw [HE.out]
          refine ⟨below_setRow (HB1.out.trans (HX4.out.mono (by have := HS1.out; omega))) (Nat.le_refl _) _, fun s h => (by cases h), fun _ => rfl⟩
      | some st' =>
        obtain ⟨hx, hrd⟩ := hs st' hls
        subst hx
        have HG4 := Lib.hid (step_good HG.out (step_of hls))
        have HRD4 := Lib.hid hrd
        have HP6 : RowKit.Hid (R = if RS = [] then (some st'.s, 0) else parseS f (k + 1) RS st') := Lib.hid (by rw [HP5.out, hls])
        clear hls hn hs hrd
        by_cases hrs : RS = []
        · have HE : RowKit.Hid (R = (some st'.s, 0)) := Lib.hid (by rw [HP6.out, if_pos hrs])
          subst hrs
          obtain ⟨q1, q2, vp, vk, U, q3, q4, q5⟩ := HRD4.out
          obtain ⟨ap, cp, rfl, _, _⟩ := own_slice q4.outer
          obtain ⟨ak, ck, rfl, _, _⟩ := own_slice q5
          have M4 := Lib.hid (rd_scr q3)
          have HQ4 := Lib.hid q4
          have HQ5 := Lib.hid q5
          have Z5 := HZ4.out.setRow (sC st'.s.c (.slice ap st'.s.p.length cp) (.slice ak st'.s.k.length ck))
          have y3 := q3.cells
          have ly3 := q3.lt
          clear q3 q4 q5 HP6 HP5
          go_wp2_with (first | (refine wpList_load_mid rfl 34 _ rfl b 0 rfl (sC st'.s.c (.slice ap st'.s.p.length cp) (.slice ak st'.s.k.length ck)).toList _ (by exact M4.out) Tryz.underlying34 rfl (by kernel_rfl) ?_) | (refine wpList_store_row rfl 34 _ _ rfl w.heap.size (sC st'.s.c (.slice ap st'.s.p.length cp) (.slice ak st'.s.k.length ck)) rfl rfl _ _ (by exact HZ4.out) (by kernel_rfl) (by kernel_rfl) (by kernel_rfl) ?_))
          refine bodyPost_ret (v := .tuple #[sV st'.s.c (.slice ap st'.s.p.length cp) (.slice ak st'.s.k.length ck), .int .i64 0, .int .i64 0]) ?_ rfl ?_
          · exact Rw.results_cell_slot2 (p := 2) (q := 3) (r := 4) (ty := 34) Tryz.results16 _ _ w.heap.size 34 _ (0, 0) _ rfl Z5 Tryz.underlying34 rfl (by kernel_rfl)
          · rw [HE.out]
            have hsame : ∀ g, B ≤ g → g < w4.heap.size → (w4.setRow w.heap.size (sC st'.s.c (.slice ap st'.s.p.length cp) (.slice ak st'.s.k.length ck))).heap[g]? = w4.heap[g]? := fun g hg _ => setRow_other w4 w.heap.size g _ (by have := HNB.out.1; omega)
            refine ⟨below_setRow (HB1.out.trans (HX4.out.mono (by have := HS1.out; omega))) (Nat.le_refl _) _, fun s h => ?_, fun h => by cases h⟩
            injection h with h
            subst h
            exact ⟨ap, cp, ak, ck, rfl, (HQ4.out.same hsame).reads, Reads.of_own (own_same HQ5.out (fun g hg => hsame g (World.ownsRow.lt HQ5.out g hg).1 (World.ownsRow.lt HQ5.out g hg).2)) rfl⟩
        · have HE : RowKit.Hid (R = parseS f (k + 1) RS st') := Lib.hid (by rw [HP6.out, if_neg hrs])
          have hq : (RS == []) = false := by simpa using hrs
          have hsum : IntKind.i64.wrap ((k : Int) + 1) = (k : Int) + 1 := IntWalk.i64_in _ (by omega)
          have HRS := Lib.hid hrs
          clear HP6 HP5
          go_wp2_with fail
          go_roundw
          case rel =>
            exact ⟨RS, k + 1, f, st', _, rfl, by go_num, by omega, by omega, by omega, HE, HG4, HRD4, HRU4, HX4, HZ4⟩
          case measure =>
            show RS.length < tl.length
            exact hrl
end Go.Proofs.YtpmcedfeiconfaaGreatDoor.Scw

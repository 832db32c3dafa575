/- The law OrderApart, walked. -/
import Derived.Test.YtgpdkagmacpghaaOrdApart
namespace Go.Proofs.Ytgpdkagmacpghaa.Od
open Go Go.RowKit Go.Proofs.Ytgpdkagmacpghaa.Gro Go.Proofs.Ytgpdkagmacpghaa.Own Go.Proofs.Ytgpdkagmacpghaa.Wd Go.Proofs.Ytgpdkagmacpghaa.Ap Go.Proofs.Ytgpdkagmacpghaa.Pl Go.Proofs.Ytgpdkagmacpghaa.Wo Go.Proofs.Ytgpdkagmacpghaa.Shp Go.Proofs.Ytgpdkagmacpghaa.Mr Go.ChangeMaps Go.Proofs.Ytgpdkagmacpghaa.Idl
set_option linter.unusedVariables false
set_option linter.unusedSimpArgs false
theorem refOf {es : List Shp.Ev} {xs : List (List Int)} {v : Value} {w : World} (h : EX w v es xs) (hm : es.length ≤ 100000) : Calls Try.prog 21 #[v] w (RfPost es xs w) := by
  obtain ⟨⟨ad, cap, rfl, h1, h2, h3⟩, hl, hw⟩ := h
  rcases h3 with rfl | ⟨b, off, rfl, hb, hc⟩
  · obtain rfl : xs = [] := List.eq_nil_of_length_eq_zero (by simpa using hl)
    exact refOf_nil ad cap w
  · exact refOf_pos b off cap es xs w hm hb hc
theorem rO_words {w : World} {v : Value} {es : List Shp.Ev} {xs : List (List Int)} (h : EX w v es xs) {i : Nat} (hi : i < (rO es xs es.length).length) : Reads w .u64 (rO es xs es.length)[i].2.1.v (rO es xs es.length)[i].2.2 := by
  have hm : (rO es xs es.length)[i] ∈ rO es xs es.length := List.getElem_mem hi
  unfold rO at hm
  obtain ⟨j, hj, e⟩ := List.mem_map.1 hm
  have hjl := ofF_lt hj
  rw [List.length_map] at hjl
  have hjx : j < xs.length := by have := h.len; omega
  have e' : (rO es xs es.length)[i] = gO es xs j := e.symm
  rw [e']
  unfold gO
  simp only
  rw [List.getD_eq_getElem?_getD, List.getElem?_eq_getElem hjl, List.getD_eq_getElem?_getD, List.getElem?_eq_getElem hjx]
  exact h.words j hjl hjx
set_option maxRecDepth 10000 in
set_option maxHeartbeats 16000000 in
theorem orderApart {es : List Shp.Ev} {xs : List (List Int)} (x : Sl) (W : World) (h : EX W x.v es xs) : Calls Try.prog 5 #[x.v] W fun e w' => e = .returned (.bool true) ∧ Below W.heap.size W w' := by
  have HA := Lib.hid (awake16 W)
  have HX := Lib.hid h
  obtain ⟨v, hv⟩ : ∃ v, v = x.v := ⟨_, rfl⟩
  rw [← hv] at HX ⊢
  clear h hv
  go_enter Try.func5, Try.ntmps5
  go_wp2_with fail
  refine HA.out.mono ?_
  rintro e w1 ⟨rfl, hb1⟩
  have hx1 := HX.out.keep hb1
  have HG := Lib.hid (great hx1.rd)
  have HX1 := Lib.hid hx1
  clear hx1
  go_wp2_with fail
  refine HG.out.mono ?_
  rintro e w2 ⟨g0, rfl, hg, hb2⟩
  have hb12 := hb1.trans (hb2.mono hb1.size)
  cases g0 with
  | true =>
    go_wp2
    go_ret
    exact ⟨rfl, hb12⟩
  | false =>
    obtain ⟨h60, h10⟩ := hg rfl
    have hx2 := HX1.out.keep hb2
    have hwl := few_words hx2 h10
    have HWL : RowKit.Hid (∀ l ∈ xs, l.length ≤ 1000) := Lib.hid (fun l hl => Nat.le_trans (hwl l hl) (by decide))
    have HX2 := Lib.hid hx2
    have HF := Lib.hid (orderOf hx2 (by omega) HWL.out)
    clear hx2 hg h10 hwl
    go_wp2_with fail
    refine HF.out.mono ?_
    rintro e w3 ⟨y, O, rfl, hA, hO, hb3⟩
    have hyl := hA.len
    have hOl : O.length ≤ 60 := by
      have := congrArg List.length hO
      have h2 := ofF_len (es.map evo) (rdF es) es.length
      unfold ofP at this
      rw [List.length_map, List.length_map] at this
      omega
    have hb13 := hb12.trans (hb3.mono hb12.size)
    have sz12 := hb12.size
    have HT : RowKit.Hid (∀ w4, Below w2.heap.size w2 w4 → EX w4 v es xs) := Lib.hid (fun w4 hb => HX2.out.keep hb)
    obtain ⟨n, hn⟩ : ∃ n, n = O.length := ⟨_, rfl⟩
    have hwk : n = 0 ∨ ∃ g ys, y.ad = some ⟨g, 0, none⟩ ∧ WkA w2.heap.size w3 g n ys := by
      by_cases h0 : 0 < O.length
      · rw [hn]
        exact .inr (WkA.of hA h0)
      · exact .inl (by omega)
    obtain ⟨yad, yln, ycp⟩ := y
    simp only at hyl
    obtain rfl : yln = n := by omega
    simp only [Sl.v]
    have hn60 : yln ≤ 60 := by omega
    have H60 := Lib.hid h60
    clear hyl hn hA hO hOl h60
    have hs2 : w2.heap.size ≤ w3.heap.size := hb3.size
    go_wp2
    go_loopw [4] (fun i wr => ∃ k : Nat, k ≤ yln ∧ i = .int .i64 k ∧ (yln = 0 ∨ ∃ g ys, yad = some ⟨g, 0, none⟩ ∧ WkA w2.heap.size wr g yln ys) ∧ Below w2.heap.size w2 wr) (fun i _ => yln - (intOf i).toNat)
    case atStart => exact ⟨0, Nat.zero_le _, rfl, hwk, hb3⟩
    case round =>
      clear hwk hb3 hb13
      obtain ⟨k, hk, rfl, hwk, hbw⟩ := hrel
      by_cases hlt : k < yln
      · obtain ⟨g, ys, rfl, hW⟩ : ∃ g ys, yad = some ⟨g, 0, none⟩ ∧ WkA w2.heap.size wr g yln ys := hwk.resolve_left (by omega)
        have hsum : IntKind.i64.wrap ((k : Int) + 1) = (k : Int) + 1 := IntWalk.i64_in _ (by omega)
        obtain ⟨sk, hsk⟩ : ∃ s, ys k = s := ⟨_, rfl⟩
        obtain ⟨sad, sln, scp⟩ := sk
        have hsm : sln ≤ 9223372036854775807 := by
          have := hW.lens k hlt
          rw [hsk] at this
          exact this
        clear hwk
        go_wp2
        go_loopw [5] (fun j wr2 => ∃ q : Nat, q ≤ sln ∧ j = .int .i64 q ∧ WkA w2.heap.size wr2 g yln ys ∧ Below w2.heap.size w2 wr2) (fun j _ => sln - (intOf j).toNat)
        case atStart => exact ⟨0, Nat.zero_le _, rfl, hW, hbw⟩
        case round =>
          clear hW hbw
          obtain ⟨q, hq, rfl, hW, hbw⟩ := hrel
          obtain ⟨hBg, cur, hbk, hrows⟩ := hW.row
          obtain ⟨h9, tv, h7⟩ := hrows k hlt
          rw [hsk] at h9
          have c9 : wr.cell? ⟨g, k * 10 + 9, none⟩ = some (.slice sad sln scp) := (hbk.cells _).trans h9
          have c7 : wr.cell? ⟨g, k * 10 + 7, none⟩ = some (.int .u64 tv) := (hbk.cells _).trans h7
          have z7 : wr.frozen? ⟨g, k * 10 + 7, none⟩ = false := hbk.frozen _
          have lg := hbk.lt
          have HW := Lib.hid hW
          have HBW := Lib.hid hbw
          clear h9 h7 hrows hbk hW hbw
          by_cases hql : q < sln
          · have hqs : IntKind.i64.wrap ((q : Int) + 1) = (q : Int) + 1 := IntWalk.i64_in _ (by omega)
            obtain ⟨bw, cw, hsa, hBw, hbkw, hxw⟩ : ∃ b cur, (ys k).ad = some ⟨b, 0, none⟩ ∧ w2.heap.size ≤ b ∧ Bk wr b cur 22 ∧ ∀ q, q < (ys k).len → ∃ x, cur[q]? = some (.int .u64 x) := (HW.out.words k hlt).resolve_left (by rw [hsk]; simp only; omega)
            rw [hsk] at hsa hxw
            simp only at hsa hxw
            subst hsa
            obtain ⟨xv, hxv⟩ := hxw q hql
            have cx : wr.cell? ⟨bw, q, none⟩ = some (.int .u64 xv) := (hbkw.cells _).trans hxv
            have zx : wr.frozen? ⟨bw, q, none⟩ = false := hbkw.frozen _
            have lb := hbkw.lt
            have HS := Lib.hid (fun u => HW.out.setW hbkw q u)
            have HSB := Lib.hid (fun u => setCell_below HBW.out (a := ⟨bw, q, none⟩) hBw (.int .u64 u))
            clear hxw hxv hbkw
            go_wp2
            go_roundw
            case rel => exact ⟨q + 1, by omega, by go_num, HS.out _, HSB.out _⟩
            case measure => simp [intOf]; omega
          · obtain rfl : q = sln := by omega
            have HS := Lib.hid (fun u => HW.out.setT k u)
            have HSB := Lib.hid (fun u => setCell_below HBW.out (a := ⟨g, k * 10 + 7, none⟩) hBg (.int .u64 u))
            go_wp2
            go_roundw
            case rel => exact ⟨k + 1, by omega, by go_num, .inr ⟨g, ys, rfl, HS.out _⟩, HSB.out _⟩
            case measure => simp [intOf]; omega
      · obtain rfl : k = yln := by omega
        have HTW := Lib.hid (HT.out wr hbw)
        have HOF := Lib.hid (orderOf (HT.out wr hbw) (by have := H60.out; omega) HWL.out)
        clear hwk
        go_wp2_with fail
        refine HOF.out.mono ?_
        rintro e w5 ⟨y5, O5, rfl, hA5, hO5, hb5⟩
        have HRF := Lib.hid (refOf (HTW.out.keep hb5) (by have := H60.out; omega))
        go_wp2_with fail
        refine HRF.out.mono ?_
        rintro e w6 ⟨y6, O6, rfl, hA6, hO6, hb6⟩
        have hA56 := hA5.keep hb6
        have hl5 := row_len hA56.row
        have hl6 := row_len hA6
        have hEX := HTW.out.keep (hb5.trans (hb6.mono hb5.size))
        have hf : O5.map fA = O6.map fA := by rw [hO5, hO6, rO_fA]
        have hlen : O5.length = O6.length := by simpa using congrArg List.length hf
        have hrd6 : ∀ i (h : i < O6.length), Reads w6 .u64 O6[i].2.1.v O6[i].2.2 := fun i hi => by
          subst hO6
          exact rO_words hEX hi
        have hw6 : Below W.heap.size W w6 := ((hb12.trans (hbw.mono hb12.size)).trans (hb5.mono (by have := hbw.size; omega))).trans (hb6.mono (by have := hbw.size; have := hb5.size; omega))
        have hlm : ∀ o ∈ O5, o.2.2.length ≤ 1000 := fun o ho => by
          have hm : fA o ∈ ofP es xs es.length := hO5 ▸ List.mem_map.2 ⟨o, ho, rfl⟩
          unfold ofP at hm
          obtain ⟨j, hj, e⟩ := List.mem_map.1 hm
          have e2 : o.2.2 = xs.getD j [] := (congrArg Prod.snd e).symm
          rw [e2]
          by_cases hjx : j < xs.length
          · rw [List.getD_eq_getElem?_getD, List.getElem?_eq_getElem hjx]
            exact HWL.out _ (List.getElem_mem hjx)
          · rw [List.getD_eq_getElem?_getD, List.getElem?_eq_none (by omega)]
            simp
        obtain ⟨a5, n5, c5⟩ := y5
        obtain ⟨a6, n6, c6⟩ := y6
        simp only at hl5 hl6
        obtain ⟨m, hm⟩ : ∃ m, m = O5.length := ⟨_, rfl⟩
        have hm60 : m ≤ 60 := by
          have h1 := congrArg List.length hO5
          have h2 := ofF_len (es.map evo) (rdF es) es.length
          have h3 := H60.out
          unfold ofP at h1
          rw [List.length_map, List.length_map] at h1
          omega
        obtain rfl : n5 = m := hl5.trans hm.symm
        obtain rfl : n6 = n5 := (hl6.trans hlen.symm).trans hm.symm
        have HM := Lib.hid hm
        have HL := Lib.hid hlen
        have HFA := Lib.hid hf
        have HR6 := Lib.hid hrd6
        have H5 := Lib.hid hA56
        have H6 := Lib.hid hA6
        have HLM := Lib.hid hlm
        have tn : ((n6 : Int) != (n6 : Int)) = false := by simp
        clear hl5 hl6 hm hlen hf hrd6 hA56 hA6 hlm hEX hO5 hO6 hA5 hb5 hb6
        simp only [Sl.v]
        go_wp2
        go_loopw [8] (fun i wr => ∃ k : Nat, k ≤ n6 ∧ i = .int .i64 k ∧ Below w6.heap.size w6 wr) (fun i _ => n6 - (intOf i).toNat)
        case atStart => exact ⟨0, Nat.zero_le _, rfl, Below.refl _ _⟩
        case round =>
          obtain ⟨k, hk, rfl, hbr⟩ := hrel
          by_cases hkn : k < n6
          · have hks : IntKind.i64.wrap ((k : Int) + 1) = (k : Int) + 1 := IntWalk.i64_in _ (by omega)
            have hk5 : k < O5.length := by have := HM.out; omega
            have hk6 : k < O6.length := by have := HL.out; omega
            obtain ⟨g5, ha5, -, -, hg5, hr5⟩ := row_at H5.out.row hk5
            obtain ⟨g6, ha6, -, -, hg6, hr6⟩ := row_at H6.out hk6
            have hfe : fA O5[k] = fA O6[k] := by
              have := congrArg (fun l : List (Shp.Ev × List Int) => l[k]?) HFA.out
              simpa [List.getElem?_eq_getElem hk5, List.getElem?_eq_getElem hk6] using this
            have q5 := (H5.out.own O5[k] (List.getElem_mem hk5)).reads
            have q6 := HR6.out k hk6
            have q7 := HLM.out _ (List.getElem_mem hk5)
            obtain ⟨o5, ho5⟩ : ∃ o, o = O5[k] := ⟨_, rfl⟩
            obtain ⟨o6, ho6⟩ : ∃ o, o = O6[k] := ⟨_, rfl⟩
            rw [← ho5] at hr5 hfe q5 q7
            rw [← ho6] at hr6 hfe q6
            obtain ⟨s, x5, l⟩ := o5
            obtain ⟨s6, x6, l6⟩ := o6
            simp only [fA, Prod.mk.injEq] at hfe
            obtain ⟨rfl, rfl⟩ := hfe
            simp only at hr5 hr6 q5 q6 q7
            simp only at ha5 ha6
            subst ha5
            subst ha6
            have r5 : ∀ w', Below wr.heap.size wr w' → w'.rangeAt g5 (k * 10) (ac s x5).toList := fun w' h' j v hv => ((hbr.trans (h'.mono hbr.size)).cell (p := ⟨g5, _, none⟩) hg5).trans (hr5 j v hv)
            have r6 : ∀ w', Below wr.heap.size wr w' → w'.rangeAt g6 (k * 10) (ac s x6).toList := fun w' h' j v hv => ((hbr.trans (h'.mono hbr.size)).cell (p := ⟨g6, _, none⟩) hg6).trans (hr6 j v hv)
            have HS : RowKit.Hid (∀ n : Gr wr, Calls Try.prog 22 #[.agg (ac s x5), .agg (ac s x6)] n.1 fun en w' => en = .returned (.bool true) ∧ Below n.1.heap.size n.1 w') := Lib.hid (fun n => refSameA s x5 x6 l n.1 q7 (q5.keep (hbr.trans (n.2.mono hbr.size))) (q6.keep (hbr.trans (n.2.mono hbr.size))))
            clear ho5 ho6 hr5 hr6 q5 q6 q7
            go_wp2
            refine wp_region_grown (by kernel_rfl) (by kernel_rfl) ?_
            have hg' := @gcell
            repeat (first | (refine wpQuiet_load_mid rfl 57 _ rfl g5 (k * 10) rfl (ac s x5).toList _ (by rintro _ ⟨m, rfl⟩; exact r5 m.1 m.2) Try.underlying57 rfl (by kernel_rfl) ?_; simp only [Act.put, List.setIfInBounds_toArray, List.set_cons_succ, List.set_cons_zero]) | (refine wpQuiet_load_mid rfl 57 _ rfl g6 (k * 10) rfl (ac s x6).toList _ (by rintro _ ⟨m, rfl⟩; exact r6 m.1 m.2) Try.underlying57 rfl (by kernel_rfl) ?_; simp only [Act.put, List.setIfInBounds_toArray, List.set_cons_succ, List.set_cons_zero]) | go_big_quiet_step (exact grown_of (HS.out _)))
            refine wpQuiet_nil ?_
            rintro w7 ⟨⟨_, hb7⟩, rfl⟩
            clear hg'
            go_wp2
            go_roundw
            case rel => exact ⟨k + 1, by omega, by go_num, hbr.trans (hb7.mono hbr.size)⟩
            case measure => simp [intOf]; omega
          · obtain rfl : k = n6 := by omega
            go_wp2
            go_ret
            exact ⟨rfl, hw6.trans (hbr.mono hw6.size)⟩
end Go.Proofs.Ytgpdkagmacpghaa.Od

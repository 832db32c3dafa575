/- order.Keeps for every input (made by genord4.py). -/
import Derived.Test.YtgpdkagmacpghaaOrdPlaces
import Derived.Test.YtgpdkagmacpghaaWorks
namespace Go.Proofs.Ytgpdkagmacpghaa.Od
open Go Go.RowKit Go.Proofs.Ytgpdkagmacpghaa.Gro Go.Proofs.Ytgpdkagmacpghaa.Own Go.Proofs.Ytgpdkagmacpghaa.Wd Go.Proofs.Ytgpdkagmacpghaa.Ap Go.Proofs.Ytgpdkagmacpghaa.Pl Go.Proofs.Ytgpdkagmacpghaa.Wo Go.Proofs.Ytgpdkagmacpghaa.Shp Go.Proofs.Ytgpdkagmacpghaa.Mr Go.ChangeMaps
set_option linter.unusedVariables false
set_option linter.unusedSimpArgs false
theorem zero_bool (w : World) : (zeroValue 4).run Try.prog w = .ok (.bool false) w := by kernel_rfl
def SaysB (L : List ((Int × Int) × Value)) (f : Int × Int → Bool) : Prop := ∀ o, (Mr.look o L).getD (.bool false) = .bool (f o)
theorem SaysB.nil : SaysB [] (fun _ => false) := fun _ => rfl
theorem SaysB.upd {L : List ((Int × Int) × Value)} {f : Int × Int → Bool} (h : SaysB L f) (o : Int × Int) : SaysB (Mr.upd o (.bool true) L) (fun x => if x = o then true else f x) := fun x => by
  rw [look_upd]
  by_cases q : x = o
  · rw [if_pos q]
    simp [q]
  · rw [if_neg q, h x]
    simp [q]
theorem keeps_drop (pt : Int × Int → Option Nat) (es : List Shp.Ev) (k : Nat) (h : k < es.length) (called : Int × Int → Bool) (last : Nat) : keepsF pt ((es.drop k).map evo) called last = match pt (es[k].wo, es[k].n) with
    | none => keepsF pt ((es.drop (k + 1)).map evo) called last
    | some p => if es[k].kd = 1 ∧ called (es[k].wo, es[k].n) = false then (if p < last then false else keepsF pt ((es.drop (k + 1)).map evo) (fun x => if x = (es[k].wo, es[k].n) then true else called x) last)
      else if es[k].kd = 4 then keepsF pt ((es.drop (k + 1)).map evo) called (max last p) else keepsF pt ((es.drop (k + 1)).map evo) called last := by
  rw [List.drop_eq_getElem_cons h, List.map_cons, keepsF]
  rfl
def ptF (s : List Ev) (o : Int × Int) : Option Nat := fpF s o 0
theorem keeps_nil (ad : Option Addr) (cap : Nat) (w : World) : Calls Try.prog 19 #[.slice ad 0 cap] w fun e w' => e = .returned (.bool true) ∧ Below w.heap.size w w' := by
  have hmm := @run_makeMap Try.prog
  have HP := Lib.hid (places_nil ad cap 3 w)
  go_enter Try.func19, Try.ntmps19
  go_wp2_with fail
  refine HP.out.mono ?_
  rintro e w0 ⟨rfl, hp, hb0, hl0⟩
  go_wp2
  refine wp_loop_rounds 1 ?_
  rw [rounds_succ]
  go_wp2
  go_ret
  exact ⟨rfl, hb0.alloc hb0.size _⟩
set_option maxRecDepth 10000 in
set_option maxHeartbeats 8000000 in
theorem keeps_pos (b off cap : Nat) (es : List Shp.Ev) (w : World) (hm : es.length ≤ 1000000) (hb : b < w.heap.size) (hr : ∀ i (h : i < es.length), w.rangeAt b (off + i * 20) (ec es[i]).toList) :
    Calls Try.prog 19 #[.slice (some ⟨b, off, none⟩) es.length cap] w fun e w' => e = .returned (.bool (keepsF (ptF (es.map evo)) (es.map evo) (fun _ => false) 0)) ∧ Below w.heap.size w w' := by
  have HR := Lib.hid hr
  have HBL := Lib.hid hb
  have HOP := Lib.hid (fun e w => operationOf e w)
  have HP := Lib.hid (places_pos b off cap es 3 w hm hb hr)
  clear hr hb
  have f3 : ∀ s : Shp.Ev, (ec s)[3]? = some (.int .i64 s.kd) := fun _ => rfl
  have hmm := @run_makeMap Try.prog
  go_enter Try.func19, Try.ntmps19
  go_wp2_with fail
  refine HP.out.mono ?_
  rintro e w0 ⟨rfl, ⟨LP, hP1, hP2⟩, hb0, hl0⟩
  have HP1 := Lib.hid hP1
  have HP2 := Lib.hid hP2
  clear hP1 hP2
  go_wp2
  go_loopw [5, 15] (fun l i wr => ∃ (k last : Nat) (called : Int × Int → Bool) (LC : List ((Int × Int) × Value)), k ≤ es.length ∧ l = .int .i64 last ∧ i = .int .i64 k ∧ MapAt wr w0.heap.size pairV LC ∧ SaysB LC called ∧ keepsF (ptF (es.map evo)) (es.map evo) (fun _ => false) 0 = keepsF (ptF (es.map evo)) ((es.drop k).map evo) called last ∧ Below w0.heap.size w0 wr ∧ w0.heap.size < wr.heap.size) (fun _ i _ => es.length - (intOf i).toNat)
  case atStart => exact ⟨0, 0, fun _ => false, [], Nat.zero_le _, rfl, rfl, mapAt_new w0, SaysB.nil, rfl, (Below.refl _ _).alloc (Nat.le_refl _) _, by simp⟩
  case round =>
    obtain ⟨k, last, called, LC, hk, rfl, rfl, hM, hS, hK, hbw, hlw⟩ := hrel
    by_cases hlt : k < es.length
    · have hbr := hb0.trans (hbw.mono hb0.size)
      have hr' : wr.rangeAt b (off + k * 20) (ec es[k]).toList := fun j v hv => (hbr.cell (p := ⟨b, _, none⟩) HBL.out).trans (HR.out k hlt j v hv)
      rw [keeps_drop _ es k hlt] at hK
      obtain ⟨s, hs⟩ : ∃ s, s = es[k] := ⟨_, rfl⟩
      rw [← hs] at hr' hK
      clear hs hbr
      have Z := Bk.new wr (ec ez) 99
      have X := boxedE wr s
      have hb1 := boxedE_below wr s
      have sz := hbw.size
      have M1 := mapAt_keep hM hb1 hlw
      have hbw1 := hbw.trans (hb1.mono sz)
      obtain ⟨w1, hw1⟩ : ∃ u, u = (wr.alloc (.cells (ec ez) 99)).setRow wr.heap.size (ec s) := ⟨_, rfl⟩
      have sz1 := hb1.size
      rw [← hw1] at X M1 hbw1 sz1
      have lx := X.lt
      have hsum : IntKind.i64.wrap ((k : Int) + 1) = (k : Int) + 1 := IntWalk.i64_in _ (by omega)
      clear hb1 hbw hM
      obtain ⟨q, hq⟩ : ∃ q, q = (s.wo, s.n) := ⟨_, rfl⟩
      have ho := HOP.out s w1
      rw [← hq] at hK ho
      have HO := Lib.hid ho
      clear hq ho
      have hlk := hS q
      have HSS := Lib.hid hS
      clear hS
      go_wp2_with (first | (refine wpList_load_mid rfl 99 _ rfl b (off + k * 20) rfl (ec s).toList _ (by exact hr') Try.underlying99 rfl (by kernel_rfl) ?_) | (refine wpList_alloc_ez rfl rfl ?_) | (refine wpList_store_row rfl 99 _ _ rfl (wr.heap.size) (ec s) rfl rfl _ _ (by exact Z) (by kernel_rfl) (by kernel_rfl) (by kernel_rfl) ?_; rw [← hw1]; clear hw1 Z) | (refine wpList_load_row rfl 99 _ rfl (wr.heap.size) rfl _ (ec s) (0, 0) _ (by exact X) Try.underlying99 rfl (by kernel_rfl) ?_))
      refine HO.out.mono ?_
      rintro e w2 ⟨rfl, hb2⟩
      have hlw1 : w0.heap.size < w1.heap.size := (by omega)
      have M2 := mapAt_keep M1 hb2 hlw1
      have hbw2 := hbw1.trans (hb2.mono hbw1.size)
      have Y2 := X.keep hb2
      have sz2 := hb2.size
      have Z2 := Bk.new w2 (oc (0, 0)) 104
      have X2 := boxedO w2 q
      have hb3 := boxedO_below w2 q
      have hlw2 : w0.heap.size < w2.heap.size := (by omega)
      have M3 := mapAt_keep M2 hb3 hlw2
      have Y3 := Y2.keep hb3
      have hbw3 := hbw2.trans (hb3.mono hbw2.size)
      have sz3 := hb3.size
      obtain ⟨w3, hw3⟩ : ∃ u, u = (w2.alloc (.cells (oc (0, 0)) 104)).setRow w2.heap.size (oc q) := ⟨_, rfl⟩
      rw [← hw3] at X2 M3 hbw3 sz3 Y3
      have y3 := Y3.cells
      have ly := Y3.lt
      clear hb2 hb3 M1 M2 hbw1 hbw2 Y2
      have P3 := mapAt_keep HP1.out hbw3 hl0
      have R3 := (HP2.out q).keep hbw3
      have hsr : ∃ y : Sl, vl LP q = y.v := by
        obtain ⟨ad, cap', e1, _⟩ := R3
        exact ⟨⟨ad, _, cap'⟩, e1⟩
      obtain ⟨y, hvl⟩ := hsr
      rw [hvl] at R3
      have hyl := reads_len R3
      have hpt : ptF (es.map evo) q = (pl (es.map evo) 3 q 0).head? := fp_head _ _ _
      rw [hpt] at hK
      have hple := pl_le (es.map evo) 3 q 0
      rw [List.length_map] at hple
      obtain ⟨pp, hpp⟩ : ∃ pp, pp = pl (es.map evo) 3 q 0 := ⟨_, rfl⟩
      have hpl : ∀ p ∈ pp, p < es.length := fun p hp => by
        rw [hpp] at hp
        obtain ⟨h, _⟩ := mem_pl0.1 hp
        simpa using h
      rw [← hpp] at hK R3 hyl hple
      clear hpp hpt
      cases pp with
      | nil =>
        simp only [List.head?_nil] at hK
        have ty : ((y.len : Int) == 0) = true := by
          rw [hyl]
          rfl
        have HK := Lib.hid hK
        clear hK R3 hyl
        go_wp2_with (first | (refine wpList_alloc_oz rfl rfl ?_) | (refine wpList_store_row rfl 104 _ _ rfl (w2.heap.size) (oc q) rfl rfl _ _ (by exact Z2) (by kernel_rfl) (by kernel_rfl) (by kernel_rfl) ?_; rw [← hw3]; clear hw3 Z2) | (refine wpList_load_row_w rfl 104 _ rfl (w2.heap.size) rfl _ (oc q) (0, 0) _ (by exact X2) Try.underlying104 rfl (by kernel_rfl) ?_) | (refine wpList_look rfl _ _ rfl opKeys Try.underlying106 zero_ints w.heap.size LP rfl q rfl (by exact P3) ?_; rw [show (Mr.look q LP).getD (.slice none 0 0) = y.v from hvl]))
        go_roundw
        case rel => exact ⟨k + 1, last, called, LC, by omega, rfl, by go_num, M3, HSS.out, HK.out, hbw3, by omega⟩
        case measure => simp [intOf]; omega
      | cons p ps =>
        simp only [List.head?_cons] at hK
        have ty : ((y.len : Int) == 0) = false := by
          rw [hyl]
          simp
          omega
        obtain ⟨yb, yo, hya, hyc⟩ := reads_at R3 (i := 0) (by simp)
        have hyp : w3.cell? ⟨yb, yo, none⟩ = some (.int .i64 (p : Int)) := by simpa using hyc
        have hpv : p < es.length := hpl p List.mem_cons_self
        have hy0 : 0 < y.len := by
          rw [hyl]
          simp
        obtain ⟨yad, yln, ycp⟩ := y
        simp only at hya
        subst hya
        simp only at hyl ty hy0
        clear R3 hyl hyc hple hpl
        have hyv : vl LP q = .slice (some ⟨yb, yo, none⟩) yln ycp := hvl
        by_cases hk1 : s.kd = 1
        · have t1 : (s.kd == 1) = true := by simp [hk1]
          cases hc : called q with
          | false =>
            rw [hc] at hlk
            rw [if_pos ⟨hk1, hc⟩] at hK
            by_cases hpl : p < last
            · rw [if_pos hpl] at hK
              have tp : decide ((p : Int) < (last : Int)) = true := by simp [hpl]
              have HK := Lib.hid hK
              clear hK hk1 hc
              go_wp2_with (first | (refine wpList_alloc_oz rfl rfl ?_) | (refine wpList_store_row rfl 104 _ _ rfl (w2.heap.size) (oc q) rfl rfl _ _ (by exact Z2) (by kernel_rfl) (by kernel_rfl) (by kernel_rfl) ?_; rw [← hw3]; clear hw3 Z2) | (refine wpList_load_row_w rfl 104 _ rfl (w2.heap.size) rfl _ (oc q) (0, 0) _ (by exact X2) Try.underlying104 rfl (by kernel_rfl) ?_) | (refine wpList_look rfl _ _ rfl opKeys Try.underlying106 zero_ints w.heap.size LP rfl q rfl (by exact P3) ?_; rw [show (Mr.look q LP).getD (.slice none 0 0) = .slice (some ⟨yb, yo, none⟩) yln ycp from hyv]) | (refine wpList_look rfl _ _ rfl opKeys Try.underlying108 zero_bool w0.heap.size LC rfl q rfl (by exact M3) ?_; rw [hlk]) | (refine wpList_upd rfl _ _ _ rfl opKeys Try.underlying108 w0.heap.size LC rfl q rfl (.bool true) rfl (by exact M3) ?_; intro w4 M4 O4; have hw4 := O4.size; have hbw4 := hbw3.trans (O4.below (B := w0.heap.size) (Nat.le_refl _))))
              go_ret
              exact ⟨Wd.ret_bool HK.out.symm, hb0.trans (hbw3.mono hb0.size)⟩
            · rw [if_neg hpl] at hK
              have tp : decide ((p : Int) < (last : Int)) = false := by simp; omega
              have HK := Lib.hid hK
              clear hK hk1 hc
              go_wp2_with (first | (refine wpList_alloc_oz rfl rfl ?_) | (refine wpList_store_row rfl 104 _ _ rfl (w2.heap.size) (oc q) rfl rfl _ _ (by exact Z2) (by kernel_rfl) (by kernel_rfl) (by kernel_rfl) ?_; rw [← hw3]; clear hw3 Z2) | (refine wpList_load_row_w rfl 104 _ rfl (w2.heap.size) rfl _ (oc q) (0, 0) _ (by exact X2) Try.underlying104 rfl (by kernel_rfl) ?_) | (refine wpList_look rfl _ _ rfl opKeys Try.underlying106 zero_ints w.heap.size LP rfl q rfl (by exact P3) ?_; rw [show (Mr.look q LP).getD (.slice none 0 0) = .slice (some ⟨yb, yo, none⟩) yln ycp from hyv]) | (refine wpList_look rfl _ _ rfl opKeys Try.underlying108 zero_bool w0.heap.size LC rfl q rfl (by exact M3) ?_; rw [hlk]) | (refine wpList_upd rfl _ _ _ rfl opKeys Try.underlying108 w0.heap.size LC rfl q rfl (.bool true) rfl (by exact M3) ?_; intro w4 M4 O4; have hw4 := O4.size; have hbw4 := hbw3.trans (O4.below (B := w0.heap.size) (Nat.le_refl _))))
              go_roundw
              case rel => exact ⟨k + 1, last, _, _, by omega, rfl, by go_num, M4, HSS.out.upd q, HK.out, hbw4, by omega⟩
              case measure => simp [intOf]; omega
          | true =>
            rw [hc] at hlk
            have t4 : (s.kd == 4) = false := by simp [hk1]
            rw [if_neg (by simp [hc]), if_neg (by omega)] at hK
            have HK := Lib.hid hK
            clear hK hk1 hc
            go_wp2_with (first | (refine wpList_alloc_oz rfl rfl ?_) | (refine wpList_store_row rfl 104 _ _ rfl (w2.heap.size) (oc q) rfl rfl _ _ (by exact Z2) (by kernel_rfl) (by kernel_rfl) (by kernel_rfl) ?_; rw [← hw3]; clear hw3 Z2) | (refine wpList_load_row_w rfl 104 _ rfl (w2.heap.size) rfl _ (oc q) (0, 0) _ (by exact X2) Try.underlying104 rfl (by kernel_rfl) ?_) | (refine wpList_look rfl _ _ rfl opKeys Try.underlying106 zero_ints w.heap.size LP rfl q rfl (by exact P3) ?_; rw [show (Mr.look q LP).getD (.slice none 0 0) = .slice (some ⟨yb, yo, none⟩) yln ycp from hyv]) | (refine wpList_look rfl _ _ rfl opKeys Try.underlying108 zero_bool w0.heap.size LC rfl q rfl (by exact M3) ?_; rw [hlk]) | (refine wpList_upd rfl _ _ _ rfl opKeys Try.underlying108 w0.heap.size LC rfl q rfl (.bool true) rfl (by exact M3) ?_; intro w4 M4 O4; have hw4 := O4.size; have hbw4 := hbw3.trans (O4.below (B := w0.heap.size) (Nat.le_refl _))))
            go_roundw
            case rel => exact ⟨k + 1, last, called, LC, by omega, rfl, by go_num, M3, HSS.out, HK.out, hbw3, by omega⟩
            case measure => simp [intOf]; omega
        · have t1 : (s.kd == 1) = false := by simp [hk1]
          rw [if_neg (fun h => hk1 h.1)] at hK
          by_cases hk4 : s.kd = 4
          · have t4 : (s.kd == 4) = true := by simp [hk4]
            rw [if_pos hk4] at hK
            have HK := Lib.hid hK
            clear hK hk1 hk4
            go_wp2_with (first | (refine wpList_alloc_oz rfl rfl ?_) | (refine wpList_store_row rfl 104 _ _ rfl (w2.heap.size) (oc q) rfl rfl _ _ (by exact Z2) (by kernel_rfl) (by kernel_rfl) (by kernel_rfl) ?_; rw [← hw3]; clear hw3 Z2) | (refine wpList_load_row_w rfl 104 _ rfl (w2.heap.size) rfl _ (oc q) (0, 0) _ (by exact X2) Try.underlying104 rfl (by kernel_rfl) ?_) | (refine wpList_look rfl _ _ rfl opKeys Try.underlying106 zero_ints w.heap.size LP rfl q rfl (by exact P3) ?_; rw [show (Mr.look q LP).getD (.slice none 0 0) = .slice (some ⟨yb, yo, none⟩) yln ycp from hyv]) | (refine wpList_look rfl _ _ rfl opKeys Try.underlying108 zero_bool w0.heap.size LC rfl q rfl (by exact M3) ?_; rw [hlk]) | (refine wpList_upd rfl _ _ _ rfl opKeys Try.underlying108 w0.heap.size LC rfl q rfl (.bool true) rfl (by exact M3) ?_; intro w4 M4 O4; have hw4 := O4.size; have hbw4 := hbw3.trans (O4.below (B := w0.heap.size) (Nat.le_refl _))))
            go_roundw
            case rel => exact ⟨k + 1, max last p, called, LC, by omega, by go_num, by go_num, M3, HSS.out, HK.out, hbw3, by omega⟩
            case measure => simp [intOf]; omega
          · have t4 : (s.kd == 4) = false := by simp [hk4]
            rw [if_neg hk4] at hK
            have HK := Lib.hid hK
            clear hK hk1 hk4
            go_wp2_with (first | (refine wpList_alloc_oz rfl rfl ?_) | (refine wpList_store_row rfl 104 _ _ rfl (w2.heap.size) (oc q) rfl rfl _ _ (by exact Z2) (by kernel_rfl) (by kernel_rfl) (by kernel_rfl) ?_; rw [← hw3]; clear hw3 Z2) | (refine wpList_load_row_w rfl 104 _ rfl (w2.heap.size) rfl _ (oc q) (0, 0) _ (by exact X2) Try.underlying104 rfl (by kernel_rfl) ?_) | (refine wpList_look rfl _ _ rfl opKeys Try.underlying106 zero_ints w.heap.size LP rfl q rfl (by exact P3) ?_; rw [show (Mr.look q LP).getD (.slice none 0 0) = .slice (some ⟨yb, yo, none⟩) yln ycp from hyv]) | (refine wpList_look rfl _ _ rfl opKeys Try.underlying108 zero_bool w0.heap.size LC rfl q rfl (by exact M3) ?_; rw [hlk]) | (refine wpList_upd rfl _ _ _ rfl opKeys Try.underlying108 w0.heap.size LC rfl q rfl (.bool true) rfl (by exact M3) ?_; intro w4 M4 O4; have hw4 := O4.size; have hbw4 := hbw3.trans (O4.below (B := w0.heap.size) (Nat.le_refl _))))
            go_roundw
            case rel => exact ⟨k + 1, last, called, LC, by omega, rfl, by go_num, M3, HSS.out, HK.out, hbw3, by omega⟩
            case measure => simp [intOf]; omega
    · obtain rfl : k = es.length := by omega
      have hE : keepsF (ptF (es.map evo)) (es.map evo) (fun _ => false) 0 = true := by rw [hK, List.drop_length]; rfl
      have HE := Lib.hid hE
      clear hE hK
      go_wp2
      go_ret
      exact ⟨Wd.ret_bool HE.out.symm, hb0.trans (hbw.mono hb0.size)⟩
theorem keeps {es : List Shp.Ev} {v : Value} {w : World} (h : EReads w v es) (hm : es.length ≤ 1000000) : Calls Try.prog 19 #[v] w fun e w' => e = .returned (.bool (keepsF (ptF (es.map evo)) (es.map evo) (fun _ => false) 0)) ∧ Below w.heap.size w w' := by
  obtain ⟨ad, cap, rfl, h1, h2, h3⟩ := h
  rcases h3 with rfl | ⟨b, off, rfl, hb, hc⟩
  · exact keeps_nil ad cap w
  · exact keeps_pos b off cap es w hm hb hc
end Go.Proofs.Ytgpdkagmacpghaa.Od

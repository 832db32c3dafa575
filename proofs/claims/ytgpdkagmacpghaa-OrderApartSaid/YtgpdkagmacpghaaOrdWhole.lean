/- order.Whole for every input. -/
import Derived.Test.YtgpdkagmacpghaaOrdFn
import Derived.Test.YtgpdkagmacpghaaOrdMap
import Derived.Test.YtgpdkagmacpghaaOrdOfNum
import Derived.Test.YtgpdkagmacpghaaMapWalk
import Derived.IntWalk
import Derived.Carry
namespace Go.Proofs.Ytgpdkagmacpghaa.Od
open Go Go.RowKit Go.Proofs.Ytgpdkagmacpghaa.Gro Go.Proofs.Ytgpdkagmacpghaa.Own Go.Proofs.Ytgpdkagmacpghaa.Wd Go.Proofs.Ytgpdkagmacpghaa.Ap Go.Proofs.Ytgpdkagmacpghaa.Pl Go.Proofs.Ytgpdkagmacpghaa.Wo Go.Proofs.Ytgpdkagmacpghaa.Shp Go.Proofs.Ytgpdkagmacpghaa.Mr
set_option linter.unusedVariables false
set_option linter.unusedSimpArgs false
def ez : Shp.Ev := ⟨0, 0, 0, 0, 0, 0, 0, 0, false, 0, 0, 0, 0, nilS, 0, 0, 0, 0, 0, 0⟩
theorem run_alloc_ez (w : World) : (Instr.alloc 99 true (.tuple #[])).run Try.prog w = .ok (.pointer (some ⟨w.heap.size, 0, none⟩)) (w.alloc (.cells (ec ez) 99)) := by kernel_rfl
theorem wpList_alloc_ez {ops : Array Oper} {rest : List Oper} {o : Oper} {a : Act} {w : World} {Q : Exit → Act → World → Prop} (hg : o.guard = none) (ho : o.op = .alloc 99)
    (h : wpList Try.prog ops Q rest (a.put o.dst (.pointer (some ⟨w.heap.size, 0, none⟩))) (w.alloc (.cells (ec ez) 99))) : wpList Try.prog ops Q (o :: rest) a w := by
  refine wpList_plain hg fun K hK => ?_
  unfold Oper.wp
  simp [execOp, ho, run_alloc_ez, Result.andThen]
  exact hK _ _ h
theorem boxedE (w : World) (s : Shp.Ev) : Bk ((w.alloc (.cells (ec ez) 99)).setRow w.heap.size (ec s)) w.heap.size (ec s) 99 := (Bk.new w (ec ez) 99).setRow _
theorem boxedE_below (w : World) (s : Shp.Ev) : Below w.heap.size w ((w.alloc (.cells (ec ez) 99)).setRow w.heap.size (ec s)) := below_setRow ((Below.refl _ _).alloc (Nat.le_refl _) _) (Nat.le_refl _) _
abbrev oc (o : Int × Int) : Array Value := #[.int .i64 o.1, .int .i64 o.2]
theorem run_alloc_oz (w : World) : (Instr.alloc 104 true (.tuple #[])).run Try.prog w = .ok (.pointer (some ⟨w.heap.size, 0, none⟩)) (w.alloc (.cells (oc (0, 0)) 104)) := by kernel_rfl
theorem wpList_alloc_oz {ops : Array Oper} {rest : List Oper} {o : Oper} {a : Act} {w : World} {Q : Exit → Act → World → Prop} (hg : o.guard = none) (ho : o.op = .alloc 104)
    (h : wpList Try.prog ops Q rest (a.put o.dst (.pointer (some ⟨w.heap.size, 0, none⟩))) (w.alloc (.cells (oc (0, 0)) 104))) : wpList Try.prog ops Q (o :: rest) a w := by
  refine wpList_plain hg fun K hK => ?_
  unfold Oper.wp
  simp [execOp, ho, run_alloc_oz, Result.andThen]
  exact hK _ _ h
theorem boxedO (w : World) (o : Int × Int) : Bk ((w.alloc (.cells (oc (0, 0)) 104)).setRow w.heap.size (oc o)) w.heap.size (oc o) 104 := (Bk.new w (oc (0, 0)) 104).setRow _
theorem boxedO_below (w : World) (o : Int × Int) : Below w.heap.size w ((w.alloc (.cells (oc (0, 0)) 104)).setRow w.heap.size (oc o)) := below_setRow ((Below.refl _ _).alloc (Nat.le_refl _) _) (Nat.le_refl _) _
theorem zero_int (w : World) : (zeroValue 3).run Try.prog w = .ok (.int .i64 0) w := by kernel_rfl
theorem mapAt_keep {κ : Type} {val : κ → Value} {L : List (κ × Value)} {w w' : World} {b B : Nat} (h : MapAt w b val L) (hb : Below B w w') (hB : b < B) : MapAt w' b val L := by
  obtain ⟨es, c, h1, h2⟩ := h
  exact ⟨es, c, (hb.block b hB).trans h1, h2⟩
theorem mapAt_new {κ : Type} {val : κ → Value} (w : World) : MapAt (w.alloc (.map #[] 0)) w.heap.size val [] := ⟨#[], 0, heap_alloc_new w _, rfl⟩
theorem mapAt_lt' {κ : Type} {val : κ → Value} {L : List (κ × Value)} {w : World} {b : Nat} (h : MapAt w b val L) : b < w.heap.size := by
  obtain ⟨es, c, h1, h2⟩ := h
  exact (Array.getElem?_eq_some_iff.1 h1).1
theorem whole_drop (es : List Shp.Ev) (k : Nat) (h : k < es.length) (f : Int × Int → Int) : wholeF ((es.drop k).map evo) f = match before es[k].kd with
    | none => wholeF ((es.drop (k + 1)).map evo) f
    | some b => if f (es[k].wo, es[k].n) ≠ b then false else wholeF ((es.drop (k + 1)).map evo) (put f (es[k].wo, es[k].n) es[k].kd) := by
  rw [List.drop_eq_getElem_cons h, List.map_cons, wholeF]
  rfl
theorem whole_nil (ad : Option Addr) (cap : Nat) (w : World) : Calls Try.prog 18 #[.slice ad 0 cap] w fun e w' => e = .returned (.bool true) ∧ Below w.heap.size w w' := by
  have hmm := @run_makeMap Try.prog
  go_enter Try.func18, Try.ntmps18
  go_wp2
  refine wp_loop_rounds 1 ?_
  rw [rounds_succ]
  go_wp2
  go_ret
  exact ⟨rfl, (Below.refl _ _).alloc (Nat.le_refl _) _⟩
set_option maxRecDepth 10000 in
set_option maxHeartbeats 4000000 in
theorem whole_pos (b off cap : Nat) (es : List Shp.Ev) (w : World) (hm : es.length ≤ maxLen) (hb : b < w.heap.size) (hr : ∀ i (h : i < es.length), w.rangeAt b (off + i * 20) (ec es[i]).toList) :
    Calls Try.prog 18 #[.slice (some ⟨b, off, none⟩) es.length cap] w fun e w' => e = .returned (.bool (wholeF (es.map evo) (fun _ => 0))) ∧ Below w.heap.size w w' := by
  unfold maxLen at hm
  have HR := Lib.hid hr
  have HBL := Lib.hid hb
  have HKB := Lib.hid (fun k w => kindBefore k w)
  have HOP := Lib.hid (fun e w => operationOf e w)
  clear hr hb
  have f3 : ∀ s : Shp.Ev, (ec s)[3]? = some (.int .i64 s.kd) := fun _ => rfl
  have hmm := @run_makeMap Try.prog
  go_enter Try.func18, Try.ntmps18
  go_wp2
  go_loopw [12] (fun i wr => ∃ (k : Nat) (f : Int × Int → Int) (L : List ((Int × Int) × Value)), k ≤ es.length ∧ i = .int .i64 k ∧ MapAt wr w.heap.size pairV L ∧ Says L f ∧ wholeF (es.map evo) (fun _ => 0) = wholeF ((es.drop k).map evo) f ∧ Below w.heap.size w wr ∧ w.heap.size < wr.heap.size) (fun i _ => es.length - (intOf i).toNat)
  case atStart => exact ⟨0, fun _ => 0, [], Nat.zero_le _, rfl, mapAt_new w, Says.nil, rfl, (Below.refl _ _).alloc (Nat.le_refl _) _, by simp⟩
  case round =>
    obtain ⟨k, f, L, hk, rfl, hM, hS, hW, hbw, hlw⟩ := hrel
    by_cases hlt : k < es.length
    · have hr' : wr.rangeAt b (off + k * 20) (ec es[k]).toList := fun j v hv => (hbw.cell (p := ⟨b, _, none⟩) HBL.out).trans (HR.out k hlt j v hv)
      rw [whole_drop es k hlt f] at hW
      obtain ⟨s, hs⟩ : ∃ s, s = es[k] := ⟨_, rfl⟩
      rw [← hs] at hr' hW
      clear hs
      have Z := Bk.new wr (ec ez) 99
      have X := boxedE wr s
      have hb1 := boxedE_below wr s
      have sz := hbw.size
      have M1 := mapAt_keep hM hb1 hlw
      have hbw1 := hbw.trans (hb1.mono sz)
      obtain ⟨w1, hw1⟩ : ∃ u, u = (wr.alloc (.cells (ec ez) 99)).setRow wr.heap.size (ec s) := ⟨_, rfl⟩
      have sz1 := hb1.size
      rw [← hw1] at X M1 hbw1 sz1
      have x1 := X.cells
      have lx := X.lt
      have hsum : IntKind.i64.wrap ((k : Int) + 1) = (k : Int) + 1 := IntWalk.i64_in _ (by omega)
      clear hb1 hbw hM
      cases hB : before s.kd with
      | none =>
        rw [hB] at hW
        simp only at hW
        have HW := Lib.hid hW
        have HS := Lib.hid hS
        have kb := HKB.out s.kd w1
        rw [hB] at kb
        have HK := Lib.hid kb
        clear hW hS hB kb
        go_wp2_with (first | (refine wpList_load_mid rfl 99 _ rfl b (off + k * 20) rfl (ec s).toList _ (by exact hr') Try.underlying99 rfl (by kernel_rfl) ?_) | (refine wpList_alloc_ez rfl rfl ?_) | (refine wpList_store_row rfl 99 _ _ rfl (wr.heap.size) (ec s) rfl rfl _ _ (by exact Z) (by kernel_rfl) (by kernel_rfl) (by kernel_rfl) ?_; rw [← hw1]; clear hw1 Z))
        refine HK.out.mono ?_
        rintro e w2 ⟨rfl, rfl⟩
        go_wp2
        go_roundw
        case rel => exact ⟨k + 1, f, L, by omega, by go_num, M1, HS.out, HW.out, hbw1, by omega⟩
        case measure => simp [intOf]; omega
      | some bf =>
        rw [hB] at hW
        simp only at hW
        have kb := HKB.out s.kd w1
        rw [hB] at kb
        have HK := Lib.hid kb
        obtain ⟨q, hq⟩ : ∃ q, q = (s.wo, s.n) := ⟨_, rfl⟩
        have ho := HOP.out s w1
        rw [← hq] at hW ho
        have HO := Lib.hid ho
        have hlk := hS q
        clear hB kb hq ho
        by_cases hf : f q = bf
        · rw [if_neg (by simpa using hf)] at hW
          have hS' := hS.upd q s.kd
          have HW := Lib.hid hW
          have HS := Lib.hid hS'
          have tf : (f q != bf) = false := by simp [hf]
          clear hW hS hS' hf
          go_wp2_with (first | (refine wpList_load_mid rfl 99 _ rfl b (off + k * 20) rfl (ec s).toList _ (by exact hr') Try.underlying99 rfl (by kernel_rfl) ?_) | (refine wpList_alloc_ez rfl rfl ?_) | (refine wpList_store_row rfl 99 _ _ rfl (wr.heap.size) (ec s) rfl rfl _ _ (by exact Z) (by kernel_rfl) (by kernel_rfl) (by kernel_rfl) ?_; rw [← hw1]; clear hw1 Z))
          refine HK.out.mono ?_
          rintro e w2 ⟨rfl, rfl⟩
          go_wp2_with (refine wpList_load_row rfl 99 _ rfl (wr.heap.size) rfl _ (ec s) (0, 0) _ (by exact X) Try.underlying99 rfl (by kernel_rfl) ?_)
          refine HO.out.mono ?_
          rintro e w2 ⟨rfl, hb2⟩
          have hlw1 : w.heap.size < w1.heap.size := (by omega)
          have M2 := mapAt_keep M1 hb2 hlw1
          have hbw2 := hbw1.trans (hb2.mono hbw1.size)
          have Y2 := X.keep hb2
          have sz2 := hb2.size
          have Z2 := Bk.new w2 (oc (0, 0)) 104
          have X2 := boxedO w2 q
          have hb3 := boxedO_below w2 q
          have hlw2 : w.heap.size < w2.heap.size := (by omega)
          have M3 := mapAt_keep M2 hb3 hlw2
          have Y3 := Y2.keep hb3
          have hbw3 := hbw2.trans (hb3.mono hbw2.size)
          have sz3 := hb3.size
          obtain ⟨w3, hw3⟩ : ∃ u, u = (w2.alloc (.cells (oc (0, 0)) 104)).setRow w2.heap.size (oc q) := ⟨_, rfl⟩
          rw [← hw3] at X2 M3 hbw3 sz3 Y3
          have y3 := Y3.cells
          have ly := Y3.lt
          clear hb2 hb3 M1 M2 hbw1 hbw2 Y2 x1
          go_wp2_with (first | (refine wpList_alloc_oz rfl rfl ?_) | (refine wpList_store_row rfl 104 _ _ rfl (w2.heap.size) (oc q) rfl rfl _ _ (by exact Z2) (by kernel_rfl) (by kernel_rfl) (by kernel_rfl) ?_; rw [← hw3]; clear hw3 Z2) | (refine wpList_load_row rfl 104 _ rfl (w2.heap.size) rfl _ (oc q) (0, 0) _ (by exact X2) Try.underlying104 rfl (by kernel_rfl) ?_) | (refine wpList_look rfl _ _ rfl opKeys Try.underlying101 zero_int w.heap.size L rfl q rfl (by exact M3) ?_; rw [hlk]) | (refine wpList_upd rfl _ _ _ rfl opKeys Try.underlying101 w.heap.size L rfl q rfl (.int .i64 s.kd) rfl (by exact M3) ?_; intro w4 M4 O4; have hw4 := O4.size; have hbw4 := hbw3.trans (O4.below (B := w.heap.size) (Nat.le_refl _))))
          go_roundw
          case rel => exact ⟨k + 1, _, _, by omega, by go_num, M4, HS.out, HW.out, hbw4, by omega⟩
          case measure => simp [intOf]; omega
        · rw [if_pos (by simpa using hf)] at hW
          have HW := Lib.hid hW
          have tf : (f q != bf) = true := by simp [hf]
          clear hW hS hf
          go_wp2_with (first | (refine wpList_load_mid rfl 99 _ rfl b (off + k * 20) rfl (ec s).toList _ (by exact hr') Try.underlying99 rfl (by kernel_rfl) ?_) | (refine wpList_alloc_ez rfl rfl ?_) | (refine wpList_store_row rfl 99 _ _ rfl (wr.heap.size) (ec s) rfl rfl _ _ (by exact Z) (by kernel_rfl) (by kernel_rfl) (by kernel_rfl) ?_; rw [← hw1]; clear hw1 Z))
          refine HK.out.mono ?_
          rintro e w2 ⟨rfl, rfl⟩
          go_wp2_with (refine wpList_load_row rfl 99 _ rfl (wr.heap.size) rfl _ (ec s) (0, 0) _ (by exact X) Try.underlying99 rfl (by kernel_rfl) ?_)
          refine HO.out.mono ?_
          rintro e w2 ⟨rfl, hb2⟩
          have hlw1 : w.heap.size < w1.heap.size := (by omega)
          have M2 := mapAt_keep M1 hb2 hlw1
          have hbw2 := hbw1.trans (hb2.mono hbw1.size)
          have Y2 := X.keep hb2
          have sz2 := hb2.size
          have Z2 := Bk.new w2 (oc (0, 0)) 104
          have X2 := boxedO w2 q
          have hb3 := boxedO_below w2 q
          have hlw2 : w.heap.size < w2.heap.size := (by omega)
          have M3 := mapAt_keep M2 hb3 hlw2
          have Y3 := Y2.keep hb3
          have hbw3 := hbw2.trans (hb3.mono hbw2.size)
          have sz3 := hb3.size
          obtain ⟨w3, hw3⟩ : ∃ u, u = (w2.alloc (.cells (oc (0, 0)) 104)).setRow w2.heap.size (oc q) := ⟨_, rfl⟩
          rw [← hw3] at X2 M3 hbw3 sz3 Y3
          have y3 := Y3.cells
          have ly := Y3.lt
          clear hb2 hb3 M1 M2 hbw1 hbw2 Y2 x1
          go_wp2_with (first | (refine wpList_alloc_oz rfl rfl ?_) | (refine wpList_store_row rfl 104 _ _ rfl (w2.heap.size) (oc q) rfl rfl _ _ (by exact Z2) (by kernel_rfl) (by kernel_rfl) (by kernel_rfl) ?_; rw [← hw3]; clear hw3 Z2) | (refine wpList_load_row rfl 104 _ rfl (w2.heap.size) rfl _ (oc q) (0, 0) _ (by exact X2) Try.underlying104 rfl (by kernel_rfl) ?_) | (refine wpList_look rfl _ _ rfl opKeys Try.underlying101 zero_int w.heap.size L rfl q rfl (by exact M3) ?_; rw [hlk]))
          go_ret
          exact ⟨Wd.ret_bool HW.out.symm, hbw3⟩
    · obtain rfl : k = es.length := by omega
      have hE : wholeF (es.map evo) (fun _ => 0) = true := by rw [hW, List.drop_length]; rfl
      have HE := Lib.hid hE
      clear hE hW
      go_wp2
      go_ret
      exact ⟨Wd.ret_bool HE.out.symm, hbw⟩
theorem whole {es : List Shp.Ev} {v : Value} {w : World} (h : EReads w v es) : Calls Try.prog 18 #[v] w fun e w' => e = .returned (.bool (wholeF (es.map evo) (fun _ => 0))) ∧ Below w.heap.size w w' := by
  obtain ⟨ad, cap, rfl, h1, h2, h3⟩ := h
  rcases h3 with rfl | ⟨b, off, rfl, hb, hc⟩
  · exact whole_nil ad cap w
  · exact whole_pos b off cap es w (by omega) hb hc
end Go.Proofs.Ytgpdkagmacpghaa.Od

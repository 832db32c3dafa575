/- Layer 21: writing into a strings.Builder; script.numbersText. -/
import Derived.Test.YtpmcedfeiconfaaGreatDoorOpText
import Derived.Lib.ItoaLen
import Derived.Test.YtpmcedfeiconfaaGreatDoorWords
import Derived.Test.YtpmcedfeiconfaaGreatDoorScrs
namespace Go.Proofs.YtpmcedfeiconfaaGreatDoor.Scw
open Go Go.RowKit Go.Shelf Go.Proofs.YtpmcedfeiconfaaGreatDoor.Gro Go.Proofs.YtpmcedfeiconfaaGreatDoor.Own Go.Proofs.YtpmcedfeiconfaaGreatDoor.Opn Go.Proofs.YtpmcedfeiconfaaGreatDoor.Opw Go.Proofs.YtpmcedfeiconfaaGreatDoor.Scr
set_option linter.unusedVariables false
set_option linter.unusedSimpArgs false
theorem sizeBld : (Tryz.prog.info? 77).map (·.size) = some 2 := by kernel_rfl
theorem liesBld : liesAt Tryz.prog Tryz.prog.depth 77 (2 / Tryz.prog.cellsOf 77) 0 77 1 = true := by kernel_rfl
theorem infoByt : (Tryz.prog.info? 5).map (fun i => (i.zero, i.size, i.bytes)) = some (some (.int .u8 0), 1, 1) := by kernel_rfl
set_option maxHeartbeats 1000000 in
set_option maxRecDepth 100000 in
theorem bldUsed (b : Nat) (w : World) (h0 : w.cell? ⟨b, 0, none⟩ = some (.pointer (some ⟨b, 0, none⟩))) :
    Calls Tryz.prog 59 #[.pointer (some ⟨b, 0, none⟩)] w fun e w' => e = .returned (.tuple #[]) ∧ w' = w := by
  obtain ⟨j, hj, _⟩ := Option.map_eq_some_iff.1 sizeBld
  go_enter Tryz.func59, Tryz.ntmps59
  go_wp2
  rw [Lib.run_neq_ptr_same w _ Tryz.underlying74 hj]
  go_wp2
  go_end0
  exact ⟨rfl, rfl⟩
set_option maxHeartbeats 1000000 in
set_option maxRecDepth 100000 in
theorem bldFresh (b : Nat) (w : World) (h0 : w.cell? ⟨b, 0, none⟩ = some (.pointer none)) (hsh : w.shape? b = some (77, 2)) (hfz : w.frozen? ⟨b, 0, none⟩ = false) :
    Calls Tryz.prog 59 #[.pointer (some ⟨b, 0, none⟩)] w fun e w' => e = .returned (.tuple #[]) ∧ w' = w.setCell ⟨b, 0, none⟩ (.pointer (some ⟨b, 0, none⟩)) := by
  obtain ⟨j, hj, hjs⟩ := Option.map_eq_some_iff.1 sizeBld
  go_enter Tryz.func59, Tryz.ntmps59
  go_wp2
  rw [Lib.run_to_unsafe w ⟨b, 0, none⟩ Tryz.underlying74 Tryz.underlying116 hj (by rw [hjs]; decide) hsh (Nat.zero_lt_succ 1)]
  simp only [Result.andThen]
  rw [Oper.upon_value]
  go_wp2
  rw [run_callFunc_extern Tryz.func71 (by kernel_rfl) (by kernel_rfl) (by kernel_rfl) (e := Extern.AbiNoEscape.same) (by kernel_rfl)]
  rw [Lib.run_noEscape]
  simp only [Result.andThen]
  rw [Oper.upon_value]
  go_wp2
  rw [Lib.run_from_unsafe w ⟨b, 0, none⟩ Tryz.underlying116 Tryz.underlying74 hj hsh liesBld]
  simp only [Result.andThen]
  rw [Oper.upon_value]
  go_wp2
  go_end0
  exact ⟨rfl, rfl⟩
theorem bldCheck (B b : Nat) (bs : List Value) (w : World) (h : Lib.IsBuilder 77 5 B b bs w) :
    Calls Tryz.prog 59 #[.pointer (some ⟨b, 0, none⟩)] w fun e w' => e = .returned (.tuple #[]) ∧ (Lib.BuilderAt 77 5 B b (.pointer (some ⟨b, 0, none⟩)) bs w' ∧ Below B w w') := by
  rcases h with h | h
  · refine (bldFresh b w h.cell0 h.shape h.frozen0).mono ?_
    rintro e w' ⟨rfl, rfl⟩
    exact ⟨rfl, h.used _, (Below.refl B w).setCell (p := ⟨b, 0, none⟩) h.1 _⟩
  · refine (bldUsed b w h.cell0).mono ?_
    rintro e w' ⟨rfl, rfl⟩
    exact ⟨rfl, h, Below.refl B _⟩
set_option maxHeartbeats 2000000 in
set_option maxRecDepth 100000 in
theorem bldWrite (B b : Nat) (bs : List Value) (s : ByteArray) (w : World) (h : Lib.IsBuilder 77 5 B b bs w) (hlen : bs.length + s.size ≤ 140737488355328) (hBw : B ≤ w.heap.size) :
    Calls Tryz.prog 37 #[.pointer (some ⟨b, 0, none⟩), .string s] w fun e w' => e = .returned (.tuple #[.int .i64 s.size, .nilIface]) ∧ (Lib.BuilderAt 77 5 B b (.pointer (some ⟨b, 0, none⟩)) (bs ++ Lib.strCells s) w' ∧ Below B w w') := by
  obtain ⟨i0, hi, hz0, hz1, hz2⟩ := Go.Proofs.YtpmcedfeiconfaaGreatDoor.Opw.parts_info infoByt
  go_enter Tryz.func37, Tryz.ntmps37
  go_wp2_with fail
  refine (bldCheck B b bs _ h).mono ?_
  rintro e w1 ⟨rfl, h1, hb1⟩
  obtain ⟨hB, v, hbk, hown, hne⟩ := h1
  have c0 : w1.cell? ⟨b, 0, none⟩ = some (.pointer (some ⟨b, 0, none⟩)) := by rw [Lib.cell_of_heap hbk]; rfl
  have c1 : w1.cell? ⟨b, 1, none⟩ = some v := by rw [Lib.cell_of_heap hbk]; rfl
  go_wp2_with (at_builtin; refine Lib.wpList_append_own_string _ rfl _ _ 75 9 rfl B 5 i0 Tryz.underlying75 Tryz.underlying9 hi hz0 hz1 hz2 _ _ _ rfl hown s rfl ?c3 ?c4 ?c5 ?_)
  case c3 => unfold maxLen; omega
  case c4 => omega
  case c5 => have := hb1.size; omega
  intro v' w2 hown' hgrow _
  have hlt : b < w1.heap.size := by
    rcases Nat.lt_or_ge b w1.heap.size with h' | h'
    · exact h'
    · simp [Array.getElem?_eq_none h'] at hbk
  have hb2 : w2.heap[b]? = some (.cells #[.pointer (some ⟨b, 0, none⟩), v] 77 (0, 0)) := by
    rw [hgrow.block b hlt (fun e => hne e.symm)]
    exact hbk
  have d0 : w2.cell? ⟨b, 0, none⟩ = some (.pointer (some ⟨b, 0, none⟩)) := by rw [Lib.cell_of_heap hb2]; rfl
  have d1 : w2.cell? ⟨b, 1, none⟩ = some v := by rw [Lib.cell_of_heap hb2]; rfl
  have f1 : w2.frozen? ⟨b, 1, none⟩ = false := Lib.frozen_of_heap hb2 1
  obtain ⟨ao, n', cap, rfl⟩ : ∃ ao n' cap, v' = .slice ao n' cap := by
    rcases hown'.2 with ⟨hv, _⟩ | ⟨g, cap, cur, hv, _⟩
    · exact ⟨_, _, _, hv⟩
    · exact ⟨_, _, _, hv⟩
  go_wp2
  go_ret2
  refine ⟨rfl, ?_, ?_⟩
  · exact Lib.BuilderAt.put (T := 77) (e := 5) hB hb2 (bs' := bs ++ Lib.strCells s) (by simpa [Lib.strCells_length] using hown') (by decide)
  · exact (hb1.grown hgrow (by have := hb1.size; omega) (fun k hk => (hown.lt k hk).1)).setCell (p := ⟨b, 1, none⟩) hB _
theorem bytes_app (l m : List UInt8) : Lib.byteCells l ++ Lib.strCells ⟨m.toArray⟩ = Lib.byteCells (l ++ m) := by
  simp [Lib.byteCells, Lib.strCells]
theorem numsT_app (a b : List Int) : numsT (a ++ b) = numsT a ++ numsT b := by simp [numsT]
theorem numsT_one (k : Int) : numsT [k] = 32 :: dec k := by simp [numsT]
theorem dec_len (k : Int) (h : k ≤ 9223372036854775807) : (dec k).length ≤ 20 := by
  show (Lib.decDigits k.toNat).length ≤ 20
  have := Lib.decDigits_length k.toNat
  have h20 := Lib.nDigits_le20 k.toNat (by omega)
  omega
theorem numsT_len : ∀ (l : List Int), (∀ k ∈ l, 0 ≤ k ∧ k ≤ 9223372036854775807) → (numsT l).length ≤ l.length * 21
  | [], _ => by simp [numsT]
  | k :: l, h => by
    have h1 := dec_len k (h k (by simp)).2
    have h2 := numsT_len l (fun x hx => h x (List.mem_cons_of_mem _ hx))
    have e : numsT (k :: l) = 32 :: dec k ++ numsT l := by simp [numsT]
    rw [e]
    simp only [List.length_append, List.length_cons]
    omega
theorem numsT_take {l : List Int} {k : Nat} (h : k < l.length) : numsT (l.take (k + 1)) = numsT (l.take k) ++ (32 :: dec l[k]) := by
  rw [List.take_succ_eq_append_getElem h, numsT_app, numsT_one]
theorem bldKeep {B b : Nat} {bs : List Value} {w w' : World} (h : Lib.IsBuilder 77 5 B b bs w) (hb : Below w.heap.size w w') : Lib.IsBuilder 77 5 B b bs w' := by
  have one : ∀ p, Lib.BuilderAt 77 5 B b p bs w → Lib.BuilderAt 77 5 B b p bs w' := fun p h => by
    have hlt := h.lt
    obtain ⟨hB, v, h1, h2, h3⟩ := h
    exact ⟨hB, v, (hb.block b hlt).trans h1, owns_below h2 hb (fun g hg => (World.ownsRow.lt h2 g hg).2), h3⟩
  rcases h with h | h
  · exact Or.inl (one _ h)
  · exact Or.inr (one _ h)
theorem isBld {B b : Nat} {p : Value} {bs : List Value} {w : World} (h : Lib.BuilderAt 77 5 B b (.pointer (some ⟨b, 0, none⟩)) bs w) : Lib.IsBuilder 77 5 B b bs w := Or.inr h
set_option maxHeartbeats 4000000 in
set_option maxRecDepth 100000 in
theorem fNumsText (l : List Int) (hl : l.length ≤ 1000) (hk : ∀ k ∈ l, 0 ≤ k ∧ k ≤ 9223372036854775807) (v : Value) (w : World) (L : Lb w) (R : Wd.Reads w .i64 v l) :
    Calls Tryz.prog 19 #[v] w fun e w' => e = .returned (.string ⟨(numsT l).toArray⟩) ∧ Below w.heap.size w w' := by
  have b1 : Below w.heap.size w (w.alloc (.cells #[.pointer none, .slice none 0 0] 77)) := (Below.refl _ _).alloc (Nat.le_refl _) _
  have I1 : Lib.IsBuilder 77 5 w.heap.size w.heap.size [] (w.alloc (.cells #[.pointer none, .slice none 0 0] 77)) := Lib.fresh_isBuilder _ _ w
  have HL := Lib.hid L
  have HR := Lib.hid R
  have hsz : (w.alloc (.cells #[.pointer none, .slice none 0 0] 77)).heap.size = w.heap.size + 1 := by simp
  obtain ⟨w1, hw1⟩ : ∃ q, q = w.alloc (.cells #[.pointer none, .slice none 0 0] 77) := ⟨_, rfl⟩
  rw [← hw1] at b1 I1 hsz
  have HB := Lib.hid b1
  have HI := Lib.hid I1
  have HK := Lib.hid hk
  have HZ := Lib.hid hsz
  obtain ⟨ad, cap, rfl, hc, hm, hrd⟩ := R
  have HLEN := Lib.hid (numsT_len l hk)
  clear b1 I1 hk hrd hsz L
  go_enter Tryz.func19, Tryz.ntmps19
  go_wp2
  rw [← hw1]
  clear hw1
  go_loopw [8] (fun i wr => ∃ k : Nat, k ≤ l.length ∧ i = .int .i64 k ∧ RowKit.Hid (Lib.IsBuilder 77 5 w.heap.size w.heap.size (Lib.byteCells (numsT (l.take k))) wr) ∧ RowKit.Hid (Below w.heap.size w wr)) (fun i _ => l.length - (intOf i).toNat)
  case atStart => exact ⟨0, Nat.zero_le _, rfl, HI, HB⟩
  case round =>
    obtain ⟨k, hk, rfl, HJ, HW⟩ := hrel
    by_cases hlt : k < l.length
    · obtain ⟨_, _, he, _, _, hr⟩ := HR.out.keep HW.out
      injection he with he1 _ he2
      subst he1 he2
      rcases hr with hr | ⟨b, off, rfl, hb, hcell⟩
      · rw [hr] at hlt
        cases hlt
      have q1 := hcell k hlt
      have HT := Lib.hid (fItoa l[k] (HK.out _ (List.getElem_mem hlt)).1 (HK.out _ (List.getElem_mem hlt)).2 wr (HL.out.keep HW.out))
      have hdl := dec_len l[k] (HK.out _ (List.getElem_mem hlt)).2
      have HNT := Lib.hid (numsT_take hlt)
      obtain ⟨tx, htx⟩ : ∃ q, q = dec l[k] := ⟨_, rfl⟩
      rw [← htx] at HT HNT hdl
      have hsum : ¬ 9223372036854775807 < 1 + (tx.length : Int) := by omega
      have HNL : RowKit.Hid ((numsT (l.take k)).length ≤ 21000) := Lib.hid (by
        have := numsT_len (l.take k) (fun x hx => HK.out x (List.mem_of_mem_take hx))
        rw [List.length_take] at this
        omega)
      clear htx hcell
      go_wp2_with fail
      refine HT.out.mono ?_
      rintro e w2 ⟨rfl, hb2⟩
      have HW2 := Lib.hid (HW.out.trans (hb2.mono HW.out.size))
      have HWR := Lib.hid (bldWrite w.heap.size w.heap.size (Lib.byteCells (numsT (l.take k))) (⟨#[32]⟩ ++ ⟨tx.toArray⟩) w2 (bldKeep HJ.out hb2) (by
        have h1 := HNL.out
        rw [Lib.byteCells_length, ByteArray.size_append]
        show _ + (1 + tx.length) ≤ _
        omega) HW2.out.size)
      clear hb2 HJ
      go_wp2_with fail
      refine HWR.out.mono ?_
      rintro e w3 ⟨rfl, H3, hb3⟩
      have HW3 := Lib.hid (HW2.out.trans hb3)
      have HJ3 : RowKit.Hid (Lib.IsBuilder 77 5 w.heap.size w.heap.size (Lib.byteCells (numsT (l.take (k + 1)))) w3) := Lib.hid (by
        have e : (⟨#[32]⟩ ++ ⟨tx.toArray⟩ : ByteArray) = ⟨(32 :: tx).toArray⟩ := by
          apply ByteArray.ext
          simp
        rw [HNT.out, ← bytes_app, ← e]
        exact Or.inr H3)
      clear H3 hb3
      go_wp2_with fail
      go_roundw
      case rel => exact ⟨k + 1, by omega, by go_num, HJ3, HW3⟩
      case measure => simp [intOf]; omega
    · obtain rfl : k = l.length := by omega
      rw [List.take_length] at HJ
      have HS := Lib.hid (Tryz.Builder_String_any w.heap.size w.heap.size (numsT l) wr HJ.out HW.out.size)
      clear HJ
      go_wp2_with fail
      refine HS.out.mono ?_
      rintro e w2 ⟨rfl, hb2⟩
      go_wp2_with fail
      go_ret
      exact ⟨rfl, HW.out.trans hb2⟩
end Go.Proofs.YtpmcedfeiconfaaGreatDoor.Scw

/- FormatUint and Itoa at base 10 at this program; what is known of the library's variables (Lb); ParseUint at 64 and 63 bits. -/
import Derived.Test.YtpmcedfeiconfaaGreatDoorOpLib
import Derived.WalkSmall
namespace Go.Proofs.YtpmcedfeiconfaaGreatDoor.Opw
open Go Go.Shelf Go.RowKit Go.Sort Go.Proofs.YtpmcedfeiconfaaGreatDoor.Opn
set_option linter.unusedVariables false
set_option linter.unusedSimpArgs false
theorem gTab : Tryz.prog.globalNamed "internal/strconv.uint64pow10" = some 1 := by kernel_rfl
structure Lb (w : World) : Prop where
  tab : Lib.TabIs Tryz.prog w "internal/strconv.uint64pow10" .u64 Lib.pow10Tab
  mx : ∃ m : Int, w.cell? ⟨0, 0, none⟩ = some (.int .i64 m)
  es : ∃ ev, w.cell? ⟨4, 0, none⟩ = some ev ∧ (ev = .nilIface ∨ ∃ te pe, ev = .iface te pe)
  er : ∃ ev, w.cell? ⟨5, 0, none⟩ = some ev ∧ (ev = .nilIface ∨ ∃ te pe, ev = .iface te pe)
theorem Lb.keepB {w w' : World} {B : Nat} (h : Lb w) (hb : Below B w w') (hB : w.heap.size ≤ B) : Lb w' := by
  obtain ⟨m, hm⟩ := h.mx
  obtain ⟨e1, h1, h1'⟩ := h.es
  obtain ⟨e2, h2, h2'⟩ := h.er
  have hg : 1 < w.heap.size := by
    have := Lib.TabIs.cell h.tab gTab 0 (by decide)
    exact Lib.lt_of_cell this
  exact ⟨var?_below hb gTab (by omega) h.tab, ⟨m, (hb.cell (Nat.lt_of_lt_of_le (Lib.lt_of_cell hm) hB)).trans hm⟩, ⟨e1, (hb.cell (Nat.lt_of_lt_of_le (Lib.lt_of_cell h1) hB)).trans h1, h1'⟩, ⟨e2, (hb.cell (Nat.lt_of_lt_of_le (Lib.lt_of_cell h2) hB)).trans h2, h2'⟩⟩
theorem Lb.keep {w w' : World} (h : Lb w) (hb : Below w.heap.size w w') : Lb w' := h.keepB hb (Nat.le_refl _)
theorem holds_zero0 (w : World) (T : TypeId) (nd : Nat) (hs : nd ≤ 24) : Holds (fun (b : UInt8) => Value.int .u8 (b.toNat : Int)) (w.alloc (.cells Lib.zeros24 T)) w.heap.size 0 (Array.replicate nd (0 : UInt8)) := fun j hj => by
  have hj' : j < nd := by simpa using hj
  refine ⟨?_, World.frozen?_alloc_new _ _ _ _⟩
  rw [World.cell?_alloc_new, Lib.zeros24_at _ (by omega), getElem!_pos _ j hj]
  simp
theorem below_grow {w : World} (k : Nat) (os : Array Obj) : Below w.heap.size w (grow (w.drewN k) os) := by
  refine ⟨rfl, rfl, rfl, by simp [grow, World.drewN], fun i hi => ?_⟩
  show (w.heap ++ os)[i]? = w.heap[i]?
  rw [Array.getElem?_append_left hi]
set_option maxHeartbeats 6400000 in
set_option maxRecDepth 100000 in
theorem fUintIn (u : Nat) (hu64 : u < 18446744073709551616) (w : World) (htab : Lib.TabIs Tryz.prog w "internal/strconv.uint64pow10" .u64 Lib.pow10Tab) :
    Calls Tryz.prog 61 #[.int .u64 u, .int .i64 10] w fun e w' => e = .returned (.string ⟨(Lib.decDigits u).toArray⟩) ∧ Below w.heap.size w w' := by
  by_cases hs : u < 100
  · go_enter Tryz.func61, Tryz.ntmps61
    go_wp2_with (go_at_call 72; refine (Tryz.internal_strconv_small u hs _).mono ?_; rintro e w' ⟨rfl, rfl⟩)
    go_ret
    exact ⟨rfl, Below.refl _ _⟩
  · have hu1 : 1 ≤ u := by omega
    have hnd20 : Lib.nDigits u ≤ 20 := by have := Lib.numDigits_eq u hu1 hu64; split at this <;> omega
    have hal : Tryz.prog.arrayLen 118 = 24 := by kernel_rfl
    have hel : Tryz.prog.underlying 118 = some (.array 24 5) := Tryz.underlying118
    have cut : ∀ W, (Instr.sliceAt 118 (.pointer (some ⟨w.heap.size, 0, none⟩)) none (some (.int .i64 (Lib.nDigits u : Int))) none).run Tryz.prog W = .ok (.slice (some ⟨w.heap.size, 0, none⟩) (Lib.nDigits u) 24) W := fun W => by
      rw [run_sliceAt_array_h W 118 ⟨w.heap.size, 0, none⟩ (by simp [Program.arrayLen, Program.elem, hel]) .i64 (Lib.nDigits u : Int) (by omega) (by rw [hal]; omega)]
      go_simp
    have hH0 := holds_zero0 w 118 (Lib.nDigits u) (by omega)
    have hfmt := Tryz.internal_strconv_formatBase10 w.heap.size 0 24 u (Array.replicate (Lib.nDigits u) 0) (w.alloc (.cells Lib.zeros24 118)) hH0 (by rw [Array.size_replicate]; exact Lib.lt_pow_nDigits u) hu64 (by rw [Array.size_replicate]; omega)
    rw [Array.size_replicate] at hfmt
    have HH0 := Lib.hid hH0
    clear hH0 hal hel
    have hb24 : Lib.nDigits u ≤ 24 := by omega
    go_enter Tryz.func61, Tryz.ntmps61
    go_wp2_with (go_at_call 73; refine (Tryz.internal_strconv_numDigits u hu1 hu64 _ (Lib.tabIs_alloc htab _)).mono ?_; rintro e w' ⟨rfl, rfl⟩)
    go_at_call 74
    refine hfmt.mono ?_
    rintro e w' ⟨rfl, k, v', dk, rfl, hF⟩
    have hcv : (convert 75 9 (.slice (some ⟨w.heap.size, 0, none⟩) (Lib.nDigits u) 24)).run Tryz.prog ((putRow (fun (b : UInt8) => Value.int .u8 (b.toNat : Int)) (w.alloc (.cells Lib.zeros24 118)) w.heap.size 0 dk).drewN k) = .ok (.string ⟨(Lib.decDigits u).toArray⟩) ((putRow (fun (b : UInt8) => Value.int .u8 (b.toNat : Int)) (w.alloc (.cells Lib.zeros24 118)) w.heap.size 0 dk).drewN k) := by
      have h := run_convert_bytes_back (P := Tryz.prog) ((putRow (fun (b : UInt8) => Value.int .u8 (b.toNat : Int)) (w.alloc (.cells Lib.zeros24 118)) w.heap.size 0 dk).drewN k) 75 9 5 ⟨w.heap.size, 0, none⟩ 24 (Lib.decDigits u) Tryz.underlying75 Tryz.underlying5 Tryz.underlying9 (fun j hj => by
        rw [Lib.row_is_numeral hF j hj, Lib.add_plain, World.cell?_drewN]
        exact cell?_putRow (fun (b : UInt8) => Value.int .u8 (b.toNat : Int)) _ w.heap.size 0 _ dk HH0.out (by rw [hF.size, Array.size_replicate]) j (by rw [hF.size]; rw [Lib.decDigits_length] at hj; exact hj))
      rw [Lib.decDigits_length] at h
      exact h
    go_wp2
    go_ret
    refine ⟨rfl, ?_⟩
    rw [alloc_eq_grow]
    obtain ⟨os', _, e⟩ := putRow_grow_new (fun (b : UInt8) => Value.int .u8 (b.toNat : Int)) w #[.cells Lib.zeros24 118] w.heap.size 0 dk (Nat.le_refl _)
    rw [e]
    exact below_grow k os'
set_option maxRecDepth 100000 in
theorem fUint (u : Nat) (hu64 : u < 18446744073709551616) (w : World) (L : Lb w) :
    Calls Tryz.prog 42 #[.int .u64 u, .int .i64 10] w fun e w' => e = .returned (.string ⟨(Lib.decDigits u).toArray⟩) ∧ Below w.heap.size w w' := by
  go_enter Tryz.func42, Tryz.ntmps42
  go_wp2_with (go_at_call 61; refine (fUintIn u hu64 _ L.tab).mono ?_; rintro e w' ⟨rfl, hb⟩)
  go_ret
  exact ⟨rfl, hb⟩
theorem fItoa (i : Int) (h0 : 0 ≤ i) (h1 : i ≤ 9223372036854775807) (w : World) (L : Lb w) :
    Calls Tryz.prog 35 #[.int .i64 i] w fun e w' => e = .returned (.string ⟨(dec i).toArray⟩) ∧ Below w.heap.size w w' := by
  refine (Tryz.strconv_Itoa i (by omega) h1 w L.tab).mono fun e w' ⟨h2, k, os, h3⟩ => ⟨?_, h3 ▸ below_grow k os⟩
  obtain ⟨n, rfl⟩ : ∃ n : Nat, i = n := ⟨i.toNat, by omega⟩
  rw [h2, Lib.itoa_nonneg]
  rfl
theorem fParse63 (s : ByteArray) (hs : s.size ≤ 281474976710656) (w : World) (L : Lb w) : Calls Tryz.prog 78 #[.string s, .int .i64 10, .int .i64 63] w (PuEnd 63 s.data.toList w) := by
  obtain ⟨ev, h1, h2⟩ := L.es
  obtain ⟨er, h3, h4⟩ := L.er
  exact parse63 Tryz.laysPu14 s hs w ev er h1 h2 h3 h4
theorem fParse64 (s : ByteArray) (hs : s.size ≤ 281474976710656) (w : World) (L : Lb w) : Calls Tryz.prog 78 #[.string s, .int .i64 10, .int .i64 64] w (PuEnd 64 s.data.toList w) := by
  obtain ⟨ev, h1, h2⟩ := L.es
  obtain ⟨er, h3, h4⟩ := L.er
  rcases hp : Lib.parseUintB 64 s.data.toList with u | _ | _
  · skip
    have hu := Lib.parseUintB_le hp
    refine (Tryz.strconv_ParseUint_10_at64_ok s (by omega) u hp w).mono fun e w' ⟨he, hw⟩ => ⟨u, .nilIface, he, ?_, by omega, by omega, .inl ⟨u, by unfold rdN; rw [hp], rfl, rfl⟩⟩
    rcases hw with rfl | rfl
    · exact Below.refl _ _
    · exact Lib.bytesWorld_below _ _ _
  · exact (Any.strconv_ParseUint_10_at64_syntax Tryz.laysPu14 s hs hp ev w h1 h2).mono fun e w' ⟨N, he, _, _, hb⟩ => ⟨0, _, he, hb, by omega, by decide, .inr ⟨by unfold rdN; rw [hp], _, _, rfl⟩⟩
  · exact (Tryz.strconv_ParseUint_10_at64_range s hs hp er w h3 h4).mono fun e w' ⟨N, he, _, _, hb⟩ => ⟨18446744073709551615, _, he, hb, by omega, by decide, .inr ⟨by unfold rdN; rw [hp], _, _, rfl⟩⟩
end Go.Proofs.YtpmcedfeiconfaaGreatDoor.Opw

/- What the shelf lacks: ParseUint at 63 bits, over any program; FormatUint at base 10, at this one. -/
import Derived.Shelf.Pu.ParseUintPublic10
import Derived.Test.YtpmcedfeiconfaaGreatDoorShelf
import Derived.Test.YtpmcedfeiconfaaGreatDoorOpRef
namespace Go.Proofs.YtpmcedfeiconfaaGreatDoor.Opw
open Go Go.Shelf Go.RowKit Go.Sort Go.Proofs.YtpmcedfeiconfaaGreatDoor.Opn
set_option linter.unusedVariables false
set_option linter.unusedSimpArgs false
section
variable {P : Program} {ρ : Ren}
abbrev M63 : Nat := 9223372036854775807
set_option maxHeartbeats 32000000 in
set_option maxRecDepth 100000 in
theorem inner63 (L : LaysPu.n16 P ρ) (t : ByteArray) (hne : t.size ≠ 0) (hmax : t.size ≤ 9223372036854775806) (w : World) :
    Calls P (ρ.f 16) #[.string t, .int .i64 10, .int .i64 63] w fun e w' => e = .returned (Lib.uintTupleM (ρ.t 34) 9223372036854775807 (Lib.parseUintM 9223372036854775807 0 t.data.toList)) ∧ w' = Lib.bytesWorld w (ρ.t 5) t := by
  have q0 := L.mixed
  have q1 := L.t9; have q2 := L.a9; have q3 := L.z9; have q4 := L.v9
  have q5 := L.t3; have q6 := L.a3; have q7 := L.z3; have q8 := L.v3
  have q9 := L.t22; have q10 := L.a22; have q11 := L.z22; have q12 := L.v22
  have q13 := L.t24; have q14 := L.a24; have q15 := L.z24; have q16 := L.v24
  have q17 := L.t4; have q18 := L.a4; have q19 := L.z4; have q20 := L.v4
  have q21 := L.t34; have q22 := L.a34; have q23 := L.z34; have q24 := L.v34
  have q25 := L.t5; have q26 := L.a5; have q27 := L.z5; have q28 := L.v5
  have q29 := L.t36; have q30 := L.a36; have q31 := L.z36; have q32 := L.v36
  have q33 := L.t37; have q34 := L.a37; have q35 := L.z37; have q36 := L.v37
  have q37 := L.t0; have q38 := L.a0; have q39 := L.z0; have q40 := L.v0
  have en : ∀ args w, (callFunc (ρ.f 19) args).run P w = .ok (.enter (ρ.f 19) args) w := enters_of L.f19 (by kernel_rfl) rfl
  have full : t.toList.isEmpty = false := by
    rw [← decide_eq_emptyBytes]
    exact decide_eq_false (fun h => hne (by rw [h]; rfl))
  have conv := Lib.run_convert_string_bytes (P := P) w (ρ.t 9) (ρ.t 37) (ρ.t 5) t (u := .string) L.t9 L.t37 L.t5
  have row : ∀ j, j < t.size → (Lib.bytesWorld w (ρ.t 5) t).cell? ⟨w.heap.size, j, none⟩ = some (.int .u8 (t.data.toList.getD j 0).toNat) := fun j hj => Lib.bytesWorld_cell w (ρ.t 5) t j hj
  obtain ⟨W1, hW1⟩ : ∃ W1, W1 = Lib.bytesWorld w (ρ.t 5) t := ⟨_, rfl⟩
  rw [← hW1] at conv row ⊢
  clear hW1
  obtain ⟨bs, hbs⟩ : ∃ bs, bs = t.data.toList := ⟨_, rfl⟩
  have len : bs.length = t.size := by rw [hbs, Lib.size_eq]
  rw [← hbs] at row ⊢
  clear hbs
  have top : IntKind.u64.wrap (IntKind.u64.wrap 9223372036854775808 - 1) = 9223372036854775807 := by
    rw [IntKind.wrap_u64, IntKind.wrap_u64]
    decide
  go_enter L.f16, BodyPu.n16_ntmps ρ
  go_wp2
  go_loop [12, 13, 101] (fun vu vn vi => ∃ (k acc : Nat) (a : Int), vu = .bool false ∧ vn = .int .u64 a ∧ vi = .int .i64 k ∧ k ≤ t.size ∧ Hid (a = (acc : Int) ∧ acc ≤ 9223372036854775807 ∧ Lib.parseUintM 9223372036854775807 0 bs = Lib.parseUintM 9223372036854775807 acc (bs.drop k)))
    (fun _ _ vi => t.size - (intOf vi).toNat)
  case atStart => exact ⟨0, 0, 0, rfl, rfl, rfl, by omega, rfl, by omega, rfl⟩
  case round =>
    obtain ⟨k, acc, a, rfl, rfl, rfl, hk, hh⟩ := hrel
    obtain ⟨ha, hacc, hdec⟩ := hh.out
    clear hh
    have low : 0 ≤ a := by omega
    have high : a ≤ 9223372036854775807 := by omega
    rcases Nat.lt_or_ge k t.size with hkn | hkn
    · have hc := row k hkn
      have hdrop : bs.drop k = bs[k]'(by omega) :: bs.drop (k + 1) := List.drop_eq_getElem_cons (by omega)
      have hget : bs.getD k 0 = bs[k]'(by omega) := by simp [List.getD, List.getElem?_eq_getElem (show k < bs.length by omega)]
      rw [hdrop] at hdec
      rw [hget] at hc
      generalize bs[k]'(by omega) = c at hc hdec
      have hc256 : c.toNat < 256 := c.toNat_lt
      clear row hdrop hget
      by_cases hdig : 48 ≤ c.toNat ∧ c.toNat ≤ 57
      · obtain ⟨hd0, hd1⟩ := hdig
        by_cases hcut : 1844674407370955162 ≤ acc
        · have hF : Lib.parseUintM 9223372036854775807 acc (c :: bs.drop (k + 1)) = .range := by simp [Lib.parseUintM, hd0, hd1, hcut]
          rw [hF] at hdec
          have icut : 1844674407370955162 ≤ a := by omega
          clear hcut hacc hF ha
          go_wp2
          go_ret2
          exact ⟨rfl, rfl⟩
        · have icut : a < 1844674407370955162 := by omega
          by_cases hov : 9223372036854775807 < acc * 10 + (c.toNat - 48)
          · have hF : Lib.parseUintM 9223372036854775807 acc (c :: bs.drop (k + 1)) = .range := by simp [Lib.parseUintM, hd0, hd1, hcut, hov]
            rw [hF] at hdec
            have iov : 9223372036854775807 < a * 10 + ((c.toNat : Int) - 48) := by omega
            by_cases hwr : 18446744073709551616 ≤ a * 10 + ((c.toNat : Int) - 48)
            · have wrp : IntKind.u64.wrap (a * 10 + ((c.toNat : Int) - 48)) = a * 10 + ((c.toNat : Int) - 48) - 18446744073709551616 := by
                rw [IntKind.wrap_u64]
                omega
              clear hcut hacc hF hov ha
              go_wp2
              go_ret2
              exact ⟨rfl, rfl⟩
            · clear hcut hacc hF hov ha
              go_wp2
              go_ret2
              exact ⟨rfl, rfl⟩
          · have hF : Lib.parseUintM 9223372036854775807 acc (c :: bs.drop (k + 1)) = Lib.parseUintM 9223372036854775807 (acc * 10 + (c.toNat - 48)) (bs.drop (k + 1)) := by simp [Lib.parseUintM, hd0, hd1, hcut, hov]
            have HN : Hid (a * 10 + ((c.toNat : Int) - 48) = ((acc * 10 + (c.toNat - 48) : Nat) : Int) ∧ acc * 10 + (c.toNat - 48) ≤ 9223372036854775807 ∧ Lib.parseUintM 9223372036854775807 0 bs = Lib.parseUintM 9223372036854775807 (acc * 10 + (c.toNat - 48)) (bs.drop (k + 1))) := Lib.hid ⟨by omega, by omega, hdec.trans hF⟩
            have iov : a * 10 + ((c.toNat : Int) - 48) ≤ 9223372036854775807 := by omega
            clear hcut hacc hF hov hdec ha
            go_wp2
            refine ⟨⟨k + 1, acc * 10 + (c.toNat - 48), a * 10 + ((c.toNat : Int) - 48), rfl, (by first | rfl | (congr 1; omega)), (by first | rfl | (congr 1; omega)), by omega, HN⟩, by simp [intOf]; omega⟩
      · have hF : Lib.parseUintM 9223372036854775807 acc (c :: bs.drop (k + 1)) = Lib.parseUintB 63 [] := by simp [Lib.parseUintM, Lib.parseUintB, hdig]
        rw [hF] at hdec
        clear hacc hF ha
        have lo1 := bits_lo_u8 .or (c.toNat : Int) 32
        have hi1 := bits_hi_u8 .or (c.toNat : Int) 32
        have lo2 := bits_lo_u8 .or 95 32
        have hi2 := bits_hi_u8 .or 95 32
        go_wp2_with (go_at_fn (ρ.f 19); refine (AnyPu.internal_strconv_lower { L with } _ _).mono ?_; rintro e w' ⟨rfl, rfl⟩)
        all_goals go_ret2
        all_goals first | exact ⟨rfl, rfl⟩ | exact ⟨by rw [hdec]; rfl, rfl⟩
    · have hkk : k = t.size := by omega
      subst hkk
      have hF : Lib.parseUintM 9223372036854775807 acc (bs.drop t.size) = .ok acc := by rw [List.drop_eq_nil_of_le (by omega)]; rfl
      rw [hF] at hdec
      subst ha
      clear hacc hF low high hkn
      go_wp2
      go_ret2
      exact ⟨rfl, rfl⟩
theorem inner63At (L : LaysPu.n16 P ρ) (t : ByteArray) (hmax : t.size ≤ 9223372036854775806) (w : World) :
    Calls P (ρ.f 16) #[.string t, .int .i64 10, .int .i64 63] w fun e w' => e = .returned (Lib.uintTupleM (ρ.t 34) 9223372036854775807 (Lib.parseUintB 63 t.data.toList)) ∧ (w' = w ∨ w' = Lib.bytesWorld w (ρ.t 5) t) := by
  by_cases h0 : t.size = 0
  · obtain rfl : t = ⟨#[]⟩ := ByteArray.ext (Array.eq_empty_of_size_eq_zero h0)
    exact (AnyPu.internal_strconv_ParseUint_empty { L with } 10 63 w).mono fun e w' ⟨he, hw⟩ => ⟨he, Or.inl hw⟩
  · have hne : t.data.toList ≠ [] := fun h => h0 (by rw [Lib.size_eq, h]; rfl)
    refine (inner63 { L with } t h0 hmax w).mono fun e w' ⟨he, hw⟩ => ⟨?_, Or.inr hw⟩
    rw [he, Lib.parseUintB, if_neg hne]
/-- A number or an error that is not nil; what was there is as it was. -/
def PuEnd (B : Nat) (l : List UInt8) (w : World) (e : Ending) (w' : World) : Prop :=
  ∃ (v : Int) (er : Value), e = .returned (.tuple #[.int .u64 v, er]) ∧ Below w.heap.size w w' ∧ 0 ≤ v ∧ v ≤ (2 ^ B - 1 : Nat) ∧
    ((∃ u : Nat, rdN B l = some u ∧ v = u ∧ er = .nilIface) ∨ (rdN B l = none ∧ ∃ t p, er = .iface t p))
set_option maxHeartbeats 4000000 in
set_option maxRecDepth 100000 in
theorem parse63 (L : LaysPu.n14 P ρ) (s : ByteArray) (hlim : s.size ≤ 281474976710656) (w : World) (ev er : Value) (hv : w.cell? ⟨(ρ.g 0), 0, none⟩ = some ev) (hev : ev = .nilIface ∨ ∃ te pe, ev = .iface te pe) (hr : w.cell? ⟨(ρ.g 1), 0, none⟩ = some er) (her : er = .nilIface ∨ ∃ te pe, er = .iface te pe) :
    Calls P (ρ.f 14) #[.string s, .int .i64 10, .int .i64 63] w (PuEnd 63 s.data.toList w) := by
  have q0 := L.mixed
  have q1 := L.t9; have q2 := L.a9; have q3 := L.z9; have q4 := L.v9
  have q5 := L.t3; have q6 := L.a3; have q7 := L.z3; have q8 := L.v3
  have q9 := L.t22; have q10 := L.a22; have q11 := L.z22; have q12 := L.v22
  have q13 := L.t24; have q14 := L.a24; have q15 := L.z24; have q16 := L.v24
  have q17 := L.t25; have q18 := L.a25; have q19 := L.z25; have q20 := L.v25
  have q21 := L.t4; have q22 := L.a4; have q23 := L.z4; have q24 := L.v4
  have e16 : ∀ args w, (callFunc (ρ.f 16) args).run P w = .ok (.enter (ρ.f 16) args) w := enters_of L.f16 (by kernel_rfl) rfl
  have e17 : ∀ args w, (callFunc (ρ.f 17) args).run P w = .ok (.enter (ρ.f 17) args) w := enters_of L.f17 (by kernel_rfl) rfl
  have hI := inner63At { L with } s (by omega) w
  have hG0 : (ρ.g 0) < w.heap.size := Lib.lt_of_cell hv
  have hG1 : (ρ.g 1) < w.heap.size := Lib.lt_of_cell hr
  have hB : ∀ w', (w' = w ∨ w' = Lib.bytesWorld w (ρ.t 5) s) → Below w.heap.size w w' := by
    rintro w' (rfl | rfl)
    · exact Below.refl _ _
    · exact Lib.bytesWorld_below _ _ _
  rcases hp : Lib.parseUintB 63 s.data.toList with u | _ | _
  · skip
    rw [hp] at hI
    have hI : Calls P (ρ.f 16) #[.string s, .int .i64 10, .int .i64 63] w fun e w' => e = .returned (.tuple #[.int .u64 u, .nilIface]) ∧ (w' = w ∨ w' = Lib.bytesWorld w (ρ.t 5) s) := hI
    have hu := Lib.parseUintB_le hp
    have hrd : rdN 63 s.data.toList = some u := by unfold rdN; rw [hp]
    have HU := Lib.hid hu
    have HRD := Lib.hid hrd
    clear hp hu hrd
    go_enter L.f14, BodyPu.n14_ntmps ρ
    go_wp2_with (go_at_fn (ρ.f 16); refine hI.mono ?_; rintro e W1 ⟨rfl, hW⟩)
    go_wp2
    go_ret2
    exact ⟨u, .nilIface, rfl, hB _ hW, by omega, by have := HU.out; omega, .inl ⟨u, HRD.out, rfl, rfl⟩⟩
  · skip
    rw [hp] at hI
    have hI : Calls P (ρ.f 16) #[.string s, .int .i64 10, .int .i64 63] w fun e w' => e = .returned (.tuple #[.int .u64 0, .iface (ρ.t 34) (.int .i64 2)]) ∧ (w' = w ∨ w' = Lib.bytesWorld w (ρ.t 5) s) := hI
    have hrd : rdN 63 s.data.toList = none := by unfold rdN; rw [hp]
    have HRD := Lib.hid hrd
    clear hp hrd
    go_enter L.f14, BodyPu.n14_ntmps ρ
    go_wp2_with (go_at_fn (ρ.f 16); refine hI.mono ?_)
    rintro e W1 ⟨rfl, hW⟩
    have hb1 := hB _ hW
    have hv1 : W1.cell? ⟨(ρ.g 0), 0, none⟩ = some ev := (hb1.cell (show (⟨(ρ.g 0), 0, none⟩ : Addr).block < w.heap.size from hG0)).trans hv
    clear hW hB
    go_wp2_with (go_at_fn (ρ.f 17); refine (AnyPu.strconv_toError_syntax { L with } ⟨#[80, 97, 114, 115, 101, 85, 105, 110, 116]⟩ s 10 63 ev _ hlim ?_ hev).mono ?_)
    · exact hv1
    rintro e W2 ⟨N, rfl, h1, h2, h3⟩
    go_wp2
    go_ret2
    exact ⟨0, _, rfl, hb1.trans (h3.mono hb1.size), by omega, by decide, .inr ⟨HRD.out, _, _, rfl⟩⟩
  · skip
    rw [hp] at hI
    have hI : Calls P (ρ.f 16) #[.string s, .int .i64 10, .int .i64 63] w fun e w' => e = .returned (.tuple #[.int .u64 9223372036854775807, .iface (ρ.t 34) (.int .i64 1)]) ∧ (w' = w ∨ w' = Lib.bytesWorld w (ρ.t 5) s) := hI
    have hrd : rdN 63 s.data.toList = none := by unfold rdN; rw [hp]
    have HRD := Lib.hid hrd
    clear hp hrd
    go_enter L.f14, BodyPu.n14_ntmps ρ
    go_wp2_with (go_at_fn (ρ.f 16); refine hI.mono ?_)
    rintro e W1 ⟨rfl, hW⟩
    have hb1 := hB _ hW
    have hv1 : W1.cell? ⟨(ρ.g 1), 0, none⟩ = some er := (hb1.cell (show (⟨(ρ.g 1), 0, none⟩ : Addr).block < w.heap.size from hG1)).trans hr
    clear hW hB
    go_wp2_with (go_at_fn (ρ.f 17); refine (AnyPu.strconv_toError_range { L with } ⟨#[80, 97, 114, 115, 101, 85, 105, 110, 116]⟩ s 10 63 er _ hlim ?_ her).mono ?_)
    · exact hv1
    rintro e W2 ⟨N, rfl, h1, h2, h3⟩
    go_wp2
    go_ret2
    exact ⟨9223372036854775807, _, rfl, hb1.trans (h3.mono hb1.size), by omega, by decide, .inr ⟨HRD.out, _, _, rfl⟩⟩
end
end Go.Proofs.YtpmcedfeiconfaaGreatDoor.Opw

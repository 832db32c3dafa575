/- Layer 12: the texts of operations (made by genoper3.py). -/
import Derived.Test.YtpmcedfeiconfaaGreatDoorOpLib2
namespace Go.Proofs.YtpmcedfeiconfaaGreatDoor.Opw
open Go Go.RowKit Go.ChangeMaps Go.Proofs.YtpmcedfeiconfaaGreatDoor.Gro Go.Proofs.YtpmcedfeiconfaaGreatDoor.Own Go.Proofs.YtpmcedfeiconfaaGreatDoor.Mr Go.Proofs.YtpmcedfeiconfaaGreatDoor.Opn
set_option linter.unusedVariables false
set_option linter.unusedSimpArgs false
abbrev strV (x : List UInt8) : Value := .string ⟨x.toArray⟩
theorem parts_info {P : Program} {t : TypeId} {z : Option Value} {s b : Nat} (h : (P.info? t).map (fun i => (i.zero, i.size, i.bytes)) = some (z, s, b)) : ∃ i, P.info? t = some i ∧ i.zero = z ∧ i.size = s ∧ i.bytes = b := by
  obtain ⟨i, h1, h2⟩ := Option.map_eq_some_iff.1 h
  simp only [Prod.mk.injEq] at h2
  exact ⟨i, h1, h2.1, h2.2.1, h2.2.2⟩
theorem elemS : Elem Tryz.prog 45 9 1 16 := ⟨Tryz.underlying45, by
  have h : (Tryz.prog.info? 9).map (fun i => (i.zero, i.size, i.bytes)) = some (some (.string ⟨#[]⟩), 1, 16) := by kernel_rfl
  obtain ⟨i, h1, h2, h3, h4⟩ := Go.Proofs.YtpmcedfeiconfaaGreatDoor.Opw.parts_info h
  exact ⟨i, _, h1, h2, h3, h4, rfl⟩, by decide, by decide⟩
/-- Strings in memory of the call's own. -/
def OwnS (B : Nat) (w : World) (v : Value) (L : List (List UInt8)) : Prop := w.ownsRow B 9 1 v L.length (L.map strV)
theorem OwnS.keep {B : Nat} {w w' : World} {v : Value} {L : List (List UInt8)} (h : OwnS B w v L) (hb : Below w.heap.size w w') : OwnS B w' v L := owns_below h hb (fun g hg => (World.ownsRow.lt h g hg).2)
theorem OwnS.one {B : Nat} (w : World) (x : List UInt8) (hB : B ≤ w.heap.size) : OwnS B (w.alloc (.cells #[strV x] 9)) (.slice (some ⟨w.heap.size, 0, none⟩) 1 1) [x] :=
  ⟨rfl, .inr ⟨w.heap.size, 1, #[strV x], rfl, hB, heap_alloc_new w _, Nat.le_refl _, by unfold maxLen; simp, rfl, rfl⟩⟩
theorem fJoin {B : Nat} {w : World} {v : Value} {L : List (List UInt8)} (h : OwnS B w v L) (h0 : 0 < L.length) (hm : L.length ≤ 1000) (hl : (Lib.join L [32]).length ≤ 140737488355328) :
    Calls Tryz.prog 22 #[v, .string ⟨#[32]⟩] w fun e w' => e = .returned (.string ⟨(Lib.join L [32]).toArray⟩) ∧ Below w.heap.size w w' := by
  obtain ⟨g, cap, rfl, hge, hlt, hcap, hmx, hc⟩ := owns_cells h h0
  have e1 : (L.map fun x => (⟨x.toArray⟩ : ByteArray)).map (·.data.toList) = L := by
    rw [List.map_map]
    conv => rhs; rw [← List.map_id L]
    congr 1
  have := Tryz.strings_Join g 0 cap (L.map fun x => (⟨x.toArray⟩ : ByteArray)) ⟨#[32]⟩ w (fun j x hx => by
    rw [List.getElem?_map] at hx
    obtain ⟨y, hy, rfl⟩ := Option.map_eq_some_iff.1 hx
    have hj := (List.getElem?_eq_some_iff.1 hy).1
    rw [Nat.zero_add, hc j (by simpa using hj), List.getElem?_map, hy]
    rfl) hlt (by simp; omega) (by simp; exact hcap) (by rw [e1]; exact hl)
  rw [e1, List.length_map] at this
  exact this
theorem fld1 (n : ByteArray) (a b c d : Bool) (w : World) : (Instr.field 84 (.agg #[.string n, .bool a, .bool b, .bool c, .bool d]) 1).run Tryz.prog w = .ok (.bool a) w := by kernel_rfl
theorem fld4 (n : ByteArray) (a b c d : Bool) (w : World) : (Instr.field 84 (.agg #[.string n, .bool a, .bool b, .bool c, .bool d]) 4).run Tryz.prog w = .ok (.bool d) w := by kernel_rfl
set_option maxRecDepth 100000 in
set_option maxHeartbeats 8000000 in
theorem fTicketText (o : OpD) (hF : o.Fits) (hU : o.u = true → 0 ≤ o.b ∧ 0 ≤ o.n) (w : World) (L : Lb w) : Calls Tryz.prog 41 #[opV o] w fun e w' => e = .returned (.string ⟨(tick o).toArray⟩) ∧ Below w.heap.size w w' := by
  have K0 := Bk.new w (opC o) 50
  have hb0 : Below w.heap.size w (w.alloc (.cells (opC o) 50)) := (Below.refl _ _).alloc (Nat.le_refl _) _
  have L0 := L.keep hb0
  have hFt := hF.t
  have hFb := hF.b
  have hFn := hF.n
  clear hF
  obtain ⟨k, t, x, s, u, b, n⟩ := o
  simp only at hU hFt hFb hFn
  cases u
  · have hT : tick ⟨k, t, x, s, false, b, n⟩ = Lib.decDigits t.toNat := rfl
    rw [hT]
    have HU := Lib.hid (fUint t.toNat (by omega))
    have ht : ((t.toNat : Nat) : Int) = t := by omega
    rw [ht] at HU
    clear hT ht
    go_enter Tryz.func41, Tryz.ntmps41
    go_wp2_with fail
    refine (HU.out _ L0).mono ?_
    rintro e w2 ⟨rfl, hb2⟩
    go_wp2
    go_ret
    exact ⟨rfl, hb0.trans (hb2.mono hb0.size)⟩
  · obtain ⟨hb, hn⟩ := hU rfl
    have hT : (⟨(tick ⟨k, t, x, s, true, b, n⟩).toArray⟩ : ByteArray) = (⟨#[64]⟩ ++ ⟨(dec b).toArray⟩) ++ ⟨#[46]⟩ ++ ⟨(dec n).toArray⟩ := by
      have e : tick ⟨k, t, x, s, true, b, n⟩ = [64] ++ dec b ++ [46] ++ dec n := by simp [tick]
      rw [e, ← cat_bytes, ← cat_bytes, ← cat_bytes]
    rw [hT]
    have l1 := dec_20 (show b.toNat ≤ 18446744073709551615 by omega)
    have l2 := dec_20 (show n.toNat ≤ 18446744073709551615 by omega)
    have HB := Lib.hid (fItoa b hb (by omega))
    have HN := Lib.hid (fItoa n hn (by omega))
    obtain ⟨s1, hs1⟩ : ∃ q, q = (⟨(dec b).toArray⟩ : ByteArray) := ⟨_, rfl⟩
    obtain ⟨s2, hs2⟩ : ∃ q, q = (⟨(dec n).toArray⟩ : ByteArray) := ⟨_, rfl⟩
    have z1 : s1.size ≤ 20 := by rw [hs1]; exact l1
    have z2 : s2.size ≤ 20 := by rw [hs2]; exact l2
    rw [← hs1, ← hs2]
    rw [← hs1] at HB
    rw [← hs2] at HN
    clear hT l1 l2 hs1 hs2
    go_enter Tryz.func41, Tryz.ntmps41
    go_wp2
    obtain ⟨w1, hw1⟩ : ∃ u, u = w.alloc (.cells (opC ⟨k, t, x, s, true, b, n⟩) 50) := ⟨_, rfl⟩
    rw [← hw1] at K0 hb0 L0 ⊢
    have l0 := K0.lt
    have sz1 := hb0.size
    clear hw1
    have hS0 : Below w1.heap.size w1 w1.drew := Below.drew (Below.refl _ _)
    refine wp_region_held_drew (S := fun w' => Below w1.heap.size w1 w') (by kernel_rfl) hS0 (fun hHeld => ?_)
    clear hS0
    generalize w1.drew = z0 at *
    refine wpAnyH_take (i := 0) (oi := _) (v := .pointer (some ⟨w.heap.size, 5, none⟩)) rfl (by kernel_rfl) (by kernel_rfl) (by kernel_rfl) (fun _ _ _ h => h) (Or.inl ⟨by rfl, fun w' hSw => by go_simp⟩) hHeld ?_
    try simp only [Act.put, List.getElem_toArray, List.getElem_cons_succ, List.getElem_cons_zero, List.setIfInBounds_toArray, List.set_cons_succ, List.set_cons_zero]
    refine wpAnyH_take (i := 1) (oi := _) (v := .int .i64 b) rfl (by kernel_rfl) (by kernel_rfl) (by kernel_rfl) (fun _ _ _ h => h) (Or.inl ⟨by rfl, fun w' hSw => by have xx := (K0.keep hSw).cells; go_simp⟩) hHeld ?_
    try simp only [Act.put, List.getElem_toArray, List.getElem_cons_succ, List.getElem_cons_zero, List.setIfInBounds_toArray, List.set_cons_succ, List.set_cons_zero]
    refine wpAnyH_take (i := 5) (oi := _) (v := .pointer (some ⟨w.heap.size, 6, none⟩)) rfl (by kernel_rfl) (by kernel_rfl) (by kernel_rfl) (fun _ _ _ h => h) (Or.inl ⟨by rfl, fun w' hSw => by go_simp⟩) hHeld ?_
    try simp only [Act.put, List.getElem_toArray, List.getElem_cons_succ, List.getElem_cons_zero, List.setIfInBounds_toArray, List.set_cons_succ, List.set_cons_zero]
    refine wpAnyH_take (i := 6) (oi := _) (v := .int .i64 n) rfl (by kernel_rfl) (by kernel_rfl) (by kernel_rfl) (fun _ _ _ h => h) (Or.inl ⟨by rfl, fun w' hSw => by have xx := (K0.keep hSw).cells; go_simp⟩) hHeld ?_
    try simp only [Act.put, List.getElem_toArray, List.getElem_cons_succ, List.getElem_cons_zero, List.setIfInBounds_toArray, List.set_cons_succ, List.set_cons_zero]
    refine wpAnyH_ready (rs := [2]) (by kernel_rfl) (by simp) ?_
    refine AllReadyH.cons (o := _) rfl (fun K hK => ?_) AllReadyH.nil
    have LZ := L0.keep hHeld
    go_simp
    refine (HB.out _ LZ).mono ?_
    rintro en z1 ⟨rfl, hb9⟩
    have hHeld' := hHeld.trans (hb9.mono hHeld.size)
    refine hK.out _ _ hHeld' (fun hHeld => ?_)
    clear hK K hHeld' LZ hb9
    try simp only [Act.put, List.getElem_toArray, List.getElem_cons_succ, List.getElem_cons_zero, List.setIfInBounds_toArray, List.set_cons_succ, List.set_cons_zero]
    refine wpAnyH_take (i := 3) (oi := _) (v := .string (⟨#[64]⟩ ++ s1)) rfl (by kernel_rfl) (by kernel_rfl) (by kernel_rfl) (fun _ _ _ h => h) (Or.inl ⟨by rfl, fun w' hSw => by go_simp; omega⟩) hHeld ?_
    try simp only [Act.put, List.getElem_toArray, List.getElem_cons_succ, List.getElem_cons_zero, List.setIfInBounds_toArray, List.set_cons_succ, List.set_cons_zero]
    refine wpAnyH_take (i := 4) (oi := _) (v := .string ((⟨#[64]⟩ ++ s1) ++ ⟨#[46]⟩)) rfl (by kernel_rfl) (by kernel_rfl) (by kernel_rfl) (fun _ _ _ h => h) (Or.inl ⟨by rfl, fun w' hSw => by go_simp; omega⟩) hHeld ?_
    try simp only [Act.put, List.getElem_toArray, List.getElem_cons_succ, List.getElem_cons_zero, List.setIfInBounds_toArray, List.set_cons_succ, List.set_cons_zero]
    refine wpAnyH_ready (rs := [7]) (by kernel_rfl) (by simp) ?_
    refine AllReadyH.cons (o := _) rfl (fun K hK => ?_) AllReadyH.nil
    have LZ := L0.keep hHeld
    go_simp
    refine (HN.out _ LZ).mono ?_
    rintro en z2 ⟨rfl, hb9⟩
    have hHeld' := hHeld.trans (hb9.mono hHeld.size)
    refine hK.out _ _ hHeld' (fun hHeld => ?_)
    clear hK K hHeld' LZ hb9
    try simp only [Act.put, List.getElem_toArray, List.getElem_cons_succ, List.getElem_cons_zero, List.setIfInBounds_toArray, List.set_cons_succ, List.set_cons_zero]
    refine wpAnyH_take (i := 8) (oi := _) (v := .string (((⟨#[64]⟩ ++ s1) ++ ⟨#[46]⟩) ++ s2)) rfl (by kernel_rfl) (by kernel_rfl) (by kernel_rfl) (fun _ _ _ h => h) (Or.inl ⟨by rfl, fun w' hSw => by go_simp; omega⟩) hHeld ?_
    try simp only [Act.put, List.getElem_toArray, List.getElem_cons_succ, List.getElem_cons_zero, List.setIfInBounds_toArray, List.set_cons_succ, List.set_cons_zero]
    refine wpAnyH_take (i := 9) (oi := _) (v := .string (((⟨#[64]⟩ ++ s1) ++ ⟨#[46]⟩) ++ s2)) rfl (by kernel_rfl) (by kernel_rfl) (by kernel_rfl) (fun _ _ _ h => h) (Or.inl ⟨by rfl, fun w' hSw => by go_simp⟩) hHeld ?_
    try simp only [Act.put, List.getElem_toArray, List.getElem_cons_succ, List.getElem_cons_zero, List.setIfInBounds_toArray, List.set_cons_succ, List.set_cons_zero]
    refine wpAnyH_done (by kernel_rfl) ?_ _
    have hb8 := hb0.trans (hHeld.mono hb0.size)
    go_wp2
    go_ret
    exact ⟨rfl, hb8⟩
end Go.Proofs.YtpmcedfeiconfaaGreatDoor.Opw

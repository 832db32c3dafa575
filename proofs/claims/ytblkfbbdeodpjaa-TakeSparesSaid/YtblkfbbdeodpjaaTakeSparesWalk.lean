/- The law TakeSpares (made by gentake5.py). -/
import Derived.Test.YtblkfbbdeodpjaaTakeSpare
import Derived.Test.YtblkfbbdeodpjaaTakeAwake
import Derived.Test.YtblkfbbdeodpjaaGreat
import Derived.Test.YtblkfbbdeodpjaaOpens
namespace Go.Proofs.Ytblkfbbdeodpjaa.Me
open Go Go.RowKit Go.Proofs.Ytblkfbbdeodpjaa.Gro Go.Proofs.Ytblkfbbdeodpjaa.Own Go.Proofs.Ytblkfbbdeodpjaa.Wd Go.Proofs.Ytblkfbbdeodpjaa.Ap Go.Proofs.Ytblkfbbdeodpjaa.Pl Go.Proofs.Ytblkfbbdeodpjaa.Wo
set_option linter.unusedVariables false
set_option linter.unusedSimpArgs false
set_option maxRecDepth 100000 in
set_option maxHeartbeats 8000000 in
theorem ts_great (c : Cfg) (hf : c.Wf) (ad : Option Addr) (n cap : Nat) (e0 : Int) (he : 0 ≤ e0 ∧ e0 < 18446744073709551616) (hg : greatC c = true) (w : World) : Calls Try.prog 8 #[cv c, .slice ad n cap, .int .u64 e0] w fun e w' => e = .returned (.bool true) ∧ Below w.heap.size w w' := by
  have C0 := Bk.new w (ccM c) 24
  have hw0 : Below w.heap.size w (w.alloc (.cells (ccM c) 24)) := (Below.refl _ _).alloc (Nat.le_refl _) _
  have HG := Lib.hid (fun w => hg ▸ greatMem c hf w)
  go_enter Try.func8, Try.ntmps8
  go_wp2_with fail
  refine (awake9 _).mono ?_
  rintro e w1 ⟨rfl, hb1⟩
  have C1 := C0.keep hb1
  have hw1 := hw0.trans (hb1.mono hw0.size)
  clear C0 hw0 hb1
  go_wp2_with (refine wpList_load_row rfl 24 _ rfl w.heap.size rfl _ (ccM c) (0, 0) _ (by exact C1) Try.underlying24 rfl (by kernel_rfl) ?_)
  refine (HG.out _).mono ?_
  rintro e w2 ⟨rfl, hb2⟩
  have C2 := C1.keep hb2
  have hw2 := hw1.trans (hb2.mono hw1.size)
  clear C1 hw1 hb2 HG
  go_wp2
  go_ret
  exact ⟨rfl, hw2⟩
set_option maxRecDepth 100000 in
set_option maxHeartbeats 8000000 in
theorem ts_long (c : Cfg) (hf : c.Wf) (ad : Option Addr) (n cap : Nat) (e0 : Int) (he : 0 ≤ e0 ∧ e0 < 18446744073709551616) (hg : greatC c = false) (hn : 400 < n) (hm : n ≤ 9223372036854775807) (w : World) : Calls Try.prog 8 #[cv c, .slice ad n cap, .int .u64 e0] w fun e w' => e = .returned (.bool true) ∧ Below w.heap.size w w' := by
  have C0 := Bk.new w (ccM c) 24
  have hw0 : Below w.heap.size w (w.alloc (.cells (ccM c) 24)) := (Below.refl _ _).alloc (Nat.le_refl _) _
  have HG := Lib.hid (fun w => hg ▸ greatMem c hf w)
  go_enter Try.func8, Try.ntmps8
  go_wp2_with fail
  refine (awake9 _).mono ?_
  rintro e w1 ⟨rfl, hb1⟩
  have C1 := C0.keep hb1
  have hw1 := hw0.trans (hb1.mono hw0.size)
  clear C0 hw0 hb1
  go_wp2_with (refine wpList_load_row rfl 24 _ rfl w.heap.size rfl _ (ccM c) (0, 0) _ (by exact C1) Try.underlying24 rfl (by kernel_rfl) ?_)
  refine (HG.out _).mono ?_
  rintro e w2 ⟨rfl, hb2⟩
  have C2 := C1.keep hb2
  have hw2 := hw1.trans (hb2.mono hw1.size)
  clear C1 hw1 hb2 HG
  have d1 : decide ((400 : Int) < (n : Int)) = true := by simp; omega
  go_wp2
  go_ret
  exact ⟨rfl, hw2⟩
set_option maxRecDepth 100000 in
set_option maxHeartbeats 8000000 in
theorem ts_main (c : Cfg) (hf : c.Wf) (ad : Option Addr) (n cap : Nat) (e0 : Int) (he : 0 ≤ e0 ∧ e0 < 18446744073709551616) (hg : greatC c = false) (hn : n ≤ 400) (L : List Int) (hL : ∀ x ∈ L, 0 ≤ x ∧ x < 18446744073709551616) (w : World) (hr : Reads w .u64 (.slice ad n cap) L) : Calls Try.prog 8 #[cv c, .slice ad n cap, .int .u64 e0] w fun e w' => e = .returned (.bool true) ∧ Below w.heap.size w w' := by
  have C0 := Bk.new w (ccM c) 24
  have hw0 : Below w.heap.size w (w.alloc (.cells (ccM c) 24)) := (Below.refl _ _).alloc (Nat.le_refl _) _
  have HG := Lib.hid (fun w => hg ▸ greatMem c hf w)
  have d1 : decide ((400 : Int) < (n : Int)) = false := by simp; omega
  have HE : RowKit.Hid (∀ w', Below w.heap.size w w' → Calls Try.prog 34 #[cv c, .slice ad n cap, .int .u64 e0] w' (RetB (.bool (spare c L e0)) w')) := Lib.hid (fun w' hb => spareP c hf (v := ⟨ad, n, cap⟩) (hr.keep hb) hL e0 he.2)
  have HR : RowKit.Hid (∀ w', Below w.heap.size w w' → Calls Try.prog 35 #[cv c, .slice ad n cap, .int .u64 e0] w' (RetB (.bool (spare c L e0)) w')) := Lib.hid (fun w' hb => spareR c hf (v := ⟨ad, n, cap⟩) (hr.keep hb) hL e0 he.2)
  obtain ⟨q, hq⟩ : ∃ q, q = spare c L e0 := ⟨_, rfl⟩
  rw [← hq] at HE HR
  have t1 : (q == q) = true := by simp
  clear hr hL hq
  go_enter Try.func8, Try.ntmps8
  go_wp2_with fail
  refine (awake9 _).mono ?_
  rintro e w1 ⟨rfl, hb1⟩
  have C1 := C0.keep hb1
  have hw1 := hw0.trans (hb1.mono hw0.size)
  clear C0 hw0 hb1
  go_wp2_with (refine wpList_load_row rfl 24 _ rfl w.heap.size rfl _ (ccM c) (0, 0) _ (by exact C1) Try.underlying24 rfl (by kernel_rfl) ?_)
  refine (HG.out _).mono ?_
  rintro e w2 ⟨rfl, hb2⟩
  have C2 := C1.keep hb2
  have hw2 := hw1.trans (hb2.mono hw1.size)
  clear C1 hw1 hb2 HG
  go_wp2
  have hS0 : Below w2.heap.size w2 w2.drew := Below.drew (Below.refl _ _)
  refine wp_region_held_drew (S := fun w' => Below w2.heap.size w2 w') (by kernel_rfl) hS0 (fun hHeld => ?_)
  clear hS0
  generalize w2.drew = z0 at *
  refine wpAnyH_take (i := 0) (oi := _) (v := cv c) rfl (by kernel_rfl) (by kernel_rfl) (by kernel_rfl) (fun _ _ _ h => h) (Or.inl ⟨by rfl, fun w' hSw => by have xx := (C2.keep hSw).cells; go_simp⟩) hHeld ?_
  try simp only [Act.put, List.getElem_toArray, List.getElem_cons_succ, List.getElem_cons_zero, List.setIfInBounds_toArray, List.set_cons_succ, List.set_cons_zero]
  refine wpAnyH_take (i := 1) (oi := _) (v := .slice ad n cap) rfl (by kernel_rfl) (by kernel_rfl) (by kernel_rfl) (fun _ _ _ h => h) (Or.inl ⟨by rfl, fun w' hSw => by go_simp⟩) hHeld ?_
  try simp only [Act.put, List.getElem_toArray, List.getElem_cons_succ, List.getElem_cons_zero, List.setIfInBounds_toArray, List.set_cons_succ, List.set_cons_zero]
  refine wpAnyH_take (i := 2) (oi := _) (v := .int .u64 e0) rfl (by kernel_rfl) (by kernel_rfl) (by kernel_rfl) (fun _ _ _ h => h) (Or.inl ⟨by rfl, fun w' hSw => by go_simp⟩) hHeld ?_
  try simp only [Act.put, List.getElem_toArray, List.getElem_cons_succ, List.getElem_cons_zero, List.setIfInBounds_toArray, List.set_cons_succ, List.set_cons_zero]
  refine wpAnyH_take (i := 4) (oi := _) (v := cv c) rfl (by kernel_rfl) (by kernel_rfl) (by kernel_rfl) (fun _ _ _ h => h) (Or.inl ⟨by rfl, fun w' hSw => by have xx := (C2.keep hSw).cells; go_simp⟩) hHeld ?_
  try simp only [Act.put, List.getElem_toArray, List.getElem_cons_succ, List.getElem_cons_zero, List.setIfInBounds_toArray, List.set_cons_succ, List.set_cons_zero]
  refine wpAnyH_take (i := 5) (oi := _) (v := .slice ad n cap) rfl (by kernel_rfl) (by kernel_rfl) (by kernel_rfl) (fun _ _ _ h => h) (Or.inl ⟨by rfl, fun w' hSw => by go_simp⟩) hHeld ?_
  try simp only [Act.put, List.getElem_toArray, List.getElem_cons_succ, List.getElem_cons_zero, List.setIfInBounds_toArray, List.set_cons_succ, List.set_cons_zero]
  refine wpAnyH_take (i := 6) (oi := _) (v := .int .u64 e0) rfl (by kernel_rfl) (by kernel_rfl) (by kernel_rfl) (fun _ _ _ h => h) (Or.inl ⟨by rfl, fun w' hSw => by go_simp⟩) hHeld ?_
  try simp only [Act.put, List.getElem_toArray, List.getElem_cons_succ, List.getElem_cons_zero, List.setIfInBounds_toArray, List.set_cons_succ, List.set_cons_zero]
  refine wpAnyH_ready (rs := [3]) (by kernel_rfl) (by simp) ?_
  refine AllReadyH.cons (o := _) rfl (fun K hK => ?_) AllReadyH.nil
  go_simp
  refine (HE.out _ (hw2.trans (hHeld.mono hw2.size))).mono ?_
  rintro e z3 ⟨rfl, hb⟩
  have hHeld' := hHeld.trans (hb.mono hHeld.size)
  refine hK.out _ _ hHeld' (fun hHeld => ?_)
  clear hK K hHeld'
  try simp only [Act.put, List.getElem_toArray, List.getElem_cons_succ, List.getElem_cons_zero, List.setIfInBounds_toArray, List.set_cons_succ, List.set_cons_zero]
  clear hb
  refine wpAnyH_ready (rs := [7]) (by kernel_rfl) (by simp) ?_
  refine AllReadyH.cons (o := _) rfl (fun K hK => ?_) AllReadyH.nil
  go_simp
  refine (HR.out _ (hw2.trans (hHeld.mono hw2.size))).mono ?_
  rintro e z7 ⟨rfl, hb⟩
  have hHeld' := hHeld.trans (hb.mono hHeld.size)
  refine hK.out _ _ hHeld' (fun hHeld => ?_)
  clear hK K hHeld'
  try simp only [Act.put, List.getElem_toArray, List.getElem_cons_succ, List.getElem_cons_zero, List.setIfInBounds_toArray, List.set_cons_succ, List.set_cons_zero]
  clear hb
  refine wpAnyH_take (i := 8) (oi := _) (v := .bool true) rfl (by kernel_rfl) (by kernel_rfl) (by kernel_rfl) (fun _ _ _ h => h) (Or.inl ⟨by rfl, fun w' hSw => by go_simp⟩) hHeld ?_
  try simp only [Act.put, List.getElem_toArray, List.getElem_cons_succ, List.getElem_cons_zero, List.setIfInBounds_toArray, List.set_cons_succ, List.set_cons_zero]
  refine wpAnyH_take (i := 9) (oi := _) (v := .bool true) rfl (by kernel_rfl) (by kernel_rfl) (by kernel_rfl) (fun _ _ _ h => h) (Or.inl ⟨by rfl, fun w' hSw => by go_simp⟩) hHeld ?_
  try simp only [Act.put, List.getElem_toArray, List.getElem_cons_succ, List.getElem_cons_zero, List.setIfInBounds_toArray, List.set_cons_succ, List.set_cons_zero]
  refine wpAnyH_done (by kernel_rfl) ?_ _
  have hw5 := hw2.trans (hHeld.mono hw2.size)
  clear hHeld
  go_wp2
  go_ret
  exact ⟨rfl, hw5⟩
theorem takeSpares (c : Cfg) (hf : c.Wf) (v : Sl) (e0 : Int) (he : 0 ≤ e0 ∧ e0 < 18446744073709551616) (L : List Int) (w : World) (hr : Reads w .u64 v.v L) (hL : ∀ x ∈ L, 0 ≤ x ∧ x < 18446744073709551616) :
    Calls Try.prog 8 #[cv c, v.v, .int .u64 e0] w fun e w' => e = .returned (.bool true) ∧ Below w.heap.size w w' := by
  have hle := reads_le hr
  obtain ⟨ad, n, cap⟩ := v
  simp only at hle
  unfold maxLen at hle
  cases hg : greatC c
  · by_cases hn : n ≤ 400
    · exact ts_main c hf ad n cap e0 he hg hn L hL w hr
    · exact ts_long c hf ad n cap e0 he hg (by omega) (by omega) w
  · exact ts_great c hf ad n cap e0 he hg w
end Go.Proofs.Ytblkfbbdeodpjaa.Me

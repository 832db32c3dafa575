/- The contract of (*Pool).Step. -/
import Derived.Test.YtgpdkagmacpghaaIdealChange
namespace Go.Proofs.Ytgpdkagmacpghaa.Idl
open Go Go.RowKit Go.Proofs.Ytgpdkagmacpghaa.Mr Go.ChangeMaps
set_option linter.unusedVariables false
set_option linter.unusedSimpArgs false

def chL (n t x : Int) (L : List (Int × Int)) : List (Int × Int) := if n = 1 ∨ n = 3 then updN t x L else if n = 2 then delN t L else L
def chD (n t : Int) (D : List Int) : List Int := if n = 2 then addD t D else D

section
variable {w : World} {p : Nat} {ws : Int} {ml md : Option Nat} {L : List (Int × Int)} {D : List Int}
theorem change (n : Int) (a : Ans) (h : PoolAt w p ws ml md L D) (hk : n = 2 → al a.t L = true) :
    Calls Try.prog 116 #[.pointer (some ⟨p, 0, none⟩), .int .i64 n, a.val] w fun e w' => e = .returned (.tuple #[]) ∧ Changed w p ws ml md (chL n a.t a.x L) (chD n a.t D) w' := by
  by_cases h13 : n = 1 ∨ n = 3
  · have e1 : chL n a.t a.x L = updN a.t a.x L := by unfold chL; rw [if_pos h13]
    have e2 : chD n a.t D = D := by unfold chD; rw [if_neg (by omega)]
    rw [e1, e2]
    cases ml with
    | none => exact change_issue_none n h13 _ _ _ _ _ _ _ _ _ _ h
    | some b => exact change_issue_some n h13 _ _ _ _ _ _ _ _ _ _ b h
  · by_cases h2 : n = 2
    · subst h2
      have e1 : chL 2 a.t a.x L = delN a.t L := rfl
      have e2 : chD 2 a.t D = addD a.t D := rfl
      rw [e1, e2]
      have ha := hk rfl
      cases ml with
      | none =>
        have : LV L = [] := h.live
        cases L with
        | nil => cases ha
        | cons _ _ => cases this
      | some b =>
        cases md with
        | none => exact change_kill_none _ _ _ _ _ _ _ _ _ _ b h
        | some bd => exact change_kill_some _ _ _ _ _ _ _ _ _ _ b bd h
    · have e1 : chL n a.t a.x L = L := by unfold chL; rw [if_neg h13, if_neg h2]
      have e2 : chD n a.t D = D := by unfold chD; rw [if_neg h2]
      rw [e1, e2]
      exact change_none n (by omega) h2 (by omega) a h

theorem lookI_mem {q : Int × Int} {v : Int × Int} : ∀ {l : List ((Int × Int) × (Int × Int))}, lookI q l = some v → (q, v) ∈ l
  | [], h => by cases h
  | p :: r, h => by
    unfold lookI at h
    by_cases hq : q = p.1
    · rw [if_pos hq] at h
      injection h with h
      have : p = (q, v) := by rw [hq, ← h]
      rw [this]; exact List.mem_cons_self
    · rw [if_neg hq] at h
      exact List.mem_cons_of_mem _ (lookI_mem h)
theorem tbl_kill : ∀ e ∈ tblI, e.2.2 = 2 → e.2.1 = 2 ∧ e.1 = (4, 0) := by decide
theorem tbl_issue : ∀ e ∈ tblI, e.2.2 = 1 → e.2.1 = 1 ∧ e.1 = (3, 0) := by decide
theorem tbl_renum : ∀ e ∈ tblI, e.2.2 = 3 → e.2.1 = 2 ∧ e.1 = (5, 0) := by decide
theorem rd_row {k r : Int} (h : ¬ rd k r = 0) : ((k, r), (rn k r, rd k r)) ∈ tblI := by
  unfold rd rn at *
  cases hq : quietKind k
  · simp only [hq, Bool.false_eq_true, if_false] at h ⊢
    unfold td tn at *
    cases hl : lookI (k, r) tblI with
    | none => rw [hl] at h; exact absurd rfl h
    | some v => exact lookI_mem hl
  · simp [hq] at h
theorem rd_kill {k r : Int} (h : rd k r = 2) : rn k r = 2 ∧ k = 4 ∧ r = 0 := by
  have := tbl_kill _ (rd_row (by omega)) h
  simpa using this
theorem rd_issue {k r : Int} (h : rd k r = 1) : rn k r = 1 ∧ k = 3 ∧ r = 0 := by
  have := tbl_issue _ (rd_row (by omega)) h
  simpa using this
theorem rd_renum {k r : Int} (h : rd k r = 3) : rn k r = 2 ∧ k = 5 ∧ r = 0 := by
  have := tbl_renum _ (rd_row (by omega)) h
  simpa using this

def stepOk (ws : Int) (L : List (Int × Int)) (D : List Int) (k r t : Int) (xs : List Int) : Bool := rok k r && mt (rn k r) ws L D t xs

theorem Changed.from {w0 w1 : World} {L' : List (Int × Int)} {D' : List Int} (hb : Below w0.heap.size w0 w) (h : Changed w p ws ml md L' D' w1) : Changed w0 p ws ml md L' D' w1 := by
  obtain ⟨ml', md', hP, hK, h1, h2⟩ := h
  refine ⟨ml', md', hP, (((Keeps.refl (poolS p ml md) w0).below hb).trans hK), fun b e => ?_, fun b e => ?_⟩
  · rcases h1 b e with h | h
    · exact .inl h
    · exact .inr (Nat.le_trans hb.size h)
  · rcases h2 b e with h | h
    · exact .inl h
    · exact .inr (Nat.le_trans hb.size h)
theorem changed_same {w' : World} (h : PoolAt w p ws ml md L D) (hb : Below w.heap.size w w') : Changed w p ws ml md L D w' :=
  ⟨ml, md, h.below hb, (Keeps.refl _ _).below hb, fun _ e => .inl e, fun _ e => .inl e⟩

set_option maxRecDepth 100000 in
set_option maxHeartbeats 1600000 in
theorem step_no (h : PoolAt w p ws ml md L D) (k ot x sl by_ nth t r : Int) (use : Bool) (rd0 : Value) (xs : List Int) (hr : SlI w rd0 xs) (hx : xs.length ≤ 1000000) (hok : rok k r = false) :
    Calls Try.prog 85 #[.pointer (some ⟨p, 0, none⟩), (Value.agg #[.int .i64 k, .int .u64 ot, .int .u64 x, .int .i64 sl, .bool use, .int .i64 by_, .int .i64 nth, .int .u64 t, .int .i64 r, rd0])] w fun e w' => e = .returned (.bool false) ∧ Changed w p ws ml md L D w' := by
  have R : Hid (∀ w : World, Calls Try.prog 114 #[(Value.agg #[.int .i64 k, .int .u64 ot, .int .u64 x, .int .i64 sl, .bool use, .int .i64 by_, .int .i64 nth, .int .u64 t, .int .i64 r, rd0])] w fun e w' => e = .returned (.tuple #[.agg #[.int .i64 (rn k r), .int .i64 (rd k r)], .bool (rok k r)]) ∧ Below w.heap.size w w') := fun w => ruleOf ⟨k, ot, x, sl, by_, nth, t, r, use, rd0⟩ w
  have H := Lib.hid h
  have HO := Lib.hid hok
  clear h hok hr
  go_enter Try.func85, Try.ntmps85
  go_wp2_with (first | (go_at_call 114; refine (R.out _).mono ?_; rintro e w1 ⟨rfl, hb⟩; have ho := HO.out; obtain ⟨hc, hf⟩ := bcell hb; have hsz := hb.size; simp only [World.size_alloc, World.size_drew] at hc hf hsz; have HB := Lib.hid hb; clear hb))
  go_ret
  refine ⟨rfl, changed_same H.out ?_⟩
  have hb := HB.out
  have hb1 : Below w.heap.size w w1 := by
    refine Below.trans ?_ (hb.mono (by first | omega | (simp; try omega)))
    repeat (first | exact Below.refl _ _ | refine Below.drew ?_ | refine Below.alloc ?_ (by first | omega | (simp; try omega)) _)
  repeat (first | exact hb1 | refine Below.drew ?_ | refine Below.alloc ?_ (by first | omega | (simp; try omega)) _ | refine Below.setCell ?_ (by first | omega | (simp; try omega)) _)

set_option maxRecDepth 100000 in
set_option maxHeartbeats 1600000 in
theorem step_yes (h : PoolAt w p ws ml md L D) (k ot x sl by_ nth t r : Int) (use : Bool) (rd0 : Value) (xs : List Int) (hr : SlI w rd0 xs) (hx : xs.length ≤ 1000000) (hok : rok k r = true) (hm : mt (rn k r) ws L D t xs = true) :
    Calls Try.prog 85 #[.pointer (some ⟨p, 0, none⟩), (Value.agg #[.int .i64 k, .int .u64 ot, .int .u64 x, .int .i64 sl, .bool use, .int .i64 by_, .int .i64 nth, .int .u64 t, .int .i64 r, rd0])] w fun e w' => e = .returned (.bool true) ∧ Changed w p ws ml md (chL (rd k r) t x L) (chD (rd k r) t D) w' := by
  have R : Hid (∀ w : World, Calls Try.prog 114 #[(Value.agg #[.int .i64 k, .int .u64 ot, .int .u64 x, .int .i64 sl, .bool use, .int .i64 by_, .int .i64 nth, .int .u64 t, .int .i64 r, rd0])] w fun e w' => e = .returned (.tuple #[.agg #[.int .i64 (rn k r), .int .i64 (rd k r)], .bool (rok k r)]) ∧ Below w.heap.size w w') := fun w => ruleOf ⟨k, ot, x, sl, by_, nth, t, r, use, rd0⟩ w
  have M : Hid (∀ w1 : World, Below w.heap.size w w1 → Calls Try.prog 115 #[.pointer (some ⟨p, 0, none⟩), .int .i64 (rn k r), (Value.agg #[.int .i64 k, .int .u64 ot, .int .u64 x, .int .i64 sl, .bool use, .int .i64 by_, .int .i64 nth, .int .u64 t, .int .i64 r, rd0])] w1 fun e w' => e = .returned (.bool (mt (rn k r) ws L D t xs)) ∧ Below w1.heap.size w1 w') := fun w1 hb => meets (h.below hb) (rn k r) ⟨k, ot, x, sl, by_, nth, t, r, use, rd0⟩ xs (hr.below hb) hx
  have hkill : rd k r = 2 → al t L = true := fun e => by
    have := (rd_kill e).1
    rw [this] at hm
    exact hm
  have C : Hid (∀ w1 : World, Below w.heap.size w w1 → Calls Try.prog 116 #[.pointer (some ⟨p, 0, none⟩), .int .i64 (rd k r), (Value.agg #[.int .i64 k, .int .u64 ot, .int .u64 x, .int .i64 sl, .bool use, .int .i64 by_, .int .i64 nth, .int .u64 t, .int .i64 r, rd0])] w1 fun e w' => e = .returned (.tuple #[]) ∧ Changed w p ws ml md (chL (rd k r) t x L) (chD (rd k r) t D) w') := fun w1 hb => (change (rd k r) ⟨k, ot, x, sl, by_, nth, t, r, use, rd0⟩ (h.below hb) hkill).mono fun e w' ⟨he, hc⟩ => ⟨he, hc.from hb⟩
  have HO := Lib.hid hok
  have HM := Lib.hid hm
  clear h hok hr hm hkill
  go_enter Try.func85, Try.ntmps85
  go_wp2_with (first | (go_at_call 114; refine (R.out _).mono ?_; rintro e w1 ⟨rfl, hb⟩; have ho := HO.out; obtain ⟨hc, hf⟩ := bcell hb; have hsz := hb.size; simp only [World.size_alloc, World.size_drew] at hc hf hsz; have hz : w.heap.size < w1.heap.size := (by omega); have HB1 : Hid (Below w.heap.size w w1) := (((Below.refl _ _).alloc (Nat.le_refl _) _).trans (hb.mono (by simp))); clear hb) | (go_at_call 115; refine (M.out _ (HB1.out.alloc (by omega) _)).mono ?_; rintro e w2 ⟨rfl, hb2⟩; have hmt := HM.out; obtain ⟨hc2, hf2⟩ := bcell hb2; have hsz2 := hb2.size; simp only [World.size_alloc, World.size_drew] at hc2 hf2 hsz2; have hz2 : w1.heap.size < w1.heap.size + 1 := (by omega); have hz3 : w.heap.size < w1.heap.size + 1 := (by omega); have HB2 : Hid (Below w.heap.size w w2) := ((HB1.out.alloc (by omega) _).trans (hb2.mono (by simp; omega))); clear hb2) | (go_at_call 116; refine (C.out _ HB2.out).mono ?_; rintro e w3 ⟨rfl, hch⟩; have HC := Lib.hid hch; clear hch))
  go_ret
  exact ⟨rfl, HC.out⟩
set_option maxRecDepth 100000 in
set_option maxHeartbeats 1600000 in
theorem step_bad (h : PoolAt w p ws ml md L D) (k ot x sl by_ nth t r : Int) (use : Bool) (rd0 : Value) (xs : List Int) (hr : SlI w rd0 xs) (hx : xs.length ≤ 1000000) (hok : rok k r = true) (hm : mt (rn k r) ws L D t xs = false) :
    Calls Try.prog 85 #[.pointer (some ⟨p, 0, none⟩), (Value.agg #[.int .i64 k, .int .u64 ot, .int .u64 x, .int .i64 sl, .bool use, .int .i64 by_, .int .i64 nth, .int .u64 t, .int .i64 r, rd0])] w fun e w' => e = .returned (.bool false) ∧ Changed w p ws ml md L D w' := by
  have R : Hid (∀ w : World, Calls Try.prog 114 #[(Value.agg #[.int .i64 k, .int .u64 ot, .int .u64 x, .int .i64 sl, .bool use, .int .i64 by_, .int .i64 nth, .int .u64 t, .int .i64 r, rd0])] w fun e w' => e = .returned (.tuple #[.agg #[.int .i64 (rn k r), .int .i64 (rd k r)], .bool (rok k r)]) ∧ Below w.heap.size w w') := fun w => ruleOf ⟨k, ot, x, sl, by_, nth, t, r, use, rd0⟩ w
  have M : Hid (∀ w1 : World, Below w.heap.size w w1 → Calls Try.prog 115 #[.pointer (some ⟨p, 0, none⟩), .int .i64 (rn k r), (Value.agg #[.int .i64 k, .int .u64 ot, .int .u64 x, .int .i64 sl, .bool use, .int .i64 by_, .int .i64 nth, .int .u64 t, .int .i64 r, rd0])] w1 fun e w' => e = .returned (.bool (mt (rn k r) ws L D t xs)) ∧ Below w1.heap.size w1 w') := fun w1 hb => meets (h.below hb) (rn k r) ⟨k, ot, x, sl, by_, nth, t, r, use, rd0⟩ xs (hr.below hb) hx
  have H := Lib.hid h
  have HO := Lib.hid hok
  have HM := Lib.hid hm
  clear h hok hr hm
  go_enter Try.func85, Try.ntmps85
  go_wp2_with (first | (go_at_call 114; refine (R.out _).mono ?_; rintro e w1 ⟨rfl, hb⟩; have ho := HO.out; obtain ⟨hc, hf⟩ := bcell hb; have hsz := hb.size; simp only [World.size_alloc, World.size_drew] at hc hf hsz; have hz : w.heap.size < w1.heap.size := (by omega); have HB1 : Hid (Below w.heap.size w w1) := (((Below.refl _ _).alloc (Nat.le_refl _) _).trans (hb.mono (by simp))); clear hb) | (go_at_call 115; refine (M.out _ (HB1.out.alloc (by omega) _)).mono ?_; rintro e w2 ⟨rfl, hb2⟩; have hmt := HM.out; have HB2 : Hid (Below w.heap.size w w2) := ((HB1.out.alloc (by omega) _).trans (hb2.mono (by simp; omega))); clear hb2))
  go_ret
  exact ⟨rfl, changed_same H.out HB2.out⟩

/-- What an answer does to the live and the dead tickets. -/
def stL (ws : Int) (L : List (Int × Int)) (D : List Int) (k r t x : Int) (xs : List Int) : List (Int × Int) := if stepOk ws L D k r t xs then chL (rd k r) t x L else L
def stD (ws : Int) (L : List (Int × Int)) (D : List Int) (k r t : Int) (xs : List Int) : List Int := if stepOk ws L D k r t xs then chD (rd k r) t D else D
theorem step (h : PoolAt w p ws ml md L D) (k ot x sl by_ nth t r : Int) (use : Bool) (rd0 : Value) (xs : List Int) (hr : SlI w rd0 xs) (hx : xs.length ≤ 1000000) :
    Calls Try.prog 85 #[.pointer (some ⟨p, 0, none⟩), (Value.agg #[.int .i64 k, .int .u64 ot, .int .u64 x, .int .i64 sl, .bool use, .int .i64 by_, .int .i64 nth, .int .u64 t, .int .i64 r, rd0])] w fun e w' => e = .returned (.bool (stepOk ws L D k r t xs)) ∧ Changed w p ws ml md (stL ws L D k r t x xs) (stD ws L D k r t xs) w' := by
  unfold stL stD
  cases hok : rok k r
  · have e : stepOk ws L D k r t xs = false := by simp [stepOk, hok]
    rw [e]
    exact step_no h k ot x sl by_ nth t r use rd0 xs hr hx hok
  · cases hm : mt (rn k r) ws L D t xs
    · have e : stepOk ws L D k r t xs = false := by simp [stepOk, hm]
      rw [e]
      exact step_bad h k ot x sl by_ nth t r use rd0 xs hr hx hok hm
    · have e : stepOk ws L D k r t xs = true := by simp [stepOk, hok, hm]
      rw [e]
      exact step_yes h k ot x sl by_ nth t r use rd0 xs hr hx hok hm
end
end Go.Proofs.Ytgpdkagmacpghaa.Idl

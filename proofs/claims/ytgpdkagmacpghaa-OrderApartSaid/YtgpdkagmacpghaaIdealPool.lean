/- A pool in memory as two lists (live tickets with their numbers, dead tickets), and the contracts of Live, Told, Len, New and isPayload. -/
import Derived.Test.YtgpdkagmacpghaaIdealRuleOf
import Derived.LoopTactic
namespace Go.Proofs.Ytgpdkagmacpghaa.Idl
open Go Go.RowKit Go.Proofs.Ytgpdkagmacpghaa.Mr Go.ChangeMaps
set_option linter.unusedVariables false
set_option linter.unusedSimpArgs false

def lk (k : Int) : List (Int × Int) → Option Int
  | [] => none
  | p :: r => if k = p.1 then some p.2 else lk k r
def al (k : Int) (L : List (Int × Int)) : Bool := (lk k L).isSome
def num (k : Int) (L : List (Int × Int)) : Int := (lk k L).getD 0
def updN (k x : Int) : List (Int × Int) → List (Int × Int)
  | [] => [(k, x)]
  | p :: r => if k = p.1 then (k, x) :: r else p :: updN k x r
def delN (k : Int) : List (Int × Int) → List (Int × Int)
  | [] => []
  | p :: r => if k = p.1 then r else p :: delN k r
def addD (k : Int) (D : List Int) : List Int := if k ∈ D then D else D ++ [k]
def LV (L : List (Int × Int)) : List (Int × Value) := L.map fun q => (q.1, .int .u64 q.2)
def DV (D : List Int) : List (Int × Value) := D.map fun t => (t, .bool true)

theorem look_LV (k : Int) : ∀ L, Mr.look k (LV L) = (lk k L).map (Value.int .u64)
  | [] => rfl
  | p :: r => by
    show Mr.look k ((p.1, Value.int .u64 p.2) :: LV r) = _
    simp only [Mr.look, lk, look_LV k r]; split <;> rfl
theorem upd_LV (k x : Int) : ∀ L, Mr.upd k (.int .u64 x) (LV L) = LV (updN k x L)
  | [] => rfl
  | p :: r => by
    show Mr.upd k (.int .u64 x) ((p.1, Value.int .u64 p.2) :: LV r) = _
    simp only [Mr.upd, updN, upd_LV k x r]; split <;> rfl
theorem del_LV (k : Int) : ∀ L, Mr.del k (LV L) = LV (delN k L)
  | [] => rfl
  | p :: r => by
    show Mr.del k ((p.1, Value.int .u64 p.2) :: LV r) = _
    simp only [Mr.del, delN, del_LV k r]; split <;> rfl
theorem look_DV (k : Int) : ∀ D, Mr.look k (DV D) = if k ∈ D then some (.bool true) else none
  | [] => rfl
  | p :: r => by
    show Mr.look k ((p, Value.bool true) :: DV r) = _
    simp only [Mr.look, look_DV k r, List.mem_cons]
    by_cases h : k = p <;> simp [h]
theorem upd_DV (k : Int) : ∀ D, Mr.upd k (.bool true) (DV D) = DV (addD k D)
  | [] => rfl
  | p :: r => by
    show Mr.upd k (.bool true) ((p, Value.bool true) :: DV r) = _
    simp only [Mr.upd, upd_DV k r]
    by_cases h : k = p
    · subst h; simp [addD, DV]
    · rw [if_neg h]
      unfold addD
      by_cases h2 : k ∈ r <;> simp [h, h2, DV]

/-- A nil map, or the block of a map. -/
def MapV (w : World) (m : Option Nat) (L : List (Int × Value)) : Prop := match m with
  | none => L = []
  | some b => MapAt w b (Value.int .u64) L

structure PoolAt (w : World) (p : Nat) (ws : Int) (ml md : Option Nat) (L : List (Int × Int)) (D : List Int) : Prop where
  c0 : w.cell? ⟨p, 0, none⟩ = some (.int .i64 ws)
  c1 : w.cell? ⟨p, 1, none⟩ = some (.map ml)
  c2 : w.cell? ⟨p, 2, none⟩ = some (.map md)
  fr : ∀ i, w.frozen? ⟨p, i, none⟩ = false
  live : MapV w ml (LV L)
  dead : MapV w md (DV D)
  ne : ∀ b, ml = some b → md ≠ some b

theorem mapAt_lt {κ : Type} {val : κ → Value} {L : List (κ × Value)} {w : World} {b : Nat} (h : MapAt w b val L) : b < w.heap.size := by
  obtain ⟨es, c, hb, _⟩ := h
  exact (Array.getElem?_eq_some_iff.1 hb).1
theorem mapAt_of {κ : Type} {val : κ → Value} {L : List (κ × Value)} {w w' : World} {b : Nat} (h : MapAt w b val L) (e : w'.heap[b]? = w.heap[b]?) : MapAt w' b val L := by
  obtain ⟨es, c, hb, hL⟩ := h
  exact ⟨es, c, e.trans hb, hL⟩
theorem mapV_of {L : List (Int × Value)} {w w' : World} {m : Option Nat} (h : MapV w m L) (e : ∀ b, m = some b → w'.heap[b]? = w.heap[b]?) : MapV w' m L := by
  cases m with
  | none => exact h
  | some b => exact mapAt_of h (e b rfl)
theorem cell_lt {w : World} {b i : Nat} {v : Value} (h : w.cell? ⟨b, i, none⟩ = some v) : b < w.heap.size := World.block_lt_of_cell? w _ h
theorem map_not_cell {κ : Type} {val : κ → Value} {L : List (κ × Value)} {w : World} {b i : Nat} {v : Value} (h : MapAt w b val L) (hc : w.cell? ⟨b, i, none⟩ = some v) : False := by
  obtain ⟨es, c, hb, _⟩ := h
  simp [World.cell?, hb] at hc

theorem PoolAt.lt {w : World} {p : Nat} {ws : Int} {ml md : Option Nat} {L : List (Int × Int)} {D : List Int} (h : PoolAt w p ws ml md L D) : p < w.heap.size := cell_lt h.c0
theorem PoolAt.live_lt {w : World} {p : Nat} {ws : Int} {ml md : Option Nat} {L : List (Int × Int)} {D : List Int} (h : PoolAt w p ws ml md L D) {b : Nat} (hb : ml = some b) : b < w.heap.size ∧ b ≠ p := by
  have hl := h.live
  subst hb
  exact ⟨mapAt_lt hl, fun e => map_not_cell (e ▸ hl) h.c0⟩
theorem PoolAt.dead_lt {w : World} {p : Nat} {ws : Int} {ml md : Option Nat} {L : List (Int × Int)} {D : List Int} (h : PoolAt w p ws ml md L D) {b : Nat} (hb : md = some b) : b < w.heap.size ∧ b ≠ p := by
  have hl := h.dead
  subst hb
  exact ⟨mapAt_lt hl, fun e => map_not_cell (e ▸ hl) h.c0⟩
/-- A pool stays where its blocks stay. -/
theorem PoolAt.of_blocks {w w' : World} {p : Nat} {ws : Int} {ml md : Option Nat} {L : List (Int × Int)} {D : List Int} (h : PoolAt w p ws ml md L D) (hp : w'.heap[p]? = w.heap[p]?) (hl : ∀ b, ml = some b → w'.heap[b]? = w.heap[b]?) (hd : ∀ b, md = some b → w'.heap[b]? = w.heap[b]?) : PoolAt w' p ws ml md L D where
  c0 := (World.cell?_of_block (w := w) (a := ⟨p, 0, none⟩) hp).trans h.c0
  c1 := (World.cell?_of_block (w := w) (a := ⟨p, 1, none⟩) hp).trans h.c1
  c2 := (World.cell?_of_block (w := w) (a := ⟨p, 2, none⟩) hp).trans h.c2
  fr i := (World.frozen?_of_block (w := w) (a := ⟨p, i, none⟩) hp).trans (h.fr i)
  live := mapV_of h.live hl
  dead := mapV_of h.dead hd
  ne := h.ne
theorem PoolAt.below {w w' : World} {p : Nat} {ws : Int} {ml md : Option Nat} {L : List (Int × Int)} {D : List Int} (h : PoolAt w p ws ml md L D) (hb : Below w.heap.size w w') : PoolAt w' p ws ml md L D :=
  h.of_blocks (hb.block p h.lt) (fun b e => hb.block b (h.live_lt e).1) (fun b e => hb.block b (h.dead_lt e).1)

theorem zero_u64 (w : World) : (zeroValue 22).run Try.prog w = .ok (.int .u64 0) w := by kernel_rfl
theorem zero_bool (w : World) : (zeroValue 4).run Try.prog w = .ok (.bool false) w := by kernel_rfl
theorem keys64 : Keys Try.prog 22 (Value.int .u64) := int_keys Try.underlying22

theorem look_live {w : World} {m : Option Nat} {L : List (Int × Int)} (h : MapV w m (LV L)) (t : Int) :
    (Instr.lookup 157 (.map m) (.int .u64 t) true).run Try.prog w = .ok (.tuple #[.int .u64 (num t L), .bool (al t L)]) w := by
  cases m with
  | none =>
    have h0 : L = [] := by
      have : LV L = [] := h
      cases L with
      | nil => rfl
      | cons _ _ => cases this
    subst h0
    exact run_look_nil keys64 Try.underlying157 (zero_u64 w) t true
  | some b =>
    have h1 := run_look keys64 Try.underlying157 (zero_u64 w) (h : MapAt w b _ _) t true
    rw [look_LV] at h1
    rw [h1]
    unfold al num
    cases lk t L <;> rfl
theorem look_dead {w : World} {m : Option Nat} {D : List Int} (h : MapV w m (DV D)) (t : Int) :
    (Instr.lookup 158 (.map m) (.int .u64 t) false).run Try.prog w = .ok (.bool (decide (t ∈ D))) w := by
  cases m with
  | none =>
    have h0 : D = [] := by
      have : DV D = [] := h
      cases D with
      | nil => rfl
      | cons _ _ => cases this
    subst h0
    exact run_look_nil keys64 Try.underlying158 (zero_bool w) t false
  | some b =>
    have h1 := run_look keys64 Try.underlying158 (zero_bool w) (h : MapAt w b _ _) t false
    rw [look_DV] at h1
    rw [h1]
    by_cases hm : t ∈ D <;> simp [hm]

def toldB (t : Int) (L : List (Int × Int)) (D : List Int) : Bool := al t L || decide (t ∈ D)

section
variable {w : World} {p : Nat} {ws : Int} {ml md : Option Nat} {L : List (Int × Int)} {D : List Int}
theorem live (h : PoolAt w p ws ml md L D) (t : Int) : Calls Try.prog 131 #[.pointer (some ⟨p, 0, none⟩), .int .u64 t] w fun e w' => e = .returned (.tuple #[.int .u64 (num t L), .bool (al t L)]) ∧ w = w' := by
  have h1 := look_live h.live t
  have c1 := h.c1
  clear h
  go_enter Try.func131, Try.ntmps131
  go_wp2
  go_ret2
  exact ⟨rfl, rfl⟩
theorem told (h : PoolAt w p ws ml md L D) (t : Int) : Calls Try.prog 132 #[.pointer (some ⟨p, 0, none⟩), .int .u64 t] w fun e w' => e = .returned (.bool (toldB t L D)) ∧ w = w' := by
  have h1 := look_live h.live t
  have h2 := look_dead h.dead t
  have c1 := h.c1
  have c2 := h.c2
  have ht : toldB t L D = (al t L || decide (t ∈ D)) := rfl
  clear h
  cases hs : al t L
  all_goals
    rw [hs] at h1 ht
    have HT := Lib.hid ht
    clear hs ht
    go_enter Try.func132, Try.ntmps132
    go_wp2
    go_ret
    exact ⟨by rw [HT.out]; rfl, rfl⟩
def cl (n : Int) : Int := if n < 0 then 0 else if 4 < n then 4 else n
theorem new_at (w : World) (ws : Int) (t : TypeId) : PoolAt (w.alloc (.cells #[.int .i64 ws, .map none, .map none] t)) w.heap.size ws none none [] [] where
  c0 := by simp
  c1 := by simp
  c2 := by simp
  fr i := by simp
  live := rfl
  dead := rfl
  ne _ h := by cases h
theorem newPool (n : Int) (w : World) : Calls Try.prog 84 #[.int .i64 n] w fun e w' => e = .returned (.pointer (some ⟨w.heap.size, 0, none⟩)) ∧ PoolAt w' w.heap.size (cl n) none none [] [] ∧ Below w.heap.size w w' := by
  have h0 : n < 0 → cl n = 0 := fun h => by unfold cl; rw [if_pos h]
  have h4 : 4 < n → cl n = 4 := fun h => by unfold cl; rw [if_neg (by omega), if_pos h]
  have hn : 0 ≤ n → n ≤ 4 → cl n = n := fun h h' => by unfold cl; rw [if_neg (by omega), if_neg (by omega)]
  have H0 := Lib.hid h0
  have H4 := Lib.hid h4
  have HN := Lib.hid hn
  clear h0 h4 hn
  go_enter Try.func84, Try.ntmps84
  go_wp2
  · have h : n < 0 := by assumption
    go_ret
    exact ⟨rfl, by rw [H0.out h]; exact new_at w 0 _, (Below.refl _ _).alloc (Nat.le_refl _) _⟩
  · have h : 4 < n := by assumption
    go_ret
    exact ⟨rfl, by rw [H4.out h]; exact new_at w 4 _, (Below.refl _ _).alloc (Nat.le_refl _) _⟩
  · have h : 0 ≤ n := by assumption
    have h' : n ≤ 4 := by assumption
    go_ret
    exact ⟨rfl, by rw [HN.out h h']; exact new_at w n _, (Below.refl _ _).alloc (Nat.le_refl _) _⟩
theorem len_live {w : World} {m : Option Nat} {L : List (Int × Int)} (h : MapV w m (LV L)) (ty : TypeId) :
    (Builtin.len_ #[157] ty #[.map m]).run Try.prog w = .ok (.int .i64 L.length) w := by
  cases m with
  | none =>
    have h0 : L = [] := by
      have : LV L = [] := h
      cases L with
      | nil => rfl
      | cons _ _ => cases this
    subst h0
    exact run_len_nil Try.underlying157 ty
  | some b =>
    have h1 := run_len Try.underlying157 (h : MapAt w b _ _) ty
    rw [h1]; simp [LV]
end

/-- A slice of words reads as a list. -/
def SlI (w : World) (v : Value) (xs : List Int) : Prop :=
  ((∃ ad cap, v = .slice ad 0 cap) ∧ xs = []) ∨ ∃ b off cap, v = .slice (some ⟨b, off, none⟩) xs.length cap ∧ ∀ i, i < xs.length → w.cell? ⟨b, off + i, none⟩ = some (.int .u64 (xs.getD i 0))
def payB (ws x : Int) (xs : List Int) : Bool := decide ((xs.length : Int) = ws) && (List.range xs.length).all fun i => xs.getD i 0 == IntKind.u64.wrap (x + (i : Int))
theorem payB_len {ws x : Int} {xs : List Int} (h : ¬ (xs.length : Int) = ws) : payB ws x xs = false := by simp [payB, h]
theorem payB_bad {ws x : Int} {xs : List Int} {i : Nat} (hi : i < xs.length) (h : ¬ xs.getD i 0 = IntKind.u64.wrap (x + (i : Int))) : payB ws x xs = false := by
  unfold payB
  have : ((List.range xs.length).all fun i => xs.getD i 0 == IntKind.u64.wrap (x + (i : Int))) = false := by
    rw [List.all_eq_false]
    exact ⟨i, List.mem_range.2 hi, by simpa using h⟩
  rw [this]; simp
theorem payB_good {ws x : Int} {xs : List Int} (hl : (xs.length : Int) = ws) (h : ∀ i, i < xs.length → xs.getD i 0 = IntKind.u64.wrap (x + (i : Int))) : payB ws x xs = true := by
  unfold payB
  simp only [hl, decide_true, Bool.true_and, List.all_eq_true, List.mem_range, beq_iff_eq]
  exact h
def AllPay (x : Int) (xs : List Int) (k : Nat) : Prop := ∀ i, i < k → xs.getD i 0 = IntKind.u64.wrap (x + (i : Int))

theorem allPay_succ {x : Int} {xs : List Int} {k : Nat} (h : AllPay x xs k) (he : xs.getD k 0 = IntKind.u64.wrap (x + (k : Int))) : AllPay x xs (k + 1) := fun i hi => by
  rcases Nat.lt_succ_iff_lt_or_eq.1 hi with h' | rfl
  · exact h i h'
  · exact he
theorem isPayload (ws x : Int) (v : Value) (xs : List Int) (w : World) (hv : SlI w v xs) (hn : xs.length ≤ 1000000) :
    Calls Try.prog 133 #[.int .i64 ws, .int .u64 x, v] w fun e w' => e = .returned (.bool (payB ws x xs)) ∧ w = w' := by
  rcases hv with ⟨⟨ad, cap, rfl⟩, rfl⟩ | ⟨b, off, cap, rfl, hc⟩
  · by_cases hw : (0 : Int) = ws
    · subst hw
      go_enter Try.func133, Try.ntmps133
      go_wp2
      refine wp_loop_rounds 1 ?_
      rw [rounds_succ]
      go_wp2
      go_ret
      exact ⟨rfl, rfl⟩
    · have h1 : ((0 : Int) != ws) = true := by simpa using hw
      have H := Lib.hid (payB_len (x := x) (xs := []) (ws := ws) (by simpa using hw))
      clear hw
      go_enter Try.func133, Try.ntmps133
      go_wp2
      go_ret
      exact ⟨by rw [H.out]; rfl, rfl⟩
  · by_cases hw : (xs.length : Int) = ws
    · have h1 : ((xs.length : Int) != ws) = false := by simpa using hw
      have HW := Lib.hid hw
      clear hw
      go_enter Try.func133, Try.ntmps133
      go_wp2
      go_loop [7, 8, 15] (fun _ _ i => ∃ k : Nat, k ≤ xs.length ∧ i = .int .i64 k ∧ AllPay x xs k) (fun _ _ i => xs.length - (intOf i).toNat)
      case atStart => exact ⟨0, Nat.zero_le _, rfl, fun i hi => absurd hi (Nat.not_lt_zero i)⟩
      case round =>
        obtain ⟨k, hk, rfl, hall⟩ := hrel
        by_cases hlt : k < xs.length
        · have hcell := hc k hlt
          have HA := Lib.hid hall
          clear hall
          by_cases heq : xs.getD k 0 = IntKind.u64.wrap (x + (k : Int))
          · have he : (xs.getD k 0 != IntKind.u64.wrap (x + (k : Int))) = false := by simpa using heq
            have HE := Lib.hid heq
            clear heq hc
            generalize hy : xs.getD k 0 = y at *
            have HY := Lib.hid hy
            clear hy
            go_wp2
            go_round
            case rel => exact ⟨k + 1, by omega, by go_num, allPay_succ HA.out (HY.out.trans HE.out)⟩
            case measure => simp [intOf]; omega
          · have he : (xs.getD k 0 != IntKind.u64.wrap (x + (k : Int))) = true := by simpa using heq
            have HB := Lib.hid (payB_bad (ws := ws) hlt heq)
            clear heq hc
            generalize hy : xs.getD k 0 = y at *
            clear hy
            go_wp2
            go_ret
            exact ⟨by rw [HB.out]; rfl, rfl⟩
        · have hk' : k = xs.length := by omega
          have HG := Lib.hid (payB_good HW.out (hk' ▸ hall))
          clear hk' hall
          go_wp2
          go_ret
          exact ⟨by rw [HG.out]; rfl, rfl⟩
    · have h1 : ((xs.length : Int) != ws) = true := by simpa using hw
      have H := Lib.hid (payB_len (x := x) (xs := xs) (ws := ws) hw)
      clear hw
      go_enter Try.func133, Try.ntmps133
      go_wp2
      go_ret
      exact ⟨by rw [H.out]; rfl, rfl⟩
end Go.Proofs.Ytgpdkagmacpghaa.Idl

/- The free list in the words, as a function. -/
import Derived.Test.YtgpdkagmacpghaaStacks
import Derived.Test.YtgpdkagmacpghaaBagWt
import Derived.Test.YtgpdkagmacpghaaGuardSee0
namespace Go.Proofs.Ytgpdkagmacpghaa.Me
open Go Go.RowKit Go.Proofs.Ytgpdkagmacpghaa.Gro Go.Proofs.Ytgpdkagmacpghaa.Own Go.Proofs.Ytgpdkagmacpghaa.Wd Go.Proofs.Ytgpdkagmacpghaa.Ap Go.Proofs.Ytgpdkagmacpghaa.Pl Go.Proofs.Ytgpdkagmacpghaa.Wo
set_option linter.unusedVariables false
set_option linter.unusedSimpArgs false
/-- The list, followed from 'next': k is one more than the number of places not yet seen. -/
def walkL (nx : Nat → Int) : Nat → List Bool → List Int → Int → Option (List Int)
  | 0, _, _, _ => none
  | k + 1, seen, out, next => if next < 0 then some out else if (seen.length : Int) ≤ next ∨ seen.getD next.toNat true = true then none else walkL nx k (seen.set next.toNat true) (out ++ [next]) (nx next.toNat)
def lsN (c : Cfg) (e : Bool) : Int := if e then c.en else tot c
def lsNx (c : Cfg) (L : List Int) (e : Bool) (i : Nat) : Int := low32 (L.getD (skLk c e i).toNat 0) - 1
def listR (c : Cfg) (L : List Int) (e : Bool) : Option (List Int) :=
  if chk c = 0 ∧ (L.length : Int) = siz c then walkL (lsNx c L e) ((lsN c e).toNat + 1) (List.replicate (lsN c e).toNat false) [] (low32 (L.getD (skH e).toNat 0) - 1) else none
theorem walk_end {nx : Nat → Int} {k : Nat} {seen : List Bool} {out : List Int} {next : Int} (h : next < 0) : walkL nx (k + 1) seen out next = some out := by rw [walkL, if_pos h]
theorem walk_out {nx : Nat → Int} {k : Nat} {seen : List Bool} {out : List Int} {n : Nat} (h : seen.length ≤ n) : walkL nx (k + 1) seen out (n : Int) = none := by
  rw [walkL, if_neg (by omega), if_pos (.inl (by omega))]
theorem walk_twice {nx : Nat → Int} {k : Nat} {seen : List Bool} {out : List Int} {n : Nat} (h : n < seen.length) (hs : seen[n] = true) : walkL nx (k + 1) seen out (n : Int) = none := by
  rw [walkL, if_neg (by omega), if_pos (.inr (by simp [List.getD_eq_getElem?_getD, h, hs]))]
theorem walk_on {nx : Nat → Int} {k : Nat} {seen : List Bool} {out : List Int} {n : Nat} (h : n < seen.length) (hs : seen[n] = false) : walkL nx (k + 1) seen out (n : Int) = walkL nx k (seen.set n true) (out ++ [(n : Int)]) (nx n) := by
  rw [walkL, if_neg (by omega), if_neg (by
    rintro (q | q)
    · omega
    · simp [List.getD_eq_getElem?_getD, h, hs] at q)]
  simp
theorem free_less {seen : List Bool} {n : Nat} (h : n < seen.length) (hs : seen[n] = false) : (seen.set n true).count false + 1 = seen.count false := by
  have := List.count_set (a := true) (b := false) h
  have h0 : 0 < seen.count false := List.count_pos_iff.2 (by rw [← hs]; exact List.getElem_mem h)
  rw [hs] at this
  simp at this
  omega
def ListPost (c : Cfg) (L : List Int) (e : Bool) (w : World) (en : Ending) (w' : World) : Prop :=
  ∃ y : Sl, en = .returned (.tuple #[y.v, .bool (listR c L e).isSome]) ∧ Owned w.heap.size w' .i64 3 y ((listR c L e).getD []) ∧ Below w.heap.size w w'
theorem list_no {c : Cfg} {L : List Int} {e : Bool} {f : FuncId} {args : Array Value} {w : World} (h : listR c L e = none) (hc : Calls Try.prog f args w (fun en w' => en = .returned (.tuple #[.slice none 0 0, .bool false]) ∧ Below w.heap.size w w')) : Calls Try.prog f args w (ListPost c L e w) :=
  hc.mono fun en w' ⟨h1, h2⟩ => ⟨nilS, by rw [h]; exact h1, by rw [h]; exact Owned.nil, h2⟩
/-- What the loop knows of the words. -/
theorem lsN_le (c : Cfg) (h : chk c = 0) (e : Bool) : 0 ≤ lsN c e ∧ lsN c e ≤ 1000 := by
  have hok := chk_ok.1 h
  unfold lsN
  cases e
  · have := tot_range c; simp; omega
  · have := hok.en; simp; omega
theorem lk_in {c : Cfg} {L : List Int} {e : Bool} (h : chk c = 0) (hs : (L.length : Int) = siz c) {n : Nat} (hn : (n : Int) < lsN c e) : ∃ j : Nat, skLk c e (n : Int) = (j : Int) ∧ j < L.length := by
  have hok := chk_ok.1 h
  have hb := okB_of_ok hok
  have h1 := hok.ww
  have h2 := hok.sl
  have h3 := hok.bl
  have h4 := hok.wd
  have h5 := hok.en
  have m1 := mul_range (a := c.sl) (b := c.bl) (A := 8) (B := 16) (by omega) (by omega) (by omega) (by omega)
  have hsz : siz c = 3 + c.ww + c.sl + 2 * c.en + c.sl * c.bl * (1 + c.wd) := by rw [siz, if_pos hb]
  have m2 := mul_range (a := c.sl * c.bl) (b := 1 + c.wd) (A := 128) (B := 5) (by omega) (by omega) (by omega) (by omega)
  cases e
  · have ht : tot c = c.sl * c.bl := (tot_ok hb).1
    simp only [lsN, Bool.false_eq_true, if_false] at hn
    have hh : hasB c (n : Int) (tot c) = true := by unfold hasB; rw [hb]; simp; omega
    have e1 : skLk c false (n : Int) = 3 + c.ww + c.sl + 2 * c.en + (n : Int) * (1 + c.wd) := by simp only [skLk, Bool.false_eq_true, if_false]; rw [aBlk, if_pos hh]
    have m3 : (n : Int) * (1 + c.wd) + (1 + c.wd) ≤ c.sl * c.bl * (1 + c.wd) := by
      have : ((n : Int) + 1) * (1 + c.wd) ≤ c.sl * c.bl * (1 + c.wd) := Int.mul_le_mul_of_nonneg_right (by omega) (by omega)
      rw [Int.add_mul, Int.one_mul] at this
      exact this
    have m4 : 0 ≤ (n : Int) * (1 + c.wd) := Int.mul_nonneg (by omega) (by omega)
    exact ⟨(skLk c false (n : Int)).toNat, by omega, by omega⟩
  · simp only [lsN, if_true] at hn
    have hh : hasB c (n : Int) c.en = true := by unfold hasB; rw [hb]; simp; omega
    have e1 : skLk c true (n : Int) = 3 + c.ww + c.sl + 2 * (n : Int) + 1 := by simp only [skLk, if_true]; rw [aEnl, if_pos hh]
    exact ⟨(skLk c true (n : Int)).toNat, by omega, by omega⟩
theorem siz_ge {c : Cfg} (h : chk c = 0) : 3 ≤ siz c := by
  have hok := chk_ok.1 h
  have h1 := hok.ww
  have h2 := hok.sl
  have h3 := hok.bl
  have h4 := hok.wd
  have h5 := hok.en
  have m1 := mul_range (a := c.sl) (b := c.bl) (A := 8) (B := 16) (by omega) (by omega) (by omega) (by omega)
  have m2 := mul_range (a := c.sl * c.bl) (b := 1 + c.wd) (A := 128) (B := 5) (by omega) (by omega) (by omega) (by omega)
  rw [siz, if_pos (okB_of_ok hok)]
  omega
theorem new_one (w : World) (v : Value) (t : TypeId) : (w.alloc (.cells #[v] t)).cell? ⟨w.heap.size, 0, none⟩ = some v := by
  rw [cell_of_row _ _ _ #[v] t (0, 0) (heap_alloc_new w _)]; rfl
theorem own_one {B n : Nat} {w : World} {t : TypeId} {y : Sl} {L : List Int} {b : Int} (h : w.ownsRow B t 1 y.v (n + 1) ((L ++ [b]).map (.int .i64))) : Owned B w .i64 t y (L ++ [b]) := by
  have e : n + 1 = (L ++ [b]).length := by have := h.1; simpa using this.symm
  unfold Owned
  rw [← e]
  exact h
theorem low32_lt (v : Int) : 0 ≤ low32 v ∧ low32 v < 4294967296 := by unfold low32; omega
end Go.Proofs.Ytgpdkagmacpghaa.Me

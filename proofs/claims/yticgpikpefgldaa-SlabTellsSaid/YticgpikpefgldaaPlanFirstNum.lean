/- The first contents of the memory, as plan makes them and as the reference lists them; no Go in this text. -/
import Derived.Test.YticgpikpefgldaaRefAtNum
namespace Go.Proofs.Yticgpikpefgldaa.Pl
open Go
set_option linter.unusedVariables false

def pairAt (N : Nat) (a : Nat) : List Int := [1048576, if a + 1 < N then (a : Int) + 2 else 0]
/-- After k entries. -/
def F (W S N R k : Nat) : List Int := ([2, 0, 1] ++ List.replicate (W + S) 0 ++ (List.range k).flatMap (pairAt N)) ++ List.replicate (2 * (N - k) + R) 0
def prew (W S N k : Nat) : List Int := [2, 0, 1] ++ List.replicate (W + S) 0 ++ (List.range k).flatMap (pairAt N)
theorem prew_len (W S N k : Nat) : (prew W S N k).length = 3 + W + S + 2 * k := by
  simp only [prew, List.length_append, List.length_cons, List.length_nil, List.length_replicate, List.length_flatMap, pairAt]
  rw [sum_const]; omega
theorem F_eq (W S N R k : Nat) : F W S N R k = prew W S N k ++ List.replicate (2 * (N - k) + R) 0 := rfl
theorem F_len (W S N R k : Nat) (h : k ≤ N) : (F W S N R k).length = 3 + W + S + 2 * N + R := by
  rw [F_eq, List.length_append, prew_len, List.length_replicate]; omega
theorem set_mid (X Y : List Int) (v y : Int) (i : Nat) (h : i = X.length) : (X ++ y :: Y).set i v = X ++ v :: Y := by
  subst h; simp
theorem F_split (W S N R k : Nat) (h : k < N) : F W S N R k = prew W S N k ++ 0 :: 0 :: List.replicate (2 * (N - (k + 1)) + R) 0 := by
  rw [F_eq, show 2 * (N - k) + R = (2 * (N - (k + 1)) + R) + 1 + 1 by omega, List.replicate_succ, List.replicate_succ]
theorem F_succ (W S N R k : Nat) (h : k < N) : F W S N R (k + 1) = prew W S N k ++ 1048576 :: (if k + 1 < N then (k : Int) + 2 else 0) :: List.replicate (2 * (N - (k + 1)) + R) 0 := by
  rw [F_eq]
  simp [prew, List.range_succ, pairAt]
theorem F_set1 (W S N R k i : Nat) (h : k < N) (hi : i = 3 + W + S + 2 * k) : (F W S N R k).set i 1048576 = prew W S N k ++ 1048576 :: 0 :: List.replicate (2 * (N - (k + 1)) + R) 0 := by
  rw [F_split _ _ _ _ _ h, set_mid _ _ _ _ _ (by rw [prew_len]; exact hi)]
theorem F_set2 (W S N R k j : Nat) (h : k < N) (h2 : k + 1 < N) (hj : j = 3 + W + S + 2 * k + 1) : (prew W S N k ++ 1048576 :: 0 :: List.replicate (2 * (N - (k + 1)) + R) 0).set j ((k : Int) + 2) = F W S N R (k + 1) := by
  rw [F_succ _ _ _ _ _ h, if_pos h2]
  have := set_mid (prew W S N k ++ [1048576]) (List.replicate (2 * (N - (k + 1)) + R) 0) ((k : Int) + 2) 0 j (by rw [List.length_append, prew_len, hj]; rfl)
  simpa using this
theorem F_last (W S N R k : Nat) (h : k < N) (h2 : ¬ k + 1 < N) : prew W S N k ++ 1048576 :: 0 :: List.replicate (2 * (N - (k + 1)) + R) 0 = F W S N R (k + 1) := by
  rw [F_succ _ _ _ _ _ h, if_neg h2]
theorem F_zero (W S N R : Nat) : F W S N R 0 = ((List.replicate (3 + W + S + 2 * N + R) (0 : Int)).set 0 2).set 2 1 := by
  rw [F_eq, show 3 + W + S + 2 * N + R = (W + S + (2 * N + R)) + 1 + 1 + 1 by omega, List.replicate_succ, List.replicate_succ, List.replicate_succ, ← List.replicate_append_replicate]
  simp [prew]
/-- The value of a word by what it is. -/
def fv (N : Int) (s : Spot) : Int := if s.1 = 0 then (if s.2.1 = 0 then 2 else if s.2.1 = 2 then 1 else 0) else if s.1 = 3 then 1048576 else if s.1 = 4 ∧ s.2.1 < N - 1 then s.2.1 + 2 else 0
def first (c : Cfg) : List Int := (spots c).map (fv c.en)
theorem flatMap_zero {α : Type} (G : α → List Spot) (N : Int) (d : Nat) (hd : ∀ a, (G a).length = d) (h : ∀ a, ∀ s ∈ G a, fv N s = 0) : ∀ l : List α, (l.flatMap G).map (fv N) = List.replicate (d * l.length) 0
  | [] => by simp
  | a :: r => by
    rw [List.flatMap_cons, List.map_append, flatMap_zero G N d hd h r, List.length_cons, Nat.mul_succ, Nat.add_comm, ← List.replicate_append_replicate]
    congr 1
    rw [← hd a]
    exact List.eq_replicate_iff.2 ⟨by simp, fun x hx => by
      obtain ⟨s, hs, rfl⟩ := List.mem_map.1 hx
      exact h a s hs⟩
theorem flatMap_pair (N : Nat) : ∀ l : List Nat, ((l.flatMap fun (a : Nat) => [((3 : Int), (a : Int), (0 : Int)), (4, (a : Int), 0)]).map (fv (N : Int))) = l.flatMap (pairAt N)
  | [] => rfl
  | a :: r => by
    rw [List.flatMap_cons, List.map_append, flatMap_pair N r, List.flatMap_cons]
    congr 1
    simp only [List.map_cons, List.map_nil, pairAt, fv]
    by_cases h : a + 1 < N
    · simp [h]; omega
    · simp [h]; omega
theorem first_eq {c : Cfg} (h : Ok c) : first c = F c.ww.toNat c.sl.toNat c.en.toNat ((c.wd.toNat + 1) * (c.sl * c.bl).toNat) c.en.toNat := by
  have he := h.en
  obtain ⟨N, hN⟩ := Int.eq_ofNat_of_zero_le (a := c.en) (by omega)
  unfold first
  rw [spots_eq, hN]
  simp only [Int.toNat_natCast, List.map_append]
  rw [F_eq, prew]
  have e1 : (M1 c.ww.toNat).map (fv (N : Int)) = List.replicate c.ww.toNat 0 := by
    unfold M1; rw [flatMap_zero _ _ 1 (fun _ => rfl) (fun a s hs => by simp at hs; subst hs; simp [fv])]; simp
  have e2 : (M2 c.sl.toNat).map (fv (N : Int)) = List.replicate c.sl.toNat 0 := by
    unfold M2; rw [flatMap_zero _ _ 1 (fun _ => rfl) (fun a s hs => by simp at hs; subst hs; simp [fv])]; simp
  have e4 : (M4 c.wd.toNat (c.sl * c.bl).toNat).map (fv (N : Int)) = List.replicate ((c.wd.toNat + 1) * (c.sl * c.bl).toNat) 0 := by
    unfold M4; rw [flatMap_zero _ _ (c.wd.toNat + 1) (fun x => by rw [List.length_cons, wrd_len]) (fun a s hs => by
      rcases List.mem_cons.1 hs with rfl | hs
      · simp [fv]
      · obtain ⟨b, _, rfl⟩ := List.mem_map.1 hs; simp [fv])]; simp
  have e3 : (M3 N).map (fv (N : Int)) = (List.range N).flatMap (pairAt N) := flatMap_pair N _
  rw [e1, e2, e3, e4, ← List.replicate_append_replicate]
  simp [S0, fv]
end Go.Proofs.Yticgpikpefgldaa.Pl

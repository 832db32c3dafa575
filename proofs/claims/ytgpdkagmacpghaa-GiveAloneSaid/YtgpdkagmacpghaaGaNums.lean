/- The free list as a path: what it is to follow the links, and what a push does. -/
import Derived.Test.YtgpdkagmacpghaaStkNum
import Derived.Test.YtgpdkagmacpghaaGives
import Derived.Test.YtgpdkagmacpghaaStackAwake
import Derived.Test.YtgpdkagmacpghaaMemFirstWalk
namespace Go.Proofs.Ytgpdkagmacpghaa.Me
open Go Go.RowKit Go.Proofs.Ytgpdkagmacpghaa.Gro Go.Proofs.Ytgpdkagmacpghaa.Own Go.Proofs.Ytgpdkagmacpghaa.Wd Go.Proofs.Ytgpdkagmacpghaa.Ap Go.Proofs.Ytgpdkagmacpghaa.Pl Go.Proofs.Ytgpdkagmacpghaa.Wo
set_option linter.unusedVariables false
set_option linter.unusedSimpArgs false
/-- The links lead from 'next' through the list to its end. -/
def Path (nx : Nat → Int) : Int → List Int → Prop
  | next, [] => next < 0
  | next, k :: r => next = k ∧ 0 ≤ k ∧ Path nx (nx k.toNat) r
theorem Path.congr {nx nx' : Nat → Int} : ∀ {r : List Int} {next : Int}, Path nx next r → (∀ k ∈ r, nx k.toNat = nx' k.toNat) → Path nx' next r
  | [], _, h, _ => h
  | k :: r, next, ⟨h1, h2, h3⟩, he => ⟨h1, h2, by rw [← he k List.mem_cons_self]; exact h3.congr (fun j hj => he j (List.mem_cons_of_mem _ hj))⟩
theorem set_getD {l : List Bool} {i j : Nat} {x d : Bool} : (l.set i x).getD j d = if j = i ∧ i < l.length then x else l.getD j d := by
  rw [List.getD_eq_getElem?_getD, List.getElem?_set, List.getD_eq_getElem?_getD]
  by_cases h : i = j
  · subst h
    by_cases hl : i < l.length
    · simp [hl]
    · simp [hl]
  · rw [if_neg h, if_neg (fun q => h q.1.symm)]
/-- What walkL gives, said of the path. -/
theorem walk_path {nx : Nat → Int} : ∀ (f : Nat) (seen : List Bool) (out : List Int) (next : Int) (res : List Int), walkL nx f seen out next = some res → ∃ r, res = out ++ r ∧ Path nx next r ∧ r.Nodup ∧ (∀ k ∈ r, k.toNat < seen.length ∧ seen.getD k.toNat true = false) ∧ r.length < f
  | 0, _, _, _, _, h => by cases h
  | f + 1, seen, out, next, res, h => by
    rw [walkL] at h
    by_cases hn : next < 0
    · rw [if_pos hn] at h
      simp only [Option.some.injEq] at h
      exact ⟨[], (by simp [h]), hn, List.nodup_nil, (fun k hk => by cases hk), Nat.succ_pos _⟩
    · rw [if_neg hn] at h
      by_cases hs : (seen.length : Int) ≤ next ∨ seen.getD next.toNat true = true
      · rw [if_pos hs] at h
        cases h
      · rw [if_neg hs] at h
        obtain ⟨r, h1, h2, h3, h4, h5⟩ := walk_path f _ _ _ _ h
        have hl : next.toNat < seen.length := by omega
        have hf : seen.getD next.toNat true = false := by
          cases hq : seen.getD next.toNat true with
          | false => rfl
          | true => exact absurd (Or.inr hq) hs
        have hall : ∀ k ∈ r, k.toNat ≠ next.toNat ∧ k.toNat < seen.length ∧ seen.getD k.toNat true = false := fun k hk => by
          obtain ⟨q1, q2⟩ := h4 k hk
          rw [set_getD] at q2
          rw [List.length_set] at q1
          by_cases he : k.toNat = next.toNat
          · rw [if_pos ⟨he, hl⟩] at q2
            cases q2
          · rw [if_neg (fun q => he q.1)] at q2
            exact ⟨he, q1, q2⟩
        refine ⟨next :: r, by rw [h1, List.append_assoc]; rfl, ⟨rfl, by omega, h2⟩, List.nodup_cons.2 ⟨fun hm => (hall next hm).1 rfl, h3⟩, fun k hk => ?_, by simp; omega⟩
        rcases List.mem_cons.1 hk with rfl | hk
        · exact ⟨hl, hf⟩
        · exact (hall k hk).2
theorem Path.pos {nx : Nat → Int} : ∀ {r : List Int} {next : Int}, Path nx next r → ∀ k ∈ r, 0 ≤ k
  | [], _, _, k, hk => by cases hk
  | a :: r, next, ⟨_, h2, h3⟩, k, hk => by
    rcases List.mem_cons.1 hk with rfl | hk
    · exact h2
    · exact h3.pos k hk
theorem path_walk {nx : Nat → Int} : ∀ (r : List Int) (f : Nat) (seen : List Bool) (out : List Int) (next : Int), Path nx next r → r.Nodup → (∀ k ∈ r, k.toNat < seen.length ∧ seen.getD k.toNat true = false) → r.length < f → walkL nx f seen out next = some (out ++ r)
  | [], f + 1, seen, out, next, h, _, _, _ => by
    have h' : next < 0 := h
    rw [walkL, if_pos h', List.append_nil]
  | k :: r, f + 1, seen, out, next, ⟨h1, h2, h3⟩, hn, ha, hf => by
    subst h1
    obtain ⟨q1, q2⟩ := ha next List.mem_cons_self
    obtain ⟨n1, n2⟩ := List.nodup_cons.1 hn
    rw [walkL, if_neg (by omega), if_neg (by
      rintro (q | q)
      · omega
      · rw [q2] at q
        cases q)]
    have hall : ∀ k ∈ r, k.toNat < (seen.set next.toNat true).length ∧ (seen.set next.toNat true).getD k.toNat true = false := fun k hk => by
      obtain ⟨p1, p2⟩ := ha k (List.mem_cons_of_mem _ hk)
      rw [List.length_set, set_getD, if_neg (fun q => ?_)]
      · exact ⟨p1, p2⟩
      · have h0 := h3.pos k hk
        have : k = next := by omega
        subst this
        exact n1 hk
    rw [path_walk r f _ _ _ h3 n2 hall (by simp at hf; omega), List.append_assoc]
    rfl
  | _, 0, _, _, _, _, _, _, h => by omega
theorem rep_getD (n i : Nat) : (List.replicate n false).getD i true = if i < n then false else true := by
  rw [List.getD_eq_getElem?_getD, List.getElem?_replicate]
  split <;> rfl
/-- A list of different numbers below n has no more than n of them. -/
theorem nodup_le : ∀ (n : Nat) (l : List Int), l.Nodup → (∀ k ∈ l, 0 ≤ k ∧ k < (n : Int)) → l.length ≤ n
  | 0, l, _, h => by
    cases l with
    | nil => simp
    | cons a r =>
      have := h a List.mem_cons_self
      omega
  | n + 1, l, hn, h => by
    have h1 := nodup_le n (l.erase (n : Int)) (hn.erase _) (fun k hk => by
      have hm := List.mem_of_mem_erase hk
      have hne : k ≠ (n : Int) := fun e => by
        subst e
        exact absurd hk (hn.not_mem_erase)
      have := h k hm
      omega)
    have h2 : l.length ≤ (l.erase (n : Int)).length + 1 := by
      rw [List.length_erase]
      split <;> omega
    omega
/-- What it is to be a valid free list. -/
structure Lst (c : Cfg) (L : List Int) (e : Bool) (l : List Int) : Prop where
  ok : chk c = 0
  len : (L.length : Int) = siz c
  path : Path (lsNx c L e) (low32 (L.getD (hdN e) 0) - 1) l
  nodup : l.Nodup
  below : ∀ k ∈ l, 0 ≤ k ∧ k < lsN c e
theorem lst_of {c : Cfg} {L : List Int} {e : Bool} {l : List Int} (h : listR c L e = some l) : Lst c L e l := by
  unfold listR at h
  split at h
  · rename_i hc
    obtain ⟨r, h1, h2, h3, h4, _⟩ := walk_path _ _ _ _ _ h
    rw [List.nil_append] at h1
    subst h1
    have hhd : (skH e).toNat = hdN e := by cases e <;> rfl
    rw [hhd] at h2
    refine ⟨hc.1, hc.2, h2, h3, fun k hk => ⟨h2.pos k hk, ?_⟩⟩
    have := (h4 k hk).1
    rw [List.length_replicate] at this
    have h0 := h2.pos k hk
    have := (lsN_le c hc.1 e).1
    omega
  · cases h
theorem Lst.list {c : Cfg} {L : List Int} {e : Bool} {l : List Int} (h : Lst c L e l) : listR c L e = some l := by
  unfold listR
  rw [if_pos ⟨h.ok, h.len⟩]
  have hhd : (skH e).toNat = hdN e := by cases e <;> rfl
  have h0 := (lsN_le c h.ok e).1
  have ha : ∀ k ∈ l, k.toNat < (List.replicate (lsN c e).toNat false).length ∧ (List.replicate (lsN c e).toNat false).getD k.toNat true = false := fun k hk => by
    obtain ⟨q1, q2⟩ := h.below k hk
    rw [List.length_replicate, rep_getD, if_pos (by omega)]
    exact ⟨by omega, rfl⟩
  have hf : l.length < (lsN c e).toNat + 1 := by
    have := nodup_le (lsN c e).toNat l h.nodup (fun k hk => by have := h.below k hk; omega)
    omega
  rw [hhd, path_walk l _ _ _ _ h.path h.nodup ha hf, List.nil_append]
/-- A change that leaves the head and the list's links leaves the list. -/
theorem Lst.keep {c : Cfg} {L L' : List Int} {e : Bool} {l : List Int} (h : Lst c L e l) (hl : L'.length = L.length) (h0 : L'.getD (hdN e) 0 = L.getD (hdN e) 0) (hn : ∀ k ∈ l, lsNx c L' e k.toNat = lsNx c L e k.toNat) : Lst c L' e l :=
  ⟨h.ok, by rw [hl]; exact h.len, by rw [h0]; exact h.path.congr (fun k hk => (hn k hk).symm), h.nodup, h.below⟩
/-- A push. -/
theorem Lst.push {c : Cfg} {L L' : List Int} {e : Bool} {l : List Int} (h : Lst c L e l) (hl : L'.length = L.length) {b : Int} (hb : 0 ≤ b ∧ b < lsN c e) (hm : b ∉ l) (h0 : low32 (L'.getD (hdN e) 0) = b + 1) (hb' : lsNx c L' e b.toNat = low32 (L.getD (hdN e) 0) - 1) (hn : ∀ k ∈ l, lsNx c L' e k.toNat = lsNx c L e k.toNat) : Lst c L' e (b :: l) :=
  ⟨h.ok, by rw [hl]; exact h.len, ⟨by rw [h0]; omega, hb.1, by rw [hb']; exact h.path.congr (fun k hk => (hn k hk).symm)⟩, List.nodup_cons.2 ⟨hm, h.nodup⟩, fun k hk => by
    rcases List.mem_cons.1 hk with rfl | hk
    · exact hb
    · exact h.below k hk⟩
end Go.Proofs.Ytgpdkagmacpghaa.Me

/- GiveAlone: what a worker alone does to the words and its lists, block by block. -/
namespace Go.Proofs.Ytgpdkagmacpghaa.Me
open Go Go.RowKit Go.Proofs.Ytgpdkagmacpghaa.Gro Go.Proofs.Ytgpdkagmacpghaa.Own Go.Proofs.Ytgpdkagmacpghaa.Wd Go.Proofs.Ytgpdkagmacpghaa.Ap Go.Proofs.Ytgpdkagmacpghaa.Pl Go.Proofs.Ytgpdkagmacpghaa.Wo
set_option linter.unusedVariables false
set_option linter.unusedSimpArgs false
/-- The word of a slab. -/
def wdA (c : Cfg) (j : Nat) : Nat := 3 + c.ww.toNat + j
def wdS (c : Cfg) (L : List Int) (j : Nat) : Int := L.getD (wdA c j) 0
def gX (l k V : Int) (rk hl : List Int) : St := ⟨{ pz with ln := l, k := k, v := V }, rk, [], [], [], hl, []⟩
structure GInv (c : Cfg) (L : List Int) (D : Nat → Int) (w : List Int) : Prop where
  lst : Lst c L false w
  wr : WR L
  slab : ∀ j : Nat, (j : Int) < c.sl → (D j < 0 ∧ wdS c L j % 16 ≠ 2) ∨ (0 < D j ∧ D j ≤ c.bl ∧ wdS c L j % 16 = 2 ∧ wdS c L j / 16 % 4096 = c.bl - D j) ∨ (D j = 0 ∧ wdS c L j % 16 = 3)
/-- In so many steps the worker is done, and F holds. -/
inductive Gets (c : Cfg) (F : List Int → St → Prop) : Nat → List Int → St → Int → Prop
  | done {m : Nat} {L : List Int} {x : St} : F L x → Gets c F m L x 1
  | step {m : Nat} {L : List Int} {x : St} (r : Rs) (hx : Few 800 x) (hp : PR x.p) (ha : ∀ a, giveLn c a L x = r) (hk : r.ok = true) (hl : r.L.length = L.length) (hw : WR r.L) (h : Gets c F m r.L r.x r.way) : Gets c F (m + 1) L x 0
theorem Gets.mono {c : Cfg} {F : List Int → St → Prop} {m : Nat} {L : List Int} {x : St} {w : Int} (h : Gets c F m L x w) : ∀ {m' : Nat}, m ≤ m' → Gets c F m' L x w := by
  induction h with
  | done h => exact fun _ => .done h
  | step r hx hp ha hk hl hw h ih =>
    intro m' hm
    cases m' with
    | zero => omega
    | succ m' => exact .step r hx hp ha hk hl hw (ih (by omega))
theorem tot_eq {c : Cfg} (h : chk c = 0) : tot c = c.sl * c.bl ∧ 0 ≤ c.sl * c.bl ∧ c.sl * c.bl ≤ 128 := tot_ok (okB_of_ok (chk_ok.1 h))
theorem home {c : Cfg} {L : List Int} (h : chk c = 0) (hs : (L.length : Int) = siz c) {b : Int} (hb : 0 ≤ b ∧ b < tot c) : ∃ j : Nat, (j : Int) = b / c.bl ∧ (j : Int) < c.sl ∧ slHome c (b + 1) = (wdA c j : Int) ∧ wdA c j < L.length := by
  have hok := chk_ok.1 h
  have hbl := hok.bl
  have hww := hok.ww
  have ht := tot_eq h
  have h0 : 0 ≤ b / c.bl := Int.ediv_nonneg hb.1 (by omega)
  have h1 : b / c.bl < c.sl := Int.ediv_lt_of_lt_mul (by omega) (by omega)
  refine ⟨(b / c.bl).toNat, by omega, by omega, ?_, ?_⟩
  · unfold slHome
    have e : wrap64 (b + 1 - 1) = b := by rw [show b + 1 - 1 = b by omega]; exact IntWalk.wrap64_in b (by omega)
    rw [e]
    have hh : hasB c b (tot c) = true := by unfold hasB; rw [okB_of_ok hok]; simp; omega
    rw [aHom, if_pos hh]
    have hh2 : hasB c (b / c.bl) c.sl = true := by unfold hasB; rw [okB_of_ok hok]; simp; omega
    rw [aSlab, if_pos hh2]
    unfold wdA
    omega
  · have hen := hok.en
    have hwd := hok.wd
    have m2 : 0 ≤ c.sl * c.bl * (1 + c.wd) := Int.mul_nonneg (by omega) (by omega)
    rw [siz, if_pos (okB_of_ok hok)] at hs
    unfold wdA
    omega
theorem ldV_nat {L : List Int} {k : Nat} (h : k < L.length) : ldV L (k : Int) = L.getD k 0 := by
  unfold ldV
  rw [if_pos (by omega)]
  rfl
theorem few_g {l k V : Int} {rk hl : List Int} (h1 : rk.length ≤ 4) (h2 : hl.length ≤ 20) : Few 800 (gX l k V rk hl) := ⟨by show rk.length ≤ 800; omega, Nat.zero_le _, Nat.zero_le _, Nat.zero_le _, by show hl.length ≤ 800; omega, Nat.zero_le _⟩
theorem pr_g {l k V : Int} {rk hl : List Int} (hv : 0 ≤ V ∧ V < 18446744073709551616) : PR (gX l k V rk hl).p  :=
  have z : (0 : Int) ≤ 0 ∧ (0 : Int) < 18446744073709551616 := by decide
  ⟨z, z, z, hv, z, z, z⟩
/-- Line 39 of a block whose slab is not draining, the rack having room. -/
theorem ga_put {c : Cfg} {L : List Int} {b V : Int} {rk hl : List Int} (h : chk c = 0) (hs : (L.length : Int) = siz c) (hb : 0 ≤ b ∧ b < tot c) {j : Nat} (hj : (j : Int) = b / c.bl) (hn : wdS c L j % 16 ≠ 2) (hr : (rk.length : Int) < c.rk) (a : Acc) :
    giveLn c a L (gX 39 (b + 1) V rk hl) = gvAgain (acc L 1 (wdA c j) 0 0) L (gX 0 0 V (rk ++ [b]) hl) := by
  obtain ⟨j', e1, e2, e3, e4⟩ := home h hs hb
  obtain rfl : j' = j := by omega
  have hld : ldV L (wdA c j' : Int) = wdS c L j' := ldV_nat e4
  have hr1 : (slabLn c a L (gX 39 (b + 1) V rk hl).p).fin = ⟨acc L 1 (wdA c j') 0 0, L, (gX 0 (b + 1) V rk hl).p, 1, true⟩ := by
    show (slabLn c a L { pz with ln := 39, k := b + 1, v := V }).fin = _
    unfold slabLn slTake
    simp only [show ((39 : Int) = 30) = False by decide, show ((39 : Int) = 31) = False by decide, show ((39 : Int) = 32) = False by decide, show ((39 : Int) = 33) = False by decide, show ((39 : Int) = 34) = False by decide, show ((39 : Int) = 35) = False by decide, show ((39 : Int) = 36) = False by decide, show ((39 : Int) = 37) = False by decide, if_true, if_false, e3, hld, if_neg hn]
    rfl
  unfold giveLn
  rw [if_pos (show (gX 39 (b + 1) V rk hl).p.ln = 39 from rfl)]
  unfold gvRoute
  simp only [hr1]
  rw [if_neg (by decide), if_pos (show (((gX 39 (b + 1) V rk hl).rk.length : Nat) : Int) < c.rk from hr)]
  have hk : wrap64 ((gX 0 (b + 1) V rk hl).p.k - 1) = b := by
    show wrap64 (b + 1 - 1) = b
    rw [show b + 1 - 1 = b by omega]
    have ht := tot_eq h
    exact IntWalk.wrap64_in b (by omega)
  rw [hk]
  have hp : putS c.rk { gX 39 (b + 1) V rk hl with p := (gX 0 (b + 1) V rk hl).p } b = gX 0 (b + 1) V (rk ++ [b]) hl := if_pos hr
  rw [hp]
  rfl
/-- Line 39, the rack being full. -/
theorem ga_full {c : Cfg} {L : List Int} {b V : Int} {rk hl : List Int} (h : chk c = 0) (hs : (L.length : Int) = siz c) (hb : 0 ≤ b ∧ b < tot c) {j : Nat} (hj : (j : Int) = b / c.bl) (hn : wdS c L j % 16 ≠ 2) (hr : ¬ (rk.length : Int) < c.rk) (a : Acc) :
    giveLn c a L (gX 39 (b + 1) V rk hl) = ⟨acc L 1 (wdA c j) 0 0, L, gX 13 (b + 1) V rk hl, 0, true⟩ := by
  obtain ⟨j', e1, e2, e3, e4⟩ := home h hs hb
  obtain rfl : j' = j := by omega
  have hld : ldV L (wdA c j' : Int) = wdS c L j' := ldV_nat e4
  have hr1 : (slabLn c a L (gX 39 (b + 1) V rk hl).p).fin = ⟨acc L 1 (wdA c j') 0 0, L, (gX 0 (b + 1) V rk hl).p, 1, true⟩ := by
    show (slabLn c a L { pz with ln := 39, k := b + 1, v := V }).fin = _
    unfold slabLn slTake
    simp only [show ((39 : Int) = 30) = False by decide, show ((39 : Int) = 31) = False by decide, show ((39 : Int) = 32) = False by decide, show ((39 : Int) = 33) = False by decide, show ((39 : Int) = 34) = False by decide, show ((39 : Int) = 35) = False by decide, show ((39 : Int) = 36) = False by decide, show ((39 : Int) = 37) = False by decide, if_true, if_false, e3, hld, if_neg hn]
    rfl
  unfold giveLn
  rw [if_pos (show (gX 39 (b + 1) V rk hl).p.ln = 39 from rfl)]
  unfold gvRoute
  simp only [hr1]
  rw [if_neg (by decide), if_neg (show ¬ (((gX 39 (b + 1) V rk hl).rk.length : Nat) : Int) < c.rk from hr)]
  have hp : putS c.rk { gX 39 (b + 1) V rk hl with p := (gX 0 (b + 1) V rk hl).p } (wrap64 ((gX 0 (b + 1) V rk hl).p.k - 1)) = gX 0 (b + 1) V rk hl := if_neg hr
  rw [hp]
  rfl
/-- Line 39 of a block whose slab is draining. -/
theorem ga_drain {c : Cfg} {L : List Int} {b V : Int} {rk hl : List Int} (h : chk c = 0) (hs : (L.length : Int) = siz c) (hb : 0 ≤ b ∧ b < tot c) {j : Nat} (hj : (j : Int) = b / c.bl) (hn : wdS c L j % 16 = 2) (a : Acc) :
    giveLn c a L (gX 39 (b + 1) V rk hl) = ⟨acc L 1 (wdA c j) 0 0, L, gX 30 (b + 1) V rk hl, 0, true⟩ := by
  obtain ⟨j', e1, e2, e3, e4⟩ := home h hs hb
  obtain rfl : j' = j := by omega
  have hld : ldV L (wdA c j' : Int) = wdS c L j' := ldV_nat e4
  have hr1 : (slabLn c a L (gX 39 (b + 1) V rk hl).p).fin = ⟨acc L 1 (wdA c j') 0 0, L, (gX 0 (b + 1) V rk hl).p, 2, true⟩ := by
    show (slabLn c a L { pz with ln := 39, k := b + 1, v := V }).fin = _
    unfold slabLn slTake
    simp only [show ((39 : Int) = 30) = False by decide, show ((39 : Int) = 31) = False by decide, show ((39 : Int) = 32) = False by decide, show ((39 : Int) = 33) = False by decide, show ((39 : Int) = 34) = False by decide, show ((39 : Int) = 35) = False by decide, show ((39 : Int) = 36) = False by decide, show ((39 : Int) = 37) = False by decide, if_true, if_false, e3, hld, if_pos hn]
    rfl
  unfold giveLn
  rw [if_pos (show (gX 39 (b + 1) V rk hl).p.ln = 39 from rfl)]
  unfold gvRoute
  simp only [hr1]
  rw [if_pos trivial]
  rfl
/-- Line 30: the block is parked, and not the last. -/
theorem ga_park {c : Cfg} {L : List Int} {b V : Int} {rk hl : List Int} (h : chk c = 0) (hs : (L.length : Int) = siz c) (hb : 0 ≤ b ∧ b < tot c) {j : Nat} (hj : (j : Int) = b / c.bl) {W : Int} (hW : W = IntKind.u64.wrap (wdS c L j + 16)) (a : Acc) :
    giveLn c a L (gX 30 (b + 1) V rk hl) = if W / 16 % 4096 = c.bl then ⟨acc L 4 (wdA c j) 16 0, L.set (wdA c j) W, gX 31 (b + 1) V rk hl, 0, true⟩ else gvAgain (acc L 4 (wdA c j) 16 0) (L.set (wdA c j) W) (gX 0 0 V rk hl) := by
  obtain ⟨j', e1, e2, e3, e4⟩ := home h hs hb
  obtain rfl : j' = j := by omega
  have hld : ldV L (slHome c (b + 1)) = wdS c L j' := by rw [e3, ldV_nat e4]; rfl
  have had : adL L (slHome c (b + 1)) 16 = L.set (wdA c j') W := by
    rw [e3]
    unfold adL
    rw [if_pos (by omega), hW]
    rfl
  have hnow : slNow L (slHome c (b + 1)) = W := by unfold slNow; rw [hld, hW]
  unfold giveLn
  rw [if_neg (show ¬ (gX 30 (b + 1) V rk hl).p.ln = 39 by simp [gX]), if_pos (show (gX 30 (b + 1) V rk hl).p.ln = 30 ∨ _ from .inl rfl)]
  unfold gvPark
  have hsl : slabLn c a L (gX 30 (b + 1) V rk hl).p = sl30 c L (gX 30 (b + 1) V rk hl).p := by
    unfold slabLn
    rw [if_pos (show (gX 30 (b + 1) V rk hl).p.ln = 30 from rfl)]
  simp only [hsl]
  unfold sl30
  have hk : (gX 30 (b + 1) V rk hl).p.k = b + 1 := rfl
  rw [hk, hnow, had, e3]
  by_cases hw : W / 16 % 4096 = c.bl
  · rw [if_pos hw, if_pos hw]
    rfl
  · rw [if_neg hw, if_neg hw]
    rfl
theorem ga_31 {c : Cfg} {L : List Int} {k V : Int} {rk hl : List Int} (a : Acc) : giveLn c a L (gX 31 k V rk hl) = ⟨acc L 1 0 0 0, L, gX 32 k (ldV L 0) rk hl, 0, true⟩ := by
  unfold giveLn
  rw [if_neg (show ¬ (gX 31 k V rk hl).p.ln = 39 by simp [gX]), if_pos (show (gX 31 k V rk hl).p.ln = 30 ∨ (gX 31 k V rk hl).p.ln = 31 ∨ _ from .inr (.inl rfl))]
  unfold gvPark
  have hsl : slabLn c a L (gX 31 k V rk hl).p = sl31 L (gX 31 k V rk hl).p := by
    unfold slabLn
    rw [if_neg (show ¬ (gX 31 k V rk hl).p.ln = 30 by simp [gX]), if_pos (show (gX 31 k V rk hl).p.ln = 31 from rfl)]
  simp only [hsl]
  rfl
theorem ga_32 {c : Cfg} {L : List Int} {b V : Int} {rk hl : List Int} (h : chk c = 0) (hs : (L.length : Int) = siz c) (hb : 0 ≤ b ∧ b < tot c) {j : Nat} (hj : (j : Int) = b / c.bl) (a : Acc) :
    giveLn c a L (gX 32 (b + 1) V rk hl) = gvAgain (acc L 2 (wdA c j) (Pk.sl 3 0 V) 0) (L.set (wdA c j) (Pk.sl 3 0 V)) (gX 0 0 V rk hl) := by
  obtain ⟨j', e1, e2, e3, e4⟩ := home h hs hb
  obtain rfl : j' = j := by omega
  have hst : stL L (slHome c (b + 1)) (Pk.sl 3 0 V) = L.set (wdA c j') (Pk.sl 3 0 V) := by
    rw [e3]
    unfold stL
    rw [if_pos (by omega)]
    rfl
  unfold giveLn
  rw [if_neg (show ¬ (gX 32 (b + 1) V rk hl).p.ln = 39 by simp [gX]), if_pos (show (gX 32 (b + 1) V rk hl).p.ln = 30 ∨ (gX 32 (b + 1) V rk hl).p.ln = 31 ∨ (gX 32 (b + 1) V rk hl).p.ln = 32 from .inr (.inr rfl))]
  unfold gvPark
  have hsl : slabLn c a L (gX 32 (b + 1) V rk hl).p = sl32 c L (gX 32 (b + 1) V rk hl).p := by
    unfold slabLn
    rw [if_neg (show ¬ (gX 32 (b + 1) V rk hl).p.ln = 30 by simp [gX]), if_neg (show ¬ (gX 32 (b + 1) V rk hl).p.ln = 31 by simp [gX]), if_pos (show (gX 32 (b + 1) V rk hl).p.ln = 32 from rfl)]
  simp only [hsl]
  unfold sl32
  have hk : (gX 32 (b + 1) V rk hl).p.k = b + 1 := rfl
  have hv : (gX 32 (b + 1) V rk hl).p.v = V := rfl
  rw [hk, hv, hst, e3]
  rfl
theorem sk_lines {c : Cfg} {a : Acc} {L : List Int} {p : Pl} (h : p.ln < 20) : stackLn c a L p = skGo c a L p false := by
  unfold stackLn
  rw [decide_eq_false (by omega)]
theorem push_in {x : St} (h : x.p.ln = 13 ∨ x.p.ln = 14 ∨ x.p.ln = 15) (c : Cfg) (a : Acc) (L : List Int) : giveLn c a L x = gvPush c a L x := by
  unfold giveLn
  rw [if_neg (by omega), if_neg (by omega), if_pos h]
/-- Lines 13 to 15. -/
theorem ga_13 {c : Cfg} {L : List Int} {k V : Int} {rk hl : List Int} (h1 : 1 < L.length) (a : Acc) : giveLn c a L (gX 13 k V rk hl) = ⟨acc L 1 1 0 0, L, gX 14 k (L.getD 1 0) rk hl, 0, true⟩ := by
  rw [push_in (.inl rfl)]
  unfold gvPush
  rw [sk_lines (show (gX 13 k V rk hl).p.ln < 20 by simp [gX])]
  have e : skGo c a L (gX 13 k V rk hl).p false = ⟨acc L 1 1 0 0, L, (gX 14 k (L.getD 1 0) rk hl).p, 0, true⟩ := by
    unfold skGo
    simp only [show ((gX 13 k V rk hl).p.ln = skLn false 10) = False by simp [gX, skLn], show ((gX 13 k V rk hl).p.ln = skLn false 11) = False by simp [gX, skLn], show ((gX 13 k V rk hl).p.ln = skLn false 12) = False by simp [gX, skLn], show ((gX 13 k V rk hl).p.ln = skLn false 13) = True by simp [gX, skLn], if_true, if_false]
    unfold sk13
    rw [show skH false = ((1 : Nat) : Int) from rfl, ldV_nat h1]
    rfl
  simp only [e]
  rfl
theorem ga_14 {c : Cfg} {L : List Int} {b V : Int} {rk hl : List Int} (hb : 0 ≤ b ∧ b < 1000) {kb : Nat} (hk : skLk c false b = (kb : Int)) (hl' : kb < L.length) (a : Acc) : giveLn c a L (gX 14 (b + 1) V rk hl) = ⟨acc L 2 kb (low32 V) 0, L.set kb (low32 V), gX 15 (b + 1) V rk hl, 0, true⟩ := by
  rw [push_in (.inr (.inl rfl))]
  unfold gvPush
  rw [sk_lines (show (gX 14 (b + 1) V rk hl).p.ln < 20 by simp [gX])]
  have hp : skPut false (gX 14 (b + 1) V rk hl).p = b := by
    show wrap64 (b + 1 - 1) = b
    rw [show b + 1 - 1 = b by omega]
    exact IntWalk.wrap64_in b (by omega)
  have e : skGo c a L (gX 14 (b + 1) V rk hl).p false = ⟨acc L 2 kb (low32 V) 0, L.set kb (low32 V), (gX 15 (b + 1) V rk hl).p, 0, true⟩ := by
    unfold skGo
    simp only [show ((gX 14 (b + 1) V rk hl).p.ln = skLn false 10) = False by simp [gX, skLn], show ((gX 14 (b + 1) V rk hl).p.ln = skLn false 11) = False by simp [gX, skLn], show ((gX 14 (b + 1) V rk hl).p.ln = skLn false 12) = False by simp [gX, skLn], show ((gX 14 (b + 1) V rk hl).p.ln = skLn false 13) = False by simp [gX, skLn], show ((gX 14 (b + 1) V rk hl).p.ln = skLn false 14) = True by simp [gX, skLn], if_true, if_false]
    unfold sk14
    rw [hp, hk]
    have hs : stL L (kb : Int) (low32 (gX 14 (b + 1) V rk hl).p.v) = L.set kb (low32 V) := by
      unfold stL
      rw [if_pos (by omega)]
      rfl
    rw [hs]
    rfl
  simp only [e]
  rfl
theorem ga_15 {c : Cfg} {L : List Int} {b V : Int} {rk hl : List Int} (hb : 0 ≤ b ∧ b < 1000) (h1 : 1 < L.length) (hv : L.getD 1 0 = V) (a : Acc) : giveLn c a L (gX 15 (b + 1) V rk hl) = gvAgain (acc L 3 1 V (skNew b V)) (L.set 1 (skNew b V)) (gX 0 0 V rk hl) := by
  rw [push_in (.inr (.inr rfl))]
  unfold gvPush
  rw [sk_lines (show (gX 15 (b + 1) V rk hl).p.ln < 20 by simp [gX])]
  have hp : skPut false (gX 15 (b + 1) V rk hl).p = b := by
    show wrap64 (b + 1 - 1) = b
    rw [show b + 1 - 1 = b by omega]
    exact IntWalk.wrap64_in b (by omega)
  have hc : csB L (skH false) V = true := by
    unfold csB
    rw [show skH false = ((1 : Nat) : Int) from rfl]
    simp only [Bool.and_eq_true, decide_eq_true_eq]
    exact ⟨by omega, hv⟩
  have e : (skGo c a L (gX 15 (b + 1) V rk hl).p false).fin = ⟨acc L 3 1 V (skNew b V), L.set 1 (skNew b V), (gX 0 (b + 1) V rk hl).p, 1, true⟩ := by
    unfold skGo
    simp only [show ((gX 15 (b + 1) V rk hl).p.ln = skLn false 10) = False by simp [gX, skLn], show ((gX 15 (b + 1) V rk hl).p.ln = skLn false 11) = False by simp [gX, skLn], show ((gX 15 (b + 1) V rk hl).p.ln = skLn false 12) = False by simp [gX, skLn], show ((gX 15 (b + 1) V rk hl).p.ln = skLn false 13) = False by simp [gX, skLn], show ((gX 15 (b + 1) V rk hl).p.ln = skLn false 14) = False by simp [gX, skLn], show ((gX 15 (b + 1) V rk hl).p.ln = skLn false 15) = True by simp [gX, skLn], if_true, if_false]
    unfold sk15 skSwap
    rw [hp, show (gX 15 (b + 1) V rk hl).p.v = V from rfl, hc]
    have hs : csL L (skH false) V (skNew b V) = L.set 1 (skNew b V) := by
      unfold csL
      rw [hc]
      rfl
    rw [hs]
    rfl
  simp only [e]
  rfl
end Go.Proofs.Ytgpdkagmacpghaa.Me

/- GiveAlone: the whole run. -/
namespace Go.Proofs.Ytgpdkagmacpghaa.Me
open Go Go.RowKit Go.Proofs.Ytgpdkagmacpghaa.Gro Go.Proofs.Ytgpdkagmacpghaa.Own Go.Proofs.Ytgpdkagmacpghaa.Wd Go.Proofs.Ytgpdkagmacpghaa.Ap Go.Proofs.Ytgpdkagmacpghaa.Pl Go.Proofs.Ytgpdkagmacpghaa.Wo
set_option linter.unusedVariables false
set_option linter.unusedSimpArgs false
/-- What the law reckons: parked, into the rack, or onto the list. -/
def planF (c : Cfg) : List Int → (Nat → Int) → List Int → List Int → Option ((Nat → Int) × List Int × List Int)
  | [], D, r, w => some (D, r, w)
  | b :: hs, D, r, w => if D (b / c.bl).toNat = 0 then none else if 0 < D (b / c.bl).toNat then planF c hs (fun i => if i = (b / c.bl).toNat then D i - 1 else D i) r w
    else if (r.length : Int) < c.rk then planF c hs D (r ++ [b]) w else planF c hs D r (b :: w)
def GFin (c : Cfg) (D : Nat → Int) (r w : List Int) (L : List Int) (x : St) : Prop := GInv c L D w ∧ x.rk = r ∧ x.hl = [] ∧ x.p.k = 0
section
variable {c : Cfg} (h : chk c = 0)
include h
theorem lk_eq {n : Int} (hn : 0 ≤ n ∧ n < tot c) : skLk c false n = 3 + c.ww + c.sl + 2 * c.en + n * (1 + c.wd) := by
  have hok := chk_ok.1 h
  have hh : hasB c n (tot c) = true := by unfold hasB; rw [okB_of_ok hok]; simp; omega
  simp only [skLk, Bool.false_eq_true, if_false]
  rw [aBlk, if_pos hh]
theorem lk_ge {n : Int} (hn : 0 ≤ n ∧ n < tot c) : 3 + c.ww + c.sl ≤ skLk c false n := by
  have hok := chk_ok.1 h
  have hen := hok.en
  have hwd := hok.wd
  have m4 : 0 ≤ n * (1 + c.wd) := Int.mul_nonneg hn.1 (by omega)
  rw [lk_eq h hn]
  omega
theorem lk_inj {n m : Int} (hn : 0 ≤ n ∧ n < tot c) (hm : 0 ≤ m ∧ m < tot c) (he : skLk c false n = skLk c false m) : n = m := by
  have hok := chk_ok.1 h
  have hwd := hok.wd
  rw [lk_eq h hn, lk_eq h hm] at he
  have : n * (1 + c.wd) = m * (1 + c.wd) := by omega
  exact Int.eq_of_mul_eq_mul_right (by omega) this
theorem lk_at {L : List Int} (hs : (L.length : Int) = siz c) {n : Int} (hn : 0 ≤ n ∧ n < tot c) : ∃ q : Nat, skLk c false n = (q : Int) ∧ q < L.length ∧ 3 + c.ww + c.sl ≤ (q : Int) := by
  obtain ⟨q, h1, h2⟩ := lk_in (e := false) h hs (n := n.toNat) (by show ((n.toNat : Nat) : Int) < tot c; omega)
  rw [show ((n.toNat : Nat) : Int) = n by omega] at h1
  exact ⟨q, h1, h2, h1 ▸ lk_ge h hn⟩
/-- A slab's word changed: the list stays. -/
theorem lst_slab {L : List Int} {w : List Int} (hl : Lst c L false w) {j : Nat} (hj : (j : Int) < c.sl) (x : Int) : Lst c (L.set (wdA c j) x) false w := by
  have hok := chk_ok.1 h
  have hww := hok.ww
  refine hl.keep (by simp) ?_ (fun k hk => ?_)
  · rw [gsetI, if_neg]
    unfold wdA hdN
    simp
    omega
  · obtain ⟨q, e1, e2, e3⟩ := lk_at h hl.len (hl.below k hk)
    have hk0 := (hl.below k hk).1
    unfold lsNx
    rw [show ((k.toNat : Nat) : Int) = k by omega, e1, gsetI, if_neg]
    unfold wdA
    omega
theorem wd_set {L : List Int} (hs : (L.length : Int) = siz c) {j : Nat} (hj : (j : Int) < c.sl) (x : Int) (i : Nat) (hi : (i : Int) < c.sl) : wdS c (L.set (wdA c j) x) i = if i = j then x else wdS c L i := by
  have hok := chk_ok.1 h
  have hen := hok.en
  have hwd := hok.wd
  have ht := tot_eq h
  have m2 : 0 ≤ c.sl * c.bl * (1 + c.wd) := Int.mul_nonneg (by omega) (by omega)
  rw [siz, if_pos (okB_of_ok hok)] at hs
  have hww := hok.ww
  unfold wdS
  rw [gsetI]
  by_cases e : i = j
  · subst e
    rw [if_pos ⟨rfl, by unfold wdA; omega⟩, if_pos rfl]
  · rw [if_neg (by unfold wdA; omega), if_neg e]
theorem wd_far {L : List Int} {k : Nat} (hk : k = 1 ∨ 3 + c.ww + c.sl ≤ (k : Int)) (x : Int) (i : Nat) (hi : (i : Int) < c.sl) : wdS c (L.set k x) i = wdS c L i := by
  have hok := chk_ok.1 h
  have hww := hok.ww
  unfold wdS
  rw [gsetI, if_neg]
  unfold wdA
  omega
theorem one_lt {L : List Int} (hs : (L.length : Int) = siz c) : 1 < L.length := by have := siz_ge h; omega
/-- A block pushed. -/
theorem inv_push {L : List Int} {D : Nat → Int} {w : List Int} (hI : GInv c L D w) {b : Int} (hb : 0 ≤ b ∧ b < tot c) (hm : b ∉ w) {kb : Nat} (hk : skLk c false b = (kb : Int)) (hkl : kb < L.length) (hkg : 3 + c.ww + c.sl ≤ (kb : Int)) : GInv c ((L.set kb (low32 (L.getD 1 0))).set 1 (skNew b (L.getD 1 0))) D (b :: w) := by
  have hok := chk_ok.1 h
  have hww := hok.ww
  have hsl := hok.sl
  have ht := tot_eq h
  have h1 := one_lt h hI.lst.len
  have hw1 : 0 ≤ L.getD 1 0 ∧ L.getD 1 0 < 18446744073709551616 := by
    rw [List.getD_eq_getElem?_getD, List.getElem?_eq_getElem h1]
    exact hI.wr _ (List.getElem_mem h1)
  have hlow := low32_lt (L.getD 1 0)
  refine ⟨hI.lst.push (by simp) ⟨hb.1, hb.2⟩ hm ?_ ?_ (fun k hk' => ?_), wr_set (wr_set hI.wr _ hlow.1 (by omega)) _ (Pk.hd_rng _ _).1 (Pk.hd_rng _ _).2, fun j hj => ?_⟩
  · rw [show hdN false = 1 from rfl, gsetI, if_pos ⟨rfl, by simpa using h1⟩]
    unfold skNew low32 Pk.hd
    omega
  · unfold lsNx
    have hne : ¬ (kb = 1) := by omega
    rw [show ((b.toNat : Nat) : Int) = b by omega, hk, Int.toNat_natCast, gsetI, if_neg (fun q => hne q.1), gsetI, if_pos ⟨rfl, hkl⟩, show hdN false = 1 from rfl]
    have : low32 (low32 (L.getD 1 0)) = low32 (L.getD 1 0) := by unfold low32; omega
    rw [this]
  · obtain ⟨q, e1, e2, e3⟩ := lk_at h hI.lst.len (hI.lst.below k hk')
    have hk0 := (hI.lst.below k hk').1
    have hne : q ≠ kb := fun e => by
      subst e
      have := lk_inj h (hI.lst.below k hk') hb (e1.trans hk.symm)
      subst this
      exact hm hk'
    unfold lsNx
    have hn1 : ¬ (q = 1) := by omega
    rw [show ((k.toNat : Nat) : Int) = k by omega, e1, Int.toNat_natCast, gsetI, if_neg (fun z => hn1 z.1), gsetI, if_neg (fun z => hne z.1)]
  · rw [wd_far h (.inl rfl) _ j hj, wd_far h (.inr hkg) _ j hj]
    exact hI.slab j hj
theorem wd_rng {L : List Int} {D : Nat → Int} {w : List Int} (hI : GInv c L D w) {j : Nat} (hj : (j : Int) < c.sl) : 0 ≤ wdS c L j ∧ wdS c L j < 18446744073709551616 := by
  have hlen : wdA c j < L.length := by
    have hok := chk_ok.1 h
    have hen := hok.en
    have hwd := hok.wd
    have hww := hok.ww
    have ht := tot_eq h
    have m2 : 0 ≤ c.sl * c.bl * (1 + c.wd) := Int.mul_nonneg (by omega) (by omega)
    have hs := hI.lst.len
    rw [siz, if_pos (okB_of_ok hok)] at hs
    unfold wdA
    omega
  unfold wdS
  rw [List.getD_eq_getElem?_getD, List.getElem?_eq_getElem hlen]
  exact hI.wr _ (List.getElem_mem hlen)
/-- A slab's word changed, as the law counts. -/
theorem inv_set {L : List Int} {D : Nat → Int} {w : List Int} (hI : GInv c L D w) {j : Nat} (hj : (j : Int) < c.sl) {x d : Int} (hx : 0 ≤ x ∧ x < 18446744073709551616) (hd : (d < 0 ∧ x % 16 ≠ 2) ∨ (0 < d ∧ d ≤ c.bl ∧ x % 16 = 2 ∧ x / 16 % 4096 = c.bl - d) ∨ (d = 0 ∧ x % 16 = 3)) :
    GInv c (L.set (wdA c j) x) (fun i => if i = j then d else D i) w := by
  refine ⟨lst_slab h hI.lst hj x, wr_set hI.wr _ hx.1 hx.2, fun i hi => ?_⟩
  rw [wd_set h hI.lst.len hj x i hi]
  by_cases e : i = j
  · simp only [if_pos e]
    exact hd
  · simp only [if_neg e]
    exact hI.slab i hi
theorem park_word {L : List Int} {D : Nat → Int} {w : List Int} (hI : GInv c L D w) {j : Nat} (hj : (j : Int) < c.sl) (hD : 0 < D j) : ∃ W, W = IntKind.u64.wrap (wdS c L j + 16) ∧ W % 16 = 2 ∧ W / 16 % 4096 = c.bl - (D j - 1) ∧ 0 ≤ W ∧ W < 18446744073709551616 := by
  have hok := chk_ok.1 h
  have hbl := hok.bl
  have hr := wd_rng h hI hj
  rcases hI.slab j hj with q | ⟨q1, q2, q3, q4⟩ | q
  · omega
  · refine ⟨wdS c L j + 16, (u64_in (by omega) (by omega)).symm, by omega, by omega, by omega, by omega⟩
  · omega
/-- The whole run. -/
theorem ga_run : ∀ (hs : List Int) {L : List Int} {D : Nat → Int} {w rk : List Int} {V : Int} {D' : Nat → Int} {r' w' : List Int}, GInv c L D w → (rk.length : Int) ≤ c.rk → hs.length ≤ 20 → hs.Nodup → (∀ b ∈ hs, (0 ≤ b ∧ b < tot c) ∧ b ∉ w) → (0 ≤ V ∧ V < 18446744073709551616) → planF c hs D rk w = some (D', r', w') → Gets c (GFin c D' r' w') (4 * hs.length) L (gvS (gX 0 0 V rk hs)) (gvW (gX 0 0 V rk hs))
  | [], L, D, w, rk, V, D', r', w', hI, hr, hl, hn, hb, hV, hp => by
    simp only [planF, Option.some.injEq, Prod.mk.injEq] at hp
    obtain ⟨rfl, rfl, rfl⟩ := hp
    exact .done ⟨hI, rfl, rfl, rfl⟩
  | b :: t, L, D, w, rk, V, D', r', w', hI, hr, hl, hn, hb, hV, hp => by
    have hok := chk_ok.1 h
    have hrk := hok.rk
    have hb0 := (hb b List.mem_cons_self).1
    have hbw := (hb b List.mem_cons_self).2
    obtain ⟨n1, n2⟩ := List.nodup_cons.1 hn
    have ht' := tot_eq h
    have hbt : ∀ k ∈ t, (0 ≤ k ∧ k < tot c) ∧ k ∉ w := fun k hk => hb k (List.mem_cons_of_mem _ hk)
    have hlt : t.length ≤ 20 := by simp only [List.length_cons] at hl; omega
    have hlen := hI.lst.len
    obtain ⟨j, e1, e2, e3, e4⟩ := home h hlen hb0
    have ej : (b / c.bl).toNat = j := by omega
    rw [planF, ej] at hp
    have hgo : gvS (gX 0 0 V rk (b :: t)) = gX 39 (b + 1) V rk t := by
      have : wrap64 (b + 1) = b + 1 := IntWalk.wrap64_in _ (by omega)
      show (⟨{ (gX 0 0 V rk (b :: t)).p with k := wrap64 (b + 1), ln := 39 }, rk, [], [], [], t, []⟩ : St) = _
      rw [this]
      rfl
    have hway : gvW (gX 0 0 V rk (b :: t)) = 0 := rfl
    rw [hgo, hway]
    have hf : ∀ l k V, Few 800 (gX l k V rk t) := fun l k V => few_g (by omega) hlt
    have hprs : ∀ l k {V}, 0 ≤ V ∧ V < 18446744073709551616 → PR (gX l k V rk t).p := fun l k V hv => pr_g hv
    have hm : 4 * (b :: t).length = 4 * t.length + 1 + 1 + 1 + 1 := by simp only [List.length_cons]; omega
    rw [hm]
    by_cases hz : D j = 0
    · rw [if_pos hz] at hp
      cases hp
    rw [if_neg hz] at hp
    by_cases hd : 0 < D j
    · rw [if_pos hd] at hp
      have h2 : wdS c L j % 16 = 2 := by
        rcases hI.slab j e2 with q | q | q
        · omega
        · exact q.2.2.1
        · omega
      obtain ⟨W, hW, w1, w2, w3, w4⟩ := park_word h hI e2 hd
      refine .step _ (hf _ _ _) (hprs _ _ hV) (fun a => ga_drain h hlen hb0 e1 h2 a) rfl rfl hI.wr ?_
      refine .step _ (hf _ _ _) (hprs _ _ hV) (fun a => ga_park h hlen hb0 e1 hW a) ?_ ?_ ?_ ?_
      · split <;> rfl
      · split
        · exact List.length_set
        · exact List.length_set
      · split
        · exact wr_set hI.wr _ w3 w4
        · exact wr_set hI.wr _ w3 w4
      · by_cases hbl : W / 16 % 4096 = c.bl
        · simp only [if_pos hbl]
          have hL1 : (((L.set (wdA c j) W).length : Nat) : Int) = siz c := by rw [List.length_set]; exact hlen
          have hwr1 : WR (L.set (wdA c j) W) := wr_set hI.wr _ w3 w4
          have h0l : 0 < (L.set (wdA c j) W).length := by rw [List.length_set]; have := one_lt h hlen; omega
          have hv1 : 0 ≤ ldV (L.set (wdA c j) W) 0 ∧ ldV (L.set (wdA c j) W) 0 < 18446744073709551616 := by
            rw [show (0 : Int) = ((0 : Nat) : Int) from rfl, ldV_nat h0l, List.getD_eq_getElem?_getD, List.getElem?_eq_getElem h0l]
            exact hwr1 _ (List.getElem_mem h0l)
          refine .step _ (hf _ _ _) (hprs _ _ hV) (fun a => ga_31 a) rfl rfl hwr1 ?_
          refine .step _ (hf _ _ _) (hprs _ _ hv1) (fun a => ga_32 h hL1 hb0 e1 a) rfl List.length_set (wr_set hwr1 _ (Pk.sl_rng _ _ _).1 (Pk.sl_rng _ _ _).2) ?_
          have hD1 : D j - 1 = 0 := by omega
          have hI1 := inv_set h hI e2 (d := D j - 1) (Pk.sl_rng 3 0 (ldV (L.set (wdA c j) W) 0)) (.inr (.inr ⟨hD1, by unfold Pk.sl; omega⟩))
          have hfun : (fun i => if i = j then D i - 1 else D i) = fun i => if i = j then D j - 1 else D i := by
            funext i
            by_cases e : i = j
            · rw [if_pos e, if_pos e, e]
            · rw [if_neg e, if_neg e]
          rw [hfun] at hp
          show Gets c _ _ ((L.set (wdA c j) W).set (wdA c j) _) _ _
          rw [List.set_set]
          exact (ga_run t hI1 hr hlt n2 hbt hv1 hp)
        · simp only [if_neg hbl]
          have hdd : D j ≤ c.bl := by
            rcases hI.slab j e2 with q | q | q
            · omega
            · exact q.2.1
            · omega
          have hI1 := inv_set h hI e2 (d := D j - 1) ⟨w3, w4⟩ (.inr (.inl ⟨by omega, by omega, w1, w2⟩))
          have hfun : (fun i => if i = j then D i - 1 else D i) = fun i => if i = j then D j - 1 else D i := by
            funext i
            by_cases e : i = j
            · rw [if_pos e, if_pos e, e]
            · rw [if_neg e, if_neg e]
          rw [hfun] at hp
          exact (ga_run t hI1 hr hlt n2 hbt hV hp).mono (by omega)
    · rw [if_neg hd] at hp
      have h2 : wdS c L j % 16 ≠ 2 := by
        rcases hI.slab j e2 with q | q | q
        · exact q.2
        · omega
        · omega
      by_cases hfull : (rk.length : Int) < c.rk
      · rw [if_pos hfull] at hp
        refine .step _ (hf _ _ _) (hprs _ _ hV) (fun a => ga_put h hlen hb0 e1 h2 hfull a) rfl rfl hI.wr ?_
        exact (ga_run t hI (by rw [List.length_append]; simp only [List.length_cons, List.length_nil]; omega) hlt n2 hbt hV hp).mono (by omega)
      · rw [if_neg hfull] at hp
        obtain ⟨kb, k1, k2, k3⟩ := lk_at h hlen hb0
        have hw1 : 0 ≤ L.getD 1 0 ∧ L.getD 1 0 < 18446744073709551616 := by
          have h1 := one_lt h hlen
          rw [List.getD_eq_getElem?_getD, List.getElem?_eq_getElem h1]
          exact hI.wr _ (List.getElem_mem h1)
        have hlow := low32_lt (L.getD 1 0)
        have hsl := hok.sl
        have hww := hok.ww
        have hwr1 : WR (L.set kb (low32 (L.getD 1 0))) := wr_set hI.wr _ hlow.1 (by omega)
        have hg1 : (L.set kb (low32 (L.getD 1 0))).getD 1 0 = L.getD 1 0 := by
          rw [gsetI, if_neg (fun q => by omega)]
        refine .step _ (hf _ _ _) (hprs _ _ hV) (fun a => ga_full h hlen hb0 e1 h2 hfull a) rfl rfl hI.wr ?_
        refine .step _ (hf _ _ _) (hprs _ _ hV) (fun a => ga_13 (one_lt h hlen) a) rfl rfl hI.wr ?_
        refine .step _ (hf _ _ _) (hprs _ _ hw1) (fun a => ga_14 (by omega) k1 k2 a) rfl List.length_set hwr1 ?_
        refine .step _ (hf _ _ _) (hprs _ _ hw1) (fun a => ga_15 (by omega) (by rw [List.length_set]; exact one_lt h hlen) hg1 a) rfl List.length_set (wr_set hwr1 _ (Pk.hd_rng _ _).1 (Pk.hd_rng _ _).2) ?_
        exact ga_run t (inv_push h hI hb0 hbw k1 k2 k3) hr hlt n2 (fun k hk => ⟨(hbt k hk).1, fun hm => by
          rcases List.mem_cons.1 hm with rfl | hm
          · exact n1 hk
          · exact (hbt k hk).2 hm⟩) hw1 hp
end
end Go.Proofs.Ytgpdkagmacpghaa.Me

/- GiveAlone: how the run begins and what it leaves, in numbers. -/
namespace Go.Proofs.Ytgpdkagmacpghaa.Me
open Go Go.RowKit Go.Proofs.Ytgpdkagmacpghaa.Gro Go.Proofs.Ytgpdkagmacpghaa.Own Go.Proofs.Ytgpdkagmacpghaa.Wd Go.Proofs.Ytgpdkagmacpghaa.Ap Go.Proofs.Ytgpdkagmacpghaa.Pl Go.Proofs.Ytgpdkagmacpghaa.Wo
set_option linter.unusedVariables false
set_option linter.unusedSimpArgs false
theorem gets_split {c : Cfg} {F : List Int → St → Prop} {m : Nat} {L : List Int} {x : St} {w : Int} (h : Gets c F m L x w) :
    (w = 1 ∧ F L x) ∨ (w = 0 ∧ ∃ m' r, m = m' + 1 ∧ Few 800 x ∧ PR x.p ∧ (∀ a, giveLn c a L x = r) ∧ r.ok = true ∧ r.L.length = L.length ∧ WR r.L ∧ Gets c F m' r.L r.x r.way) := by
  cases h with
  | done h => exact .inl ⟨rfl, h⟩
  | step r hx hp ha hk hl hw h => exact .inr ⟨rfl, _, r, rfl, hx, hp, ha, hk, hl, hw, h⟩
/-- What the law notes of a slab. -/
def DOk (c : Cfg) (L : List Int) (d : Int) (i : Nat) : Prop := (d < 0 ∧ wdS c L i % 16 ≠ 2) ∨ (0 < d ∧ d ≤ c.bl ∧ wdS c L i % 16 = 2 ∧ wdS c L i / 16 % 4096 = c.bl - d)
def Good (c : Cfg) (W H : List Int) (k : Nat) : Prop := ∀ i (h : i < H.length), i < k → (0 ≤ H[i] ∧ H[i] < c.sl * c.bl) ∧ H[i] ∉ W ∧ ∀ m (h' : m < H.length), m < i → H[m] ≠ H[i]
theorem ga_init {c : Cfg} {L W dl : List Int} (hls : listR c L false = some W) (hL : WR L) (hn : (dl.length : Int) = c.sl) (hd : ∀ i (h : i < dl.length), DOk c L dl[i] i) : GInv c L (fun i => dl.getD i 0) W := by
  refine ⟨lst_of hls, hL, fun j hj => ?_⟩
  have hj2 : j < dl.length := by omega
  have := hd j hj2
  rw [List.getD_eq_getElem?_getD, List.getElem?_eq_getElem hj2]
  rcases this with q | q
  · exact .inl q
  · exact .inr (.inl q)
theorem ga_all {c : Cfg} {L W H dl dl' r W' : List Int} (hk : chk c = 0) (hls : listR c L false = some W) (hL : WR L) (hn : (dl.length : Int) = c.sl) (hd : ∀ i (h : i < dl.length), DOk c L dl[i] i) (h20 : H.length ≤ 20) (hg : Good c W H H.length) (hp : planF c H (fun i => dl.getD i 0) [] W = some (fun i => dl'.getD i 0, r, W')) :
    Gets c (GFin c (fun i => dl'.getD i 0) r W') (4 * H.length) L (gvS { zS with hl := H }) (gvW { zS with hl := H }) := by
  have hok := chk_ok.1 hk
  have hrk := hok.rk
  have ht := tot_eq hk
  refine ga_run hk H (V := 0) (rk := []) (ga_init hls hL hn hd) (by simp only [List.length_nil]; omega) h20 ?_ ?_ ⟨by decide, by decide⟩ hp
  · rw [List.Nodup, List.pairwise_iff_getElem]
    intro i j hi hj hij
    exact (hg j hj hj).2.2 i hi hij
  · intro b hb
    obtain ⟨j, hj, rfl⟩ := List.getElem_of_mem hb
    have := hg j hj hj
    exact ⟨⟨this.1.1, by rw [ht.1]; exact this.1.2⟩, this.2.1⟩
/-- What the law asks of a slab at the end. -/
theorem ga_slab {c : Cfg} {L : List Int} {D : Nat → Int} {w : List Int} (hI : GInv c L D w) {j : Nat} (hj : (j : Int) < c.sl) {d x : Int} (hd : d = D j) (hx : x = wdS c L j) : (d < 0) ∨ (0 < d ∧ x / 16 % 4096 = c.bl - d ∧ d ≤ c.bl) ∨ (d = 0 ∧ x % 16 = 3) := by
  subst hd hx
  rcases hI.slab j hj with q | q | q
  · exact .inl q.1
  · exact .inr (.inl ⟨q.1, q.2.2.2, q.2.1⟩)
  · exact .inr (.inr q)
theorem wdA_lt {c : Cfg} (h : chk c = 0) {L : List Int} (hs : (L.length : Int) = siz c) {j : Nat} (hj : (j : Int) < c.sl) : wdA c j < L.length := by
  have hok := chk_ok.1 h
  have hen := hok.en
  have hwd := hok.wd
  have hww := hok.ww
  have ht := tot_eq h
  have m2 : 0 ≤ c.sl * c.bl * (1 + c.wd) := Int.mul_nonneg (by omega) (by omega)
  rw [siz, if_pos (okB_of_ok hok)] at hs
  unfold wdA
  omega
end Go.Proofs.Ytgpdkagmacpghaa.Me

/- The example of layer 10 (made by gengive5.py). -/
namespace Go.Proofs.Ytgpdkagmacpghaa.Me
open Go Go.RowKit Go.Proofs.Ytgpdkagmacpghaa.Gro Go.Proofs.Ytgpdkagmacpghaa.Own Go.Proofs.Ytgpdkagmacpghaa.Wd Go.Proofs.Ytgpdkagmacpghaa.Ap Go.Proofs.Ytgpdkagmacpghaa.Pl Go.Proofs.Ytgpdkagmacpghaa.Wo
set_option linter.unusedVariables false
set_option linter.unusedSimpArgs false
abbrev c10 : Cfg := ⟨1, 1, 2, 1, 1, 1, 1, 1⟩
theorem c10_wf : c10.Wf := ⟨by decide, by decide⟩
theorem c10_ok : Ok c10 := chk_ok.1 (by decide)
theorem build_c10 (w : World) : (Instr.build 24 #[(0, .int .i64 1), (1, .int .i64 1), (2, .int .i64 2), (3, .int .i64 1), (4, .int .i64 1), (5, .int .i64 1), (6, .int .i64 1), (7, .int .u64 1)]).run Try.prog w = .ok (cv c10) w := run_build w _ _ _ (by kernel_rfl)
/-- A state that only holds. -/
theorem build_hold (w : World) (y : Sl) : (Instr.build 43 #[(6, .slice y.ad y.len y.cap)]).run Try.prog w = .ok (wv { wz with hl := y }) w := run_build w _ _ _ (by kernel_rfl)
theorem reads_two (w : World) (x y : Int) (t : TypeId) : Reads (w.alloc (.cells #[.int .i64 x, .int .i64 y] t)) .i64 (.slice (some ⟨w.heap.size, 0, none⟩) 2 2) [x, y] :=
  ⟨_, _, rfl, Nat.le_refl _, by decide, .inr ⟨_, _, rfl, by rw [World.size_alloc]; omega, fun i hi => by
    have := new_cells w #[.int .i64 x, .int .i64 y] t i hi
    rw [show 0 + i = i by omega, this]
    have h2 : i < 2 := hi
    rcases i with _ | _ | i
    · rfl
    · rfl
    · omega⟩⟩
theorem reads_ten (w : World) (x : Int) (t : TypeId) : Reads (w.alloc (.cells #[.int .i64 x] t)) .i64 (.slice (some ⟨w.heap.size, 0, none⟩) 1 1) [x] :=
  ⟨_, _, rfl, Nat.le_refl _, by decide, .inr ⟨_, _, rfl, by rw [World.size_alloc]; omega, fun i hi => by
    obtain rfl : i = 0 := by simpa using hi
    exact new_one w (.int .i64 x) t⟩⟩
def M10 : List Int := (firstL c10).set 4 1
def N10 : List Int := M10.set 8 (low32 (M10.getD 1 0))
def O10 : List Int := N10.set 1 (skNew 1 (M10.getD 1 0))
theorem wr10 : WR M10 ∧ WR N10 ∧ WR O10 := by unfold WR; decide +kernel
theorem len10 : M10.length ≤ 1000 ∧ N10.length ≤ 1000 ∧ O10.length ≤ 1000 := by decide +kernel
abbrev v10 : Int := M10.getD 1 0
theorem slab10 : aSlab c10 0 = 4 := by decide
theorem stl10 : stL (firstL c10) 4 1 = M10 := by decide +kernel
theorem beg10 : gvS { zS with hl := [0, 1] } = gX 39 1 0 [] [1] ∧ gvW { zS with hl := [0, 1] } = 0 := ⟨by kernel_rfl, rfl⟩
theorem run10a (a : Acc) : giveLn c10 a M10 (gX 39 1 0 [] [1]) = ⟨(giveLn c10 a M10 (gX 39 1 0 [] [1])).a, M10, gX 39 2 0 [0] [], 0, true⟩ := by kernel_rfl
theorem run10b (a : Acc) : giveLn c10 a M10 (gX 39 2 0 [0] []) = ⟨(giveLn c10 a M10 (gX 39 2 0 [0] [])).a, M10, gX 13 2 0 [0] [], 0, true⟩ := by kernel_rfl
theorem run10c (a : Acc) : giveLn c10 a M10 (gX 13 2 0 [0] []) = ⟨(giveLn c10 a M10 (gX 13 2 0 [0] [])).a, M10, gX 14 2 v10 [0] [], 0, true⟩ := by kernel_rfl
theorem run10d (a : Acc) : giveLn c10 a M10 (gX 14 2 v10 [0] []) = ⟨(giveLn c10 a M10 (gX 14 2 v10 [0] [])).a, N10, gX 15 2 v10 [0] [], 0, true⟩ := by kernel_rfl
theorem run10e (a : Acc) : giveLn c10 a N10 (gX 15 2 v10 [0] []) = ⟨(giveLn c10 a N10 (gX 15 2 v10 [0] [])).a, O10, gX 0 0 v10 [0] [], 1, true⟩ := by kernel_rfl
def GSx (B g gl cap : Nat) (c : Cfg) (a : Acc) (L : List Int) (x : St) (way : Int) (w : World) (e : Ending) (w' : World) : Prop :=
  ∃ s2, e = .returned (.tuple #[wv s2, .int .i64 way, .bool true]) ∧ LiesF w.heap.size w' s2 x ∧ MemAt B w' g c a gl cap L ∧ Touch g gl w w'
theorem step10 {B : Nat} {w : World} {g gl cap : Nat} {a : Acc} {L L' : List Int} {x x' : St} {way : Int} (M : MemAt B w g c10 a gl cap L) (hm : L.length ≤ 1000) (hL : WR L) (hx : Few 800 x) (hp : PR x.p) (hr : ∀ a, giveLn c10 a L x = ⟨(giveLn c10 a L x).a, L', x', way, true⟩) (s : Wk) (h : Lies w s x) :
    ∃ a', Calls Try.prog 12 #[.pointer (some ⟨g, 0, none⟩), wv s] w (GSx B g gl cap c10 a' L' x' way w) := by
  refine ⟨(giveLn c10 a L x).a, (giveStepAny M c10_wf hm hL s x hx h hp).mono ?_⟩
  rintro e w' ⟨s2, h1, h2, h3, h4⟩
  rw [hr] at h1 h2 h3
  exact ⟨s2, h1, h2, h3, h4⟩
theorem v10r : 0 ≤ v10 ∧ v10 < 18446744073709551616 := by decide +kernel
set_option maxRecDepth 100000 in
set_option maxHeartbeats 16000000 in
theorem awake10 (w : World) : Calls Try.prog 7 #[] w fun e w' => e = .returned (.bool true) ∧ Below w.heap.size w w' := by
  have hb0 := build_c10
  have hbs := fun w b => build_hold w ⟨some ⟨b, 0, none⟩, 2, 2⟩
  simp only at hbs
  have HN := Lib.hid (newMem_ok c10 c10_wf c10_ok)
  have hsl := slab10
  have HSL := Lib.hid (fun w => hsl ▸ slab c10 c10_wf 0 w)
  clear hsl
  have C0 := Bk.new w (ccM c10) 24
  have hw0 : Below w.heap.size w (w.alloc (.cells (ccM c10) 24)) := (Below.refl _ _).alloc (Nat.le_refl _) _
  go_enter Try.func7, Try.ntmps7
  go_wp2_with (refine wpList_load_row rfl 24 _ rfl w.heap.size rfl _ (ccM c10) (0, 0) _ (by exact C0) Try.underlying24 rfl (by kernel_rfl) ?_)
  refine (HN.out _).mono ?_
  rintro e w1 ⟨g, gl, cap, rfl, M1, hb1⟩
  have hw1 := hw0.trans (hb1.mono hw0.size)
  have g0 := M1.g0
  have gl0 := M1.gl0
  have m1 := M1.lt
  have cc := M1.B.cells
  simp only [World.size_alloc] at g0 gl0
  clear hb1 hw0 C0
  go_wp2_with fail
  refine (HSL.out _).mono ?_
  rintro e w2 ⟨rfl, hb2⟩
  have M2 := M1.keep hb2
  have hw2 := hw1.trans (hb2.mono hw1.size)
  clear cc M1 hb2 hw1
  go_wp2_with fail
  refine (store_any M2 (by decide +kernel) 4 1).mono ?_
  rintro e w3 ⟨rfl, M3, T3⟩
  have hw3 := hw2.trans (T3.below (base := w.heap.size) (by omega) (by omega) hw2.size)
  rw [stl10] at M3
  clear M2 T3 hw2
  have bn : Below w3.heap.size w3 (w3.alloc (.cells #[.int .i64 0, .int .i64 1] 3)) := (Below.refl _ _).alloc (Nat.le_refl _) _
  have RH := reads_two w3 0 1 3
  have M4 := M3.keep bn
  have hw4 := hw3.trans (bn.mono hw3.size)
  have HBG := Lib.hid (giveBegin { wz with hl := ⟨some ⟨w3.heap.size, 0, none⟩, 2, 2⟩ } { zS with hl := [0, 1] } ⟨Nat.zero_le _, Nat.zero_le _, Nat.zero_le _, Nat.zero_le _, by decide, Nat.zero_le _⟩ _ ⟨rfl, Reads.nil _ _, Reads.nil _ _, Reads.nil _ _, Reads.nil _ _, RH, Reads.nil _ _⟩)
  have HB2 := Lib.hid beg10
  clear M3 hw3 RH bn
  go_wp2_with fail
  refine HBG.out.mono ?_
  rintro e w5 ⟨s0, rfl, A5, hb5⟩
  rw [HB2.out.1] at A5
  rw [HB2.out.2]
  have M5 := M4.keep hb5
  have hw5 := hw4.trans (hb5.mono hw4.size)
  have Z5 := Bk.new w5 (wc wz) 43
  have X6 := boxed_bk w5 s0
  have bb := boxed_below w5 s0
  have M6 := M5.keep bb
  have A6 := (A5.keep bb).lies
  have hw6 := hw5.trans (bb.mono hw5.size)
  have lt5 := M5.lt
  have lx6 := X6.lt
  have sz5 := hw5.size
  obtain ⟨w6, hw6'⟩ : ∃ u, u = (w5.alloc (.cells (wc wz) 43)).setRow w5.heap.size (wc s0) := ⟨_, rfl⟩
  rw [← hw6'] at X6 M6 hw6 lx6 A6
  clear bb hb5 M5 M4 A5 hw4 hw5 HBG HB2
  go_wp2_with (first | ((with_reducible refine wpList_alloc_wz rfl rfl ?_)) | (refine wpList_store_row rfl 43 _ _ rfl (w5.heap.size) (wc s0) rfl rfl _ _ (by exact Z5) (by kernel_rfl) (by kernel_rfl) (by kernel_rfl) ?_); rw [← hw6']; clear hw6' Z5)
  obtain ⟨gx, hgx⟩ : ∃ u, u = w5.heap.size := ⟨_, rfl⟩
  rw [← hgx] at X6 lx6 lt5 sz5 ⊢
  clear hgx
  refine wp_loop_rounds 6 ?_
  rw [rounds_succ]
  obtain ⟨a1, hs1⟩ := step10 M6 len10.1 wr10.1 (few_g (by decide) (by decide)) (pr_g (by decide)) run10a _ A6
  have HS1 := Lib.hid hs1
  clear hs1
  go_wp2_with (refine wpList_load_row rfl 43 _ rfl (gx) rfl _ (wc s0) (0, 0) _ (by exact X6) Try.underlying43 rfl (by kernel_rfl) ?_)
  refine HS1.out.mono ?_
  rintro e u1 ⟨t1, rfl, A1, N1, T1⟩
  have Xu1 := T1.bk X6 (by omega) (by omega)
  have hu1 := hw6.trans (T1.below (base := w.heap.size) (by omega) (by omega) hw6.size)
  have Y1 := Xu1.setRow (wc t1)
  have Q1 := N1.apart (g' := gx) (gl' := gx) ((Touch.refl gx gx u1).setRow (wc t1)) (by omega) (by omega) (by omega) (by omega)
  have Ay1 := A1.setRow (g := gx) (by have := X6.lt; omega) (wc t1)
  have Al1 := Ay1.lies
  have hy1 := below_setRow hu1 (show w.heap.size ≤ gx by omega) (wc t1)
  obtain ⟨y1, hy1'⟩ : ∃ u, u = u1.setRow gx (wc t1) := ⟨_, rfl⟩
  rw [← hy1'] at Y1 Q1 Al1 hy1
  clear HS1 A1 Ay1 N1 T1 hu1 X6 M6 hw6 A6
  go_wp2_with ((refine wpList_store_row rfl 43 _ _ rfl (gx) (wc t1) rfl rfl _ _ (by exact Xu1) (by kernel_rfl) (by kernel_rfl) (by kernel_rfl) ?_); rw [← hy1']; clear hy1' Xu1)
  rw [rounds_succ]
  obtain ⟨a2, hs2⟩ := step10 Q1 len10.1 wr10.1 (few_g (by decide) (by decide)) (pr_g (by decide)) run10b _ Al1
  have HS2 := Lib.hid hs2
  clear hs2
  go_wp2_with (refine wpList_load_row rfl 43 _ rfl (gx) rfl _ (wc t1) (0, 0) _ (by exact Y1) Try.underlying43 rfl (by kernel_rfl) ?_)
  refine HS2.out.mono ?_
  rintro e u2 ⟨t2, rfl, A2, N2, T2⟩
  have Xu2 := T2.bk Y1 (by omega) (by omega)
  have hu2 := hy1.trans (T2.below (base := w.heap.size) (by omega) (by omega) hy1.size)
  have Y2 := Xu2.setRow (wc t2)
  have Q2 := N2.apart (g' := gx) (gl' := gx) ((Touch.refl gx gx u2).setRow (wc t2)) (by omega) (by omega) (by omega) (by omega)
  have Ay2 := A2.setRow (g := gx) (by have := Y1.lt; omega) (wc t2)
  have Al2 := Ay2.lies
  have hy2 := below_setRow hu2 (show w.heap.size ≤ gx by omega) (wc t2)
  obtain ⟨y2, hy2'⟩ : ∃ u, u = u2.setRow gx (wc t2) := ⟨_, rfl⟩
  rw [← hy2'] at Y2 Q2 Al2 hy2
  clear HS2 A2 Ay2 N2 T2 hu2 Y1 Q1 hy1 Al1
  go_wp2_with ((refine wpList_store_row rfl 43 _ _ rfl (gx) (wc t2) rfl rfl _ _ (by exact Xu2) (by kernel_rfl) (by kernel_rfl) (by kernel_rfl) ?_); rw [← hy2']; clear hy2' Xu2)
  rw [rounds_succ]
  obtain ⟨a3, hs3⟩ := step10 Q2 len10.1 wr10.1 (few_g (by decide) (by decide)) (pr_g (by decide)) run10c _ Al2
  have HS3 := Lib.hid hs3
  clear hs3
  go_wp2_with (refine wpList_load_row rfl 43 _ rfl (gx) rfl _ (wc t2) (0, 0) _ (by exact Y2) Try.underlying43 rfl (by kernel_rfl) ?_)
  refine HS3.out.mono ?_
  rintro e u3 ⟨t3, rfl, A3, N3, T3⟩
  have Xu3 := T3.bk Y2 (by omega) (by omega)
  have hu3 := hy2.trans (T3.below (base := w.heap.size) (by omega) (by omega) hy2.size)
  have Y3 := Xu3.setRow (wc t3)
  have Q3 := N3.apart (g' := gx) (gl' := gx) ((Touch.refl gx gx u3).setRow (wc t3)) (by omega) (by omega) (by omega) (by omega)
  have Ay3 := A3.setRow (g := gx) (by have := Y2.lt; omega) (wc t3)
  have Al3 := Ay3.lies
  have hy3 := below_setRow hu3 (show w.heap.size ≤ gx by omega) (wc t3)
  obtain ⟨y3, hy3'⟩ : ∃ u, u = u3.setRow gx (wc t3) := ⟨_, rfl⟩
  rw [← hy3'] at Y3 Q3 Al3 hy3
  clear HS3 A3 Ay3 N3 T3 hu3 Y2 Q2 hy2 Al2
  go_wp2_with ((refine wpList_store_row rfl 43 _ _ rfl (gx) (wc t3) rfl rfl _ _ (by exact Xu3) (by kernel_rfl) (by kernel_rfl) (by kernel_rfl) ?_); rw [← hy3']; clear hy3' Xu3)
  rw [rounds_succ]
  obtain ⟨a4, hs4⟩ := step10 Q3 len10.1 wr10.1 (few_g (by decide) (by decide)) (pr_g v10r) run10d _ Al3
  have HS4 := Lib.hid hs4
  clear hs4
  go_wp2_with (refine wpList_load_row rfl 43 _ rfl (gx) rfl _ (wc t3) (0, 0) _ (by exact Y3) Try.underlying43 rfl (by kernel_rfl) ?_)
  refine HS4.out.mono ?_
  rintro e u4 ⟨t4, rfl, A4, N4, T4⟩
  have Xu4 := T4.bk Y3 (by omega) (by omega)
  have hu4 := hy3.trans (T4.below (base := w.heap.size) (by omega) (by omega) hy3.size)
  have Y4 := Xu4.setRow (wc t4)
  have Q4 := N4.apart (g' := gx) (gl' := gx) ((Touch.refl gx gx u4).setRow (wc t4)) (by omega) (by omega) (by omega) (by omega)
  have Ay4 := A4.setRow (g := gx) (by have := Y3.lt; omega) (wc t4)
  have Al4 := Ay4.lies
  have hy4 := below_setRow hu4 (show w.heap.size ≤ gx by omega) (wc t4)
  obtain ⟨y4, hy4'⟩ : ∃ u, u = u4.setRow gx (wc t4) := ⟨_, rfl⟩
  rw [← hy4'] at Y4 Q4 Al4 hy4
  clear HS4 A4 Ay4 N4 T4 hu4 Y3 Q3 hy3 Al3
  go_wp2_with ((refine wpList_store_row rfl 43 _ _ rfl (gx) (wc t4) rfl rfl _ _ (by exact Xu4) (by kernel_rfl) (by kernel_rfl) (by kernel_rfl) ?_); rw [← hy4']; clear hy4' Xu4)
  rw [rounds_succ]
  obtain ⟨a5, hs5⟩ := step10 Q4 len10.2.1 wr10.2.1 (few_g (by decide) (by decide)) (pr_g v10r) run10e _ Al4
  have HS5 := Lib.hid hs5
  clear hs5
  go_wp2_with (refine wpList_load_row rfl 43 _ rfl (gx) rfl _ (wc t4) (0, 0) _ (by exact Y4) Try.underlying43 rfl (by kernel_rfl) ?_)
  refine HS5.out.mono ?_
  rintro e u5 ⟨t5, rfl, A5, N5, T5⟩
  have Xu5 := T5.bk Y4 (by omega) (by omega)
  have hu5 := hy4.trans (T5.below (base := w.heap.size) (by omega) (by omega) hy4.size)
  have Y5 := Xu5.setRow (wc t5)
  have Q5 := N5.apart (g' := gx) (gl' := gx) ((Touch.refl gx gx u5).setRow (wc t5)) (by omega) (by omega) (by omega) (by omega)
  have Ay5 := A5.setRow (g := gx) (by have := Y4.lt; omega) (wc t5)
  have Al5 := Ay5.lies
  have hy5 := below_setRow hu5 (show w.heap.size ≤ gx by omega) (wc t5)
  obtain ⟨y5, hy5'⟩ : ∃ u, u = u5.setRow gx (wc t5) := ⟨_, rfl⟩
  rw [← hy5'] at Y5 Q5 Al5 hy5
  clear HS5 A5 Ay5 N5 T5 hu5 Y4 Q4 hy4 Al4
  go_wp2_with ((refine wpList_store_row rfl 43 _ _ rfl (gx) (wc t5) rfl rfl _ _ (by exact Xu5) (by kernel_rfl) (by kernel_rfl) (by kernel_rfl) ?_); rw [← hy5']; clear hy5' Xu5)
  have x4 : y5.cell? ⟨gx, 10, none⟩ = some (.slice t5.rk.ad t5.rk.len t5.rk.cap) := by
    rw [Y5.cells]; rfl
  have rh := Al5.rk
  have szq := hy5.size
  have lx5 := Y5.lt
  have bn : Below y5.heap.size y5 (y5.alloc (.cells #[.int .i64 0] 3)) := (Below.refl _ _).alloc (Nat.le_refl _) _
  have HI := Lib.hid (ints_true (rh.keep bn) (reads_ten y5 0 3))
  have hw9 := hy5.trans (bn.mono szq)
  clear rh bn Al5
  rw [rounds_succ]
  go_wp2_with fail
  refine HI.out.mono ?_
  rintro e w9 ⟨rfl, hb9⟩
  have hw10 := hw9.trans (hb9.mono hw9.size)
  go_wp2
  go_ret
  exact ⟨rfl, hw10⟩
end Go.Proofs.Ytgpdkagmacpghaa.Me

/- StackTakes: what a pop and a push do to the words and to the list. -/
import Derived.Test.YtgpdkagmacpghaaListNum
import Derived.Test.YtgpdkagmacpghaaStacks
namespace Go.Proofs.Ytgpdkagmacpghaa.Me
open Go Go.RowKit Go.Proofs.Ytgpdkagmacpghaa.Gro Go.Proofs.Ytgpdkagmacpghaa.Own Go.Proofs.Ytgpdkagmacpghaa.Wd Go.Proofs.Ytgpdkagmacpghaa.Ap Go.Proofs.Ytgpdkagmacpghaa.Pl Go.Proofs.Ytgpdkagmacpghaa.Wo
set_option linter.unusedVariables false
set_option linter.unusedSimpArgs false
theorem walk_ext {nx : Nat → Int} : ∀ (f : Nat) (seen : List Bool) (out : List Int) (next : Int) (res : List Int), walkL nx f seen out next = some res → ∃ r, res = out ++ r
  | 0, _, _, _, _, h => by simp [walkL] at h
  | f + 1, seen, out, next, res, h => by
    rw [walkL] at h
    split at h
    · simp only [Option.some.injEq] at h
      exact ⟨[], by simp [h]⟩
    · split at h
      · cases h
      · obtain ⟨r, hr⟩ := walk_ext f _ _ _ _ h
        exact ⟨next :: r, by rw [hr]; simp⟩
theorem gsetB (l : List Bool) (w k : Nat) (x d : Bool) : (l.set w x).getD k d = if k = w ∧ w < l.length then x else l.getD k d := by
  rw [List.getD_eq_getElem?_getD, List.getElem?_set, List.getD_eq_getElem?_getD]
  by_cases h : w = k
  · subst h
    by_cases h2 : w < l.length
    · simp [h2]
    · rw [if_pos rfl, if_neg h2, if_neg (by omega), List.getElem?_eq_none (by omega)]
  · rw [if_neg h, if_neg (by omega)]
theorem walk_mono {nx : Nat → Int} : ∀ (f : Nat) (seen : List Bool) (out : List Int) (next : Int) (r : List Int), walkL nx f seen out next = some (out ++ r) → ∀ (f' : Nat) (seen' : List Bool) (out' : List Int), f ≤ f' → seen'.length = seen.length → (∀ i, seen'.getD i true = true → seen.getD i true = true) → walkL nx f' seen' out' next = some (out' ++ r)
  | 0, _, _, _, _, h, _, _, _, _, _, _ => by simp [walkL] at h
  | f + 1, seen, out, next, r, h, f', seen', out', hf, hl, hs => by
    obtain ⟨k, rfl⟩ : ∃ k, f' = k + 1 := ⟨f' - 1, by omega⟩
    rw [walkL] at h ⊢
    by_cases hn : next < 0
    · rw [if_pos hn] at h ⊢
      simp only [Option.some.injEq] at h
      have hr : r = [] := by
        have := congrArg List.length h
        simp at this
        exact this
      subst hr
      simp
    · rw [if_neg hn] at h ⊢
      by_cases hc : (seen.length : Int) ≤ next ∨ seen.getD next.toNat true = true
      · rw [if_pos hc] at h
        cases h
      · rw [if_neg hc] at h
        rw [if_neg (by
          rintro (q | q)
          · exact hc (.inl (by omega))
          · exact hc (.inr (hs _ q)))]
        obtain ⟨r', hr'⟩ := walk_ext _ _ _ _ _ h
        have e : r = next :: r' := by
          have e1 : out ++ r = out ++ (next :: r') := by rw [hr']; simp
          exact List.append_cancel_left e1
        subst e
        have h2 : walkL nx f (seen.set next.toNat true) (out ++ [next]) (nx next.toNat) = some ((out ++ [next]) ++ r') := by rw [h]; simp
        have := walk_mono f _ _ _ _ h2 k (seen'.set next.toNat true) (out' ++ [next]) (by omega) (by simp [hl]) (fun i hi => by
          rw [gsetB] at hi ⊢
          by_cases hin : i = next.toNat ∧ next.toNat < seen.length
          · rw [if_pos hin]
          · rw [if_neg hin]
            rw [if_neg (by omega)] at hi
            exact hs i hi)
        rw [this]
        simp
theorem walk_congr {nx nx' : Nat → Int} : ∀ (f : Nat) (seen : List Bool) (out : List Int) (next : Int), (∀ i, i < seen.length → nx i = nx' i) → walkL nx f seen out next = walkL nx' f seen out next
  | 0, _, _, _, _ => rfl
  | f + 1, seen, out, next, h => by
    rw [walkL, walkL]
    split
    · rfl
    · rename_i hn
      split
      · rfl
      · rename_i hc
        have hlt : next.toNat < seen.length := by
          have : ¬ ((seen.length : Int) ≤ next) := fun q => hc (.inl q)
          omega
        rw [h _ hlt]
        exact walk_congr f _ _ _ (fun i hi => h i (by simpa using hi))
section
variable {c : Cfg} {L : List Int} {e : Bool}
def hdN (e : Bool) : Nat := if e then 2 else 1
theorem skH_eq (e : Bool) : skH e = (hdN e : Int) := by cases e <;> rfl
theorem list_top (h : chk c = 0) (hs : (L.length : Int) = siz c) {k0 : Int} {tl : List Int} (hl : listR c L e = some (k0 :: tl)) :
    0 ≤ k0 ∧ k0 < lsN c e ∧ low32 (L.getD (hdN e) 0) = k0 + 1 ∧ walkL (lsNx c L e) ((lsN c e).toNat + 1) (List.replicate (lsN c e).toNat false) [] (lsNx c L e k0.toNat) = some tl := by
  rw [listR, if_pos ⟨h, hs⟩, skH_eq, Int.toNat_natCast] at hl
  have hle := lsN_le c h e
  obtain ⟨x, hx⟩ : ∃ x, x = low32 (L.getD (hdN e) 0) - 1 := ⟨_, rfl⟩
  rw [← hx] at hl
  rw [walkL] at hl
  by_cases hn : x < 0
  · rw [if_pos hn] at hl
    cases hl
  · rw [if_neg hn] at hl
    split at hl
    · cases hl
    · rename_i hc
      obtain ⟨r, hr⟩ := walk_ext _ _ _ _ _ hl
      have e1 : k0 = x ∧ tl = r := by simpa using hr
      obtain ⟨rfl, rfl⟩ := e1
      have hlt : ¬ (((List.replicate (lsN c e).toNat false).length : Int) ≤ k0) := fun q => hc (.inl q)
      simp only [List.length_replicate] at hlt
      refine ⟨by omega, by omega, by omega, ?_⟩
      have h2 : walkL (lsNx c L e) (lsN c e).toNat ((List.replicate (lsN c e).toNat false).set k0.toNat true) ([] ++ [k0]) (lsNx c L e k0.toNat) = some (([] ++ [k0]) ++ tl) := by rw [hl]; rfl
      have := walk_mono _ _ _ _ _ h2 ((lsN c e).toNat + 1) (List.replicate (lsN c e).toNat false) [] (by omega) (by simp) (fun i hi => by
        rw [gsetB]
        split
        · rfl
        · exact hi)
      simpa using this
theorem list_nil (h : chk c = 0) (hs : (L.length : Int) = siz c) (hl : listR c L e = some []) : low32 (L.getD (hdN e) 0) = 0 := by
  rw [listR, if_pos ⟨h, hs⟩, skH_eq, Int.toNat_natCast] at hl
  obtain ⟨x, hx⟩ : ∃ x, x = low32 (L.getD (hdN e) 0) - 1 := ⟨_, rfl⟩
  rw [← hx] at hl
  rw [walkL] at hl
  have h0 : 0 ≤ low32 (L.getD (hdN e) 0) := (low32_lt _).1
  by_cases hn : x < 0
  · omega
  · rw [if_neg hn] at hl
    split at hl
    · cases hl
    · obtain ⟨r, hr⟩ := walk_ext _ _ _ _ _ hl
      simp at hr
/-- A link lies behind the heads. -/
theorem lk_big (h : chk c = 0) {n : Nat} (hn : (n : Int) < lsN c e) : 3 ≤ skLk c e (n : Int) := by
  have hok := chk_ok.1 h
  have hb := okB_of_ok hok
  have h1 := hok.ww
  have h2 := hok.sl
  have h5 := hok.en
  have h4 := hok.wd
  cases e
  · have ht : tot c = c.sl * c.bl := (tot_ok hb).1
    simp only [lsN, Bool.false_eq_true, if_false] at hn
    have hh : hasB c (n : Int) (tot c) = true := by unfold hasB; rw [hb]; simp; omega
    have e1 : skLk c false (n : Int) = 3 + c.ww + c.sl + 2 * c.en + (n : Int) * (1 + c.wd) := by simp only [skLk, Bool.false_eq_true, if_false]; rw [aBlk, if_pos hh]
    have m4 : 0 ≤ (n : Int) * (1 + c.wd) := Int.mul_nonneg (by omega) (by omega)
    omega
  · simp only [lsN, if_true] at hn
    have hh : hasB c (n : Int) c.en = true := by unfold hasB; rw [hb]; simp; omega
    have e1 : skLk c true (n : Int) = 3 + c.ww + c.sl + 2 * (n : Int) + 1 := by simp only [skLk, if_true]; rw [aEnl, if_pos hh]
    omega
theorem hdN_lt (e : Bool) : hdN e < 3 := by cases e <;> decide
theorem gsetI (l : List Int) (w k : Nat) (x d : Int) : (l.set w x).getD k d = if k = w ∧ w < l.length then x else l.getD k d := by
  rw [List.getD_eq_getElem?_getD, List.getElem?_set, List.getD_eq_getElem?_getD]
  by_cases h : w = k
  · subst h
    by_cases h2 : w < l.length
    · simp [h2]
    · rw [if_pos rfl, if_neg h2, if_neg (by omega), List.getElem?_eq_none (by omega)]
  · rw [if_neg h, if_neg (by omega)]
/-- The list of words whose head was swapped for the top's link. -/
theorem list_pop (h : chk c = 0) (hs : (L.length : Int) = siz c) {k0 : Int} {tl : List Int} (hl : listR c L e = some (k0 :: tl)) {W1 : Int} (hW : low32 W1 - 1 = lsNx c L e k0.toNat) : listR c (L.set (hdN e) W1) e = some tl := by
  obtain ⟨h0, h1, h2, h3⟩ := list_top h hs hl
  have hlen : hdN e < L.length := by have := siz_ge h; have := hdN_lt e; omega
  rw [listR, if_pos ⟨h, by rw [List.length_set]; exact hs⟩, skH_eq, Int.toNat_natCast, gsetI, if_pos ⟨rfl, hlen⟩, hW, ← h3]
  refine walk_congr _ _ _ _ (fun i hi => ?_)
  have hi2 : (i : Int) < lsN c e := by have := lsN_le c h e; simp at hi; omega
  have hb := lk_big h hi2
  have := hdN_lt e
  unfold lsNx
  rw [gsetI, if_neg (by omega)]
theorem list_push (h : chk c = 0) (hs : (L.length : Int) = siz c) {k0 : Int} {tl : List Int} (hl : listR c L e = some (k0 :: tl)) {j : Nat} (hj : skLk c e k0 = (j : Int)) {x W1 W2 : Int} (hx : low32 x = low32 (L.getD j 0)) (hW : low32 W2 = k0 + 1) :
    listR c (((L.set (hdN e) W1).set j x).set (hdN e) W2) e = some (k0 :: tl) := by
  obtain ⟨h0, h1, h2, h3⟩ := list_top h hs hl
  have hlen : hdN e < L.length := by have := siz_ge h; have := hdN_lt e; omega
  have hl0 := hl
  rw [listR, if_pos ⟨h, hs⟩, skH_eq, Int.toNat_natCast, h2] at hl0
  rw [listR, if_pos ⟨h, by simp only [List.length_set]; exact hs⟩, skH_eq, Int.toNat_natCast, gsetI, if_pos ⟨rfl, by simpa using hlen⟩, hW, ← hl0]
  refine walk_congr _ _ _ _ (fun i hi => ?_)
  have hi2 : (i : Int) < lsN c e := by have := lsN_le c h e; simp at hi; omega
  have hb := lk_big h hi2
  have := hdN_lt e
  unfold lsNx
  rw [gsetI, if_neg (by omega), gsetI]
  by_cases hij : (skLk c e (i : Int)).toNat = j ∧ j < (L.set (hdN e) W1).length
  · rw [if_pos hij, hx, hij.1]
  · rw [if_neg hij, gsetI, if_neg (by omega)]
end
section
variable {c : Cfg} {a : Acc} {L : List Int} {e : Bool}
theorem sk_go (p : Pl) (k : Int) (hk : 10 ≤ k ∧ k ≤ 15) (hp : p.ln = skLn e k) : stackLn c a L p = skGo c a L p e := by
  unfold stackLn
  cases e
  · rw [decide_eq_false (by rw [hp]; simp [skLn]; omega)]
  · rw [decide_eq_true (by rw [hp]; simp [skLn]; omega)]
theorem sk_ne {k m : Int} (h : k ≠ m) : skLn e k ≠ skLn e m := by unfold skLn; cases e <;> simp <;> omega
theorem stk10z (hz : low32 (ldV L (skH e)) = 0) : (stackLn c a L { pz with ln := skLn e 10 }).fin = ⟨acc L 1 (skH e) 0 0, L, { pz with v := ldV L (skH e) }, 2, true⟩ := by
  rw [sk_go _ 10 (by omega) rfl]
  unfold skGo
  rw [if_pos rfl]
  unfold sk10
  rw [hz]
  simp only [if_true]
  rw [Res.fin1 (show (2 : Int) ≠ 0 by decide)]
  rfl
theorem stk10n (hz : low32 (ldV L (skH e)) ≠ 0) : (stackLn c a L { pz with ln := skLn e 10 }).fin = ⟨acc L 1 (skH e) 0 0, L, { pz with v := ldV L (skH e), h := low32 (ldV L (skH e)), ln := skLn e 11 }, 0, true⟩ := by
  rw [sk_go _ 10 (by omega) rfl]
  unfold skGo
  rw [if_pos rfl]
  unfold sk10
  rw [if_neg hz, if_neg hz, Res.fin0 rfl]
theorem stk11 (V h : Int) : (stackLn c a L { pz with v := V, h := h, ln := skLn e 11 }).fin = ⟨acc L 1 (skLk c e (wrap64 (h - 1))) 0 0, L, { pz with v := V, h := h, n := ldV L (skLk c e (wrap64 (h - 1))), ln := skLn e 12 }, 0, true⟩ := by
  rw [sk_go _ 11 (by omega) rfl]
  unfold skGo
  rw [if_neg (sk_ne (by decide)), if_pos rfl]
  unfold sk11
  rw [Res.fin0 rfl]
theorem stk12 (V h n : Int) (hb : csB L (skH e) V = true) : (stackLn c a L { pz with v := V, h := h, n := n, ln := skLn e 12 }).fin = ⟨acc L 3 (skH e) V (skNew (low32 n - 1) V), csL L (skH e) V (skNew (low32 n - 1) V), { pz with v := V, h := h, n := n }, 1, true⟩ := by
  rw [sk_go _ 12 (by omega) rfl]
  unfold skGo
  rw [if_neg (sk_ne (by decide)), if_neg (sk_ne (by decide)), if_pos rfl]
  unfold sk12 skSwap
  simp only [hb, if_true]
  rw [Res.fin1 (show (1 : Int) ≠ 0 by decide)]
  rfl
theorem stk13 (q : Int) : (stackLn c a L { pz with ln := skLn e 13, k := q, i := q }).fin = ⟨acc L 1 (skH e) 0 0, L, { pz with ln := skLn e 14, k := q, i := q, v := ldV L (skH e) }, 0, true⟩ := by
  rw [sk_go _ 13 (by omega) rfl]
  unfold skGo
  rw [if_neg (sk_ne (by decide)), if_neg (sk_ne (by decide)), if_neg (sk_ne (by decide)), if_pos rfl]
  unfold sk13
  rw [Res.fin0 rfl]
theorem stk14 (q V : Int) : (stackLn c a L { pz with ln := skLn e 14, k := q, i := q, v := V }).fin = ⟨acc L 2 (skLk c e (wrap64 (q - 1))) (low32 V) 0, stL L (skLk c e (wrap64 (q - 1))) (low32 V), { pz with ln := skLn e 15, k := q, i := q, v := V }, 0, true⟩ := by
  rw [sk_go _ 14 (by omega) rfl]
  unfold skGo
  rw [if_neg (sk_ne (by decide)), if_neg (sk_ne (by decide)), if_neg (sk_ne (by decide)), if_neg (sk_ne (by decide)), if_pos rfl]
  unfold sk14
  have e1 : skPut e { pz with ln := skLn e 14, k := q, i := q, v := V } = wrap64 (q - 1) := by cases e <;> rfl
  rw [e1, Res.fin0 rfl]
theorem stk15 (q V : Int) (hb : csB L (skH e) V = true) : (stackLn c a L { pz with ln := skLn e 15, k := q, i := q, v := V }).fin = ⟨acc L 3 (skH e) V (skNew (wrap64 (q - 1)) V), csL L (skH e) V (skNew (wrap64 (q - 1)) V), { pz with k := q, i := q, v := V }, 1, true⟩ := by
  rw [sk_go _ 15 (by omega) rfl]
  unfold skGo
  rw [if_neg (sk_ne (by decide)), if_neg (sk_ne (by decide)), if_neg (sk_ne (by decide)), if_neg (sk_ne (by decide)), if_neg (sk_ne (by decide)), if_pos rfl]
  unfold sk15 skSwap
  have e1 : skPut e { pz with ln := skLn e 15, k := q, i := q, v := V } = wrap64 (q - 1) := by cases e <;> rfl
  rw [e1]
  simp only [hb, if_true]
  rw [Res.fin1 (show (1 : Int) ≠ 0 by decide)]
  rfl
/-- Everything that the law asks of the words. -/
structure StkD (c : Cfg) (e : Bool) (L L1 L2 L3 : List Int) (k0 : Int) (tl : List Int) (V n W1 : Int) : Prop where
  top : low32 V = k0 + 1
  rk : 0 ≤ k0 ∧ k0 ≤ 1000
  rV : 0 ≤ V ∧ V < 18446744073709551616
  rn : 0 ≤ n ∧ n < 18446744073709551616
  rW : 0 ≤ W1 ∧ W1 < 18446744073709551616
  eV : ldV L (skH e) = V
  en : ldV L (skLk c e (wrap64 (k0 + 1 - 1))) = n
  e1 : csB L (skH e) V = true ∧ csL L (skH e) V (skNew (low32 n - 1) V) = L1
  eW : ldV L1 (skH e) = W1
  e2 : stL L1 (skLk c e (wrap64 (k0 + 1 - 1))) (low32 W1) = L2
  e3 : csB L2 (skH e) W1 = true ∧ csL L2 (skH e) W1 (skNew (wrap64 (k0 + 1 - 1)) W1) = L3
  l1 : L1.length = L.length ∧ WR L1 ∧ listR c L1 e = some tl
  l2 : L2.length = L.length ∧ WR L2
  l3 : L3.length = L.length ∧ WR L3 ∧ listR c L3 e = some (k0 :: tl)
  now : ldV L3 (skH e) / 4294967296 = (V / 4294967296 + 2) % 4294967296
theorem stk_data (h : chk c = 0) (hs : (L.length : Int) = siz c) (hL : WR L) {k0 : Int} {tl : List Int} (hl : listR c L e = some (k0 :: tl)) : ∃ L1 L2 L3 V n W1, StkD c e L L1 L2 L3 k0 tl V n W1 := by
  obtain ⟨h0, h1, h2, h3⟩ := list_top h hs hl
  have hle := lsN_le c h e
  have hlen : hdN e < L.length := by have := siz_ge h; have := hdN_lt e; omega
  have hkw : wrap64 (k0 + 1 - 1) = k0 := by unfold wrap64; omega
  obtain ⟨j, hj, hjl⟩ := lk_in (L := L) (e := e) h hs (n := k0.toNat) (by omega)
  rw [show ((k0.toNat : Nat) : Int) = k0 by omega] at hj
  have hbig := lk_big (e := e) h (n := k0.toNat) (by omega)
  rw [show ((k0.toNat : Nat) : Int) = k0 by omega, hj] at hbig
  have hh3 := hdN_lt e
  have gd : ∀ (M : List Int) (i : Nat) (hi : i < M.length), ldV M (i : Int) = M.getD i 0 := fun M i hi => by rw [ldV_at hi, List.getD_eq_getElem?_getD, List.getElem?_eq_getElem hi]; rfl
  have cs : ∀ (M : List Int) (hi : hdN e < M.length), csB M (skH e) (M.getD (hdN e) 0) = true := fun M hi => by rw [skH_eq, csB_at hi, List.getD_eq_getElem?_getD, List.getElem?_eq_getElem hi]; simp
  obtain ⟨V, hV⟩ : ∃ V, V = L.getD (hdN e) 0 := ⟨_, rfl⟩
  obtain ⟨n, hn⟩ : ∃ n, n = L.getD j 0 := ⟨_, rfl⟩
  have rV : 0 ≤ V ∧ V < 18446744073709551616 := by rw [hV, ← gd _ _ hlen]; exact ldV_wr hL _
  have rn : 0 ≤ n ∧ n < 18446744073709551616 := by rw [hn, ← gd _ _ hjl]; exact ldV_wr hL _
  have rl := low32_lt n
  have hlow : low32 (skNew (low32 n - 1) V) = low32 n := by unfold skNew Pk.hd low32 at *; omega
  have hver : skNew (low32 n - 1) V / 4294967296 = (V / 4294967296 + 1) % 4294967296 := by unfold skNew Pk.hd at *; omega
  obtain ⟨W1, hW1⟩ : ∃ W1, W1 = skNew (low32 n - 1) V := ⟨_, rfl⟩
  rw [← hW1] at hlow hver
  have rW : 0 ≤ W1 ∧ W1 < 18446744073709551616 := by rw [hW1]; exact skNew_rng _ _
  have hW2 : low32 (skNew k0 W1) = k0 + 1 := by unfold skNew Pk.hd low32; omega
  have hv2 : skNew k0 W1 / 4294967296 = (V / 4294967296 + 2) % 4294967296 := by unfold skNew Pk.hd; omega
  have c1 : csL L (skH e) V (skNew (low32 n - 1) V) = L.set (hdN e) W1 := by rw [← hW1, csL_yes (by rw [hV]; exact cs L hlen), skH_eq, Int.toNat_natCast]
  have len1 : hdN e < (L.set (hdN e) W1).length := by rw [List.length_set]; exact hlen
  have g1 : (L.set (hdN e) W1).getD (hdN e) 0 = W1 := by rw [gsetI, if_pos ⟨rfl, hlen⟩]
  have s2 : stL (L.set (hdN e) W1) (j : Int) (low32 W1) = (L.set (hdN e) W1).set j (low32 W1) := stL_at (by rw [List.length_set]; exact hjl) _
  have len2 : hdN e < ((L.set (hdN e) W1).set j (low32 W1)).length := by simp only [List.length_set]; exact hlen
  have g2 : ((L.set (hdN e) W1).set j (low32 W1)).getD (hdN e) 0 = W1 := by rw [gsetI, if_neg (by omega)]; exact g1
  have cs2 := cs _ len2
  rw [g2] at cs2
  have wr1 : WR (L.set (hdN e) W1) := wr_set hL _ rW.1 rW.2
  have rlW := low32_lt W1
  have wr2 : WR ((L.set (hdN e) W1).set j (low32 W1)) := wr_set wr1 _ rlW.1 (by omega)
  have c3 : csL ((L.set (hdN e) W1).set j (low32 W1)) (skH e) W1 (skNew k0 W1) = ((L.set (hdN e) W1).set j (low32 W1)).set (hdN e) (skNew k0 W1) := by rw [csL_yes cs2, skH_eq, Int.toNat_natCast]
  refine ⟨_, _, _, V, n, W1, ⟨by rw [hV]; exact h2, by omega, rV, rn, rW, by rw [skH_eq, gd _ _ hlen, hV], by rw [hkw, hj, gd _ _ hjl, hn], ⟨by rw [hV]; exact cs L hlen, c1⟩, by rw [skH_eq, gd _ _ len1, g1], by rw [hkw, hj, s2], ⟨cs2, by rw [hkw]; exact c3⟩, ⟨by rw [List.length_set], wr1, list_pop h hs hl ?_⟩, ⟨by simp only [List.length_set], wr2⟩, ⟨by simp only [List.length_set], wr_set wr2 _ (skNew_rng _ _).1 (skNew_rng _ _).2, list_push h hs hl hj ?_ hW2⟩, ?_⟩⟩
  · rw [hlow, hn]
    unfold lsNx
    rw [show ((k0.toNat : Nat) : Int) = k0 by omega, hj, Int.toNat_natCast]
  · rw [← hn, hlow]
    unfold low32
    omega
  · rw [skH_eq, gd _ _ (by simp only [List.length_set]; exact hlen), gsetI, if_pos ⟨rfl, by simp only [List.length_set]; exact hlen⟩]
    exact hv2
end
theorem walk_len {nx : Nat → Int} : ∀ (f : Nat) (seen : List Bool) (out : List Int) (next : Int) (res : List Int), walkL nx f seen out next = some res → res.length ≤ out.length + f
  | 0, _, _, _, _, h => by simp [walkL] at h
  | f + 1, seen, out, next, res, h => by
    rw [walkL] at h
    split at h
    · simp only [Option.some.injEq] at h
      subst h
      omega
    · split at h
      · cases h
      · have := walk_len f _ _ _ _ h
        simp at this
        omega
theorem stk_short {c : Cfg} {L : List Int} {e : Bool} (hm : L.length ≤ 1000) (h : chk c = 0) (hs : (L.length : Int) = siz c) {k0 : Int} {tl : List Int} (hl : listR c L e = some (k0 :: tl)) : tl.length ≤ 100000 := by
  rw [listR, if_pos ⟨h, hs⟩] at hl
  have := walk_len _ _ _ _ _ hl
  have hle := lsN_le c h e
  simp at this
  omega
end Go.Proofs.Ytgpdkagmacpghaa.Me

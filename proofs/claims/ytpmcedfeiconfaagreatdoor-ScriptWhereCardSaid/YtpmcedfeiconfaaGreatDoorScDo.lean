/- Layer 21: the reader's method do, walked (made by genscdo.py). -/
import Derived.Test.YtpmcedfeiconfaaGreatDoorScDoA
namespace Go.Proofs.YtpmcedfeiconfaaGreatDoor.Scw
open Go Go.RowKit Go.ChangeMaps Go.Proofs.YtpmcedfeiconfaaGreatDoor.Gro Go.Proofs.YtpmcedfeiconfaaGreatDoor.Own Go.Proofs.YtpmcedfeiconfaaGreatDoor.Mr Go.Proofs.YtpmcedfeiconfaaGreatDoor.Opn Go.Proofs.YtpmcedfeiconfaaGreatDoor.Opw Go.Proofs.YtpmcedfeiconfaaGreatDoor.Pl Go.Proofs.YtpmcedfeiconfaaGreatDoor.Scr Go.Proofs.YtpmcedfeiconfaaGreatDoor.Wd
set_option linter.unusedVariables false
set_option linter.unusedSimpArgs false
theorem own_slice {w : World} {B : Nat} {e : TypeId} {sz : Nat} {v : Value} {n : Nat} {xs : List Value} (h : w.ownsRow B e sz v n xs) : ∃ a c, v = .slice a n c ∧ n ≤ c ∧ c ≤ maxLen := by
  rcases h.2 with ⟨rfl, rfl⟩ | ⟨g, cap, cur, rfl, _, _, h1, h2, _⟩
  · exact ⟨none, 0, rfl, Nat.le_refl _, Nat.zero_le _⟩
  · exact ⟨_, cap, rfl, h1, h2⟩
theorem bk_row {w : World} {B g : Nat} {e t : TypeId} {sz : Nat} {v : Value} {n : Nat} {xs : List Value} {cs : Array Value} (hb : Bk w g cs t) (h : w.ownsRow B e sz v n xs) (ht : t ≠ e) : v.ownBlock ≠ some g := fun hq => by
  obtain ⟨c, hc⟩ := own_block h g hq
  unfold Bk at hb
  rw [hb] at hc
  injection hc with hc
  injection hc with _ h2
  exact ht h2
/-- What stays while the programs are filled up. -/
structure KeepD (B b gb : Nat) (cs : Array Value) (o : OpD) (vk : Value) (ks : List Int) (w wr : World) : Prop where
  rd : Bk wr b cs 71
  op : Bk wr gb (opC o) 50
  pk : OwnI B wr vk ks
  far : Far B b w wr
  sz : B ≤ wr.heap.size
theorem KeepD.grown {B b gb : Nat} {cs : Array Value} {o : OpD} {vk : Value} {ks : List Int} {w wr w2 : World} {row : Option Nat} (h : KeepD B b gb cs o vk ks w wr) (hbB : b < B) (G : wr.grownBy w2 row) (h1 : ∀ k, row = some k → B ≤ k) (h2 : row ≠ some gb) (h3 : ∀ g, vk.ownBlock = some g → row ≠ some g) : KeepD B b gb cs o vk ks w w2 :=
  ⟨(G.block b h.rd.lt (fun e => by have := h1 b e.symm; omega)).trans h.rd, (G.block gb h.op.lt (fun e => h2 e.symm)).trans h.op, own_same h.pk (fun g hg => G.block g (World.ownsRow.lt h.pk g hg).2 (fun e => h3 g hg e.symm)), h.far.trans (Far.grown G h.sz h1), Nat.le_trans h.sz G.size⟩
theorem KeepD.g2 {B b gb : Nat} {cs : Array Value} {o : OpD} {vk : Value} {ks : List Int} {w wr w2 : World} {r1 r2 : Option Nat} (h : KeepD B b gb cs o vk ks w wr) (hbB : b < B) (G : G2 r1 r2 wr w2) (h1 : ∀ k, r1 = some k → B ≤ k) (h1' : ∀ k, r2 = some k → B ≤ k)
    (h3 : ∀ g, vk.ownBlock = some g → r1 ≠ some g ∧ r2 ≠ some g) : Bk w2 b cs 71 ∧ OwnI B w2 vk ks ∧ Far B b w w2 :=
  ⟨(G.block b h.rd.lt (fun e => by have := h1 b e.symm; omega) (fun e => by have := h1' b e.symm; omega)).trans h.rd, own_same h.pk (fun g hg => G.block g (World.ownsRow.lt h.pk g hg).2 (fun e => (h3 g hg).1 e.symm) (fun e => (h3 g hg).2 e.symm)), h.far.trans (G.far h.sz h1 h1')⟩
set_option maxRecDepth 100000 in
set_option maxHeartbeats 16000000 in
theorem fDo (B b m : Nat) (st : RdS) (l : List UInt8) (hl : l.length ≤ 100000) (G : GoodR st) (hww : st.s.c.ww ≤ 8) (w : World) (L : Lb w) (h : RdW B b m st w) :
    Calls Tryz.prog 53 #[.pointer (some ⟨b, 0, none⟩), strV l] w (DoPost B b m st l w) := by
  show Calls _ _ _ _ (DoP B b m st (Lib.cut l [32]).1 (Lib.cut l [32]).2.1 w)
  obtain ⟨hbB, hBw, vp, vk, U, B0, OP, OK⟩ := h
  have HCC := fCut l 32 (by omega) w L
  have HLL := cut_len l 32
  obtain ⟨W1, hW1⟩ : ∃ q, q = (Lib.cut l [32]).1 := ⟨_, rfl⟩
  obtain ⟨T1, hT1⟩ : ∃ q, q = (Lib.cut l [32]).2.1 := ⟨_, rfl⟩
  obtain ⟨E1, hE1⟩ : ∃ q, q = (Lib.cut l [32]).2.2 := ⟨_, rfl⟩
  rw [← hW1, ← hT1] at HLL
  rw [← hW1, ← hT1, ← hE1] at HCC
  rw [← hW1, ← hT1]
  have HC1 := Lib.hid HCC
  have HL := Lib.hid L
  have HB0 := Lib.hid B0
  have HOP := Lib.hid OP
  have HOK := Lib.hid OK
  have HG := Lib.hid G
  have HWL : W1.length ≤ 100000 := by omega
  have HTL : T1.length ≤ 100000 := by omega
  have HWL' := Lib.hid HWL
  have HTL' := Lib.hid HTL
  obtain ⟨ap, cp, rfl, hcp, hcm⟩ := own_slice OP.outer
  have hpl8 := G.pl
  obtain ⟨np, hnp⟩ : ∃ q, q = st.s.p.length := ⟨_, rfl⟩
  rw [← hnp] at hcp hpl8 HB0
  have HNP := Lib.hid hnp
  have HUB : RowKit.Hid (∀ i g, (U.getD i nilV).ownBlock = some g → g < w.heap.size) := Lib.hid (fun i g hg => (World.ownsRow.lt (OP.inner i) g hg).2)
  clear B0 OP OK L HCC HLL hW1 hT1 hE1 G HWL HTL hnp
  go_enter Tryz.func53, Tryz.ntmps53
  go_wp2_with fail
  refine HC1.out.mono ?_
  rintro e w1 ⟨rfl, hb1⟩
  have X1 := Lib.hid hb1
  have HNU := Lib.hid (fNumber W1 (by have := HWL'.out; omega) w1 (HL.out.keep hb1))
  clear hb1
  go_wp2_with fail
  refine HNU.out.mono ?_
  rintro e w2 ⟨v, h0, h1, rfl, hb2, hv⟩
  have X2 := Lib.hid (X1.out.trans (hb2.mono X1.out.size))
  have HV := Lib.hid hv
  have HPP := fParse T1 HTL'.out w2 (HL.out.keep X2.out)
  unfold ParsePost at HPP
  obtain ⟨oo, hoo⟩ : ∃ q, q = (parseL T1).getD OpD.zero := ⟨_, rfl⟩
  obtain ⟨ee, hee⟩ : ∃ q : Int, q = (if (parseL T1).isSome = true then 0 else 3) := ⟨_, rfl⟩
  rw [← hoo, ← hee] at HPP
  have HP := Lib.hid HPP
  have HOO := Lib.hid hoo
  have HEE := Lib.hid hee
  clear hb2 hv HPP hoo hee
  go_wp2_with fail
  refine HP.out.mono ?_
  rintro e w3 ⟨rfl, hb3⟩
  have X3 := Lib.hid (X2.out.trans (hb3.mono X2.out.size))
  have Z := Bk.new w3 (opC OpD.zero) 50
  have BO := boxO w3 oo
  have bb := boxO_below w3 oo
  obtain ⟨w4, hw4⟩ : ∃ q, q = (w3.alloc (.cells (opC OpD.zero) 50)).setRow w3.heap.size (opC oo) := ⟨_, rfl⟩
  rw [← hw4] at BO bb
  have X4 := Lib.hid (X3.out.trans (bb.mono X3.out.size))
  have B4 := HB0.out.keep X4.out
  have x4 := B4.cells
  have lx4 := B4.lt
  have HB4 := Lib.hid B4
  have HBO := Lib.hid BO
  clear hb3 bb B4 BO
  cases hr : rdW W1 with
  | none =>
    have HR : RowKit.Hid (∀ q, DoOut B b m st false w4 (rdW W1) q) := Lib.hid (fun q => by rw [hr]; exact rfl)
    clear hr
    simp only [Option.isSome_none]
    go_wp2_with (first | (refine wpList_alloc_op0 rfl rfl ?_) | (refine wpList_store_row rfl 50 _ _ rfl w3.heap.size (opC oo) rfl rfl _ _ (by exact Z) (by kernel_rfl) (by kernel_rfl) (by kernel_rfl) ?_; rw [← hw4]; clear hw4 Z))
    go_ret
    exact ⟨false, rfl, Far.of X4.out hBw, HR.out _⟩
  | some k =>
    obtain rfl := HV.out k hr
    have HR := Lib.hid hr
    clear hr
    simp only [Option.isSome_some]
    cases hp : parseL T1 with
    | none =>
      have he3 : ee = 3 := by rw [HEE.out, hp]; rfl
      subst he3
      have HR2 : RowKit.Hid (DoOut B b m st false w4 (rdW W1) (parseL T1)) := Lib.hid (by rw [HR.out, hp]; exact rfl)
      clear hp
      go_wp2_with (first | (refine wpList_alloc_op0 rfl rfl ?_) | (refine wpList_store_row rfl 50 _ _ rfl w3.heap.size (opC oo) rfl rfl _ _ (by exact Z) (by kernel_rfl) (by kernel_rfl) (by kernel_rfl) ?_; rw [← hw4]; clear hw4 Z))
      go_ret
      exact ⟨false, rfl, Far.of X4.out hBw, HR2.out⟩
    | some o =>
      have he0 : ee = 0 := by rw [HEE.out, hp]; rfl
      obtain rfl : oo = o := by rw [HOO.out, hp]; rfl
      subst he0
      have HR2 := Lib.hid hp
      clear hp
      by_cases hw : (k : Int) < st.s.c.ww
      case neg =>
        have hd : st.s.c.ww ≤ (k : Int) := by omega
        have HX : RowKit.Hid ¬ ((k : Int) < st.s.c.ww ∧ st.s.p.length ≤ k + 1) := Lib.hid (fun q => hw q.1)
        clear hw
        go_wp2_with (first | (refine wpList_alloc_op0 rfl rfl ?_) | (refine wpList_store_row rfl 50 _ _ rfl w3.heap.size (opC oo) rfl rfl _ _ (by exact Z) (by kernel_rfl) (by kernel_rfl) (by kernel_rfl) ?_; rw [← hw4]; clear hw4 Z))
        go_ret
        refine ⟨false, rfl, Far.of X4.out hBw, ?_⟩
        rw [HR.out, HR2.out]
        exact doOut_no HX.out
      have hd : ¬ st.s.c.ww ≤ (k : Int) := by omega
      have hk8 : (k : Int) < 8 := by omega
      have hsum : IntKind.i64.wrap ((k : Int) + 1) = (k : Int) + 1 := IntWalk.i64_in _ (by omega)
      by_cases hpl : np ≤ k + 1
      case neg =>
        have hd2 : (k : Int) + 1 < (np : Int) := by omega
        have HX : RowKit.Hid ¬ ((k : Int) < st.s.c.ww ∧ st.s.p.length ≤ k + 1) := Lib.hid (fun q => by have := q.2; rw [← HNP.out] at this; omega)
        clear hw hpl
        go_wp2_with (first | (refine wpList_alloc_op0 rfl rfl ?_) | (refine wpList_store_row rfl 50 _ _ rfl w3.heap.size (opC oo) rfl rfl _ _ (by exact Z) (by kernel_rfl) (by kernel_rfl) (by kernel_rfl) ?_; rw [← hw4]; clear hw4 Z))
        go_ret
        refine ⟨false, rfl, Far.of X4.out hBw, ?_⟩
        rw [HR.out, HR2.out]
        exact doOut_no HX.out
      have hd2 : ¬ (k : Int) + 1 < (np : Int) := by omega
      have HX : RowKit.Hid ((k : Int) < st.s.c.ww ∧ st.s.p.length ≤ k + 1) := Lib.hid ⟨hw, by rw [← HNP.out]; exact hpl⟩
      have KD : KeepD B b w3.heap.size (rdC st.s.c (.slice ap np cp) vk st.b m) oo vk st.s.k w w4 := ⟨HB4.out, HBO.out, own_same HOK.out (fun g hg => X4.out.block g (World.ownsRow.lt HOK.out g hg).2), Far.of X4.out hBw, Nat.le_trans hBw X4.out.size⟩
      have HKD := Lib.hid KD
      have OP4 : OwnP B w4 (.slice ap np cp) (fillU U 0) (fillP st.s.p 0) := by
        have := HOP.out.keep X4.out
        unfold fillU fillP
        simp only [List.replicate_zero, List.append_nil]
        have e := HNP.out
        rw [e]
        exact this
      have HOP4 := Lib.hid OP4
      clear hw KD OP4
      go_wp2_with (first | (refine wpList_alloc_op0 rfl rfl ?_) | (refine wpList_store_row rfl 50 _ _ rfl w3.heap.size (opC oo) rfl rfl _ _ (by exact Z) (by kernel_rfl) (by kernel_rfl) (by kernel_rfl) ?_; rw [← hw4]; clear hw4 Z))
      clear x4 lx4 hd hd2 hsum
      go_loopw [12] (fun v12 wr => ∃ j n a c, v12 = .slice a n c ∧ n = np + j ∧ n ≤ k + 1 ∧ RowKit.Hid (OwnP B wr v12 (fillU U j) (fillP st.s.p j)) ∧ RowKit.Hid (KeepD B b w3.heap.size (rdC st.s.c (.slice ap np cp) vk st.b m) oo vk st.s.k w wr)) (fun v12 _ => k + 1 - lenV v12)
      case atStart => exact ⟨0, np, ap, cp, rfl, rfl, hpl, HOP4, HKD⟩
      case round =>
        obtain ⟨j, n, a, c, rfl, hn, hnk, HO, HK⟩ := hrel
        have HN := Lib.hid hn
        have hfl : (fillP st.s.p j).length = n := by rw [fillP_len, ← HNP.out, hn]
        have HFL := Lib.hid hfl
        clear hn hfl
        have hn9 : n ≤ 9 := by omega
        by_cases hlt : n ≤ k
        · have hd : (n : Int) ≤ (k : Int) := by omega
          have Oa : (wr.alloc (.cells #[.slice none 0 0] 48)).ownsRow B 48 1 (.slice a n c) n (fillU U j) := by
            have := HO.out.outer
            rw [HFL.out] at this
            exact own_same this (fun g hg => Below.heap_alloc wr _ g (World.ownsRow.lt this g hg).2)
          have szr := HK.out.sz
          go_wp2_with (at_builtin; refine append_g elemP rfl _ _ rfl B _ n (fillU U j) rfl (by exact Oa) wr.heap.size 1 1 [nilV] rfl rfl (new_cells wr #[nilV] 48) (by decide) (by omega) (by simp; omega) ?_; intro v7 w7 O7 G7 A7)
          obtain ⟨a7, c7, rfl, _, _⟩ := own_slice O7
          go_roundw
          case rel =>
            have e1 : wr.grownBy (wr.alloc (.cells #[.slice none 0 0] 48)) (Value.slice a n c).ownBlock := World.grownBy_alloc wr _ _
            have G8 : wr.grownBy w7 (Value.slice a n c).ownBlock := ⟨G7.os, G7.tape, G7.output, Nat.le_trans e1.size G7.size, fun k hk hr => (G7.block k (Nat.lt_of_lt_of_le hk e1.size) hr).trans (e1.block k hk hr)⟩
            have hO := HO.out.outer
            refine ⟨j + 1, n + 1, a7, c7, rfl, by have := HN.out; omega, by omega, Lib.hid ?_, Lib.hid ?_⟩
            · have := HO.out.push (v' := .slice a7 (n + 1) c7) (w' := w7) (by rw [HFL.out]; exact O7) G8
              rw [fillP_succ, fillU_succ] at this
              exact this
            · exact HK.out.grown hbB G8 (fun k hk => (World.ownsRow.lt hO k hk).1) (bk_row HK.out.op hO (by decide)) (fun g hg => own_apart HK.out.pk hO (by decide) g hg)
          case measure => simp [lenV]; omega
        · obtain rfl : n = k + 1 := by omega
          have hd : ¬ ((k + 1 : Nat) : Int) ≤ (k : Int) := by omega
          have hkl : k < (fillP st.s.p j).length := by rw [HFL.out]; omega
          have P0' := HO.out
          rw [← HFL.out] at P0'
          have hOut := HO.out.outer
          rw [HFL.out] at hOut
          obtain ⟨gp, cp2, he, hge, hgl, hcc1, hcc2, hcc⟩ := owns_cells hOut (by omega)
          injection he with he1 _ he2
          subst he1 he2
          have hUl : k < (fillU U j).length := by rw [HO.out.len]; exact hkl
          obtain ⟨UK, hUK⟩ : ∃ q, q = (fillU U j).getD k nilV := ⟨_, rfl⟩
          have cu : wr.cell? ⟨gp, k, none⟩ = some UK := by
            rw [hcc k hUl, hUK]
            simp [List.getD_eq_getElem?_getD, hUl]
          have fu : wr.frozen? ⟨gp, k, none⟩ = false := hOut.frozenAt k
          have IK := HO.out.inner k
          rw [← hUK, fillP_get] at IK
          obtain ⟨row, hrow0⟩ : ∃ q, q = UK.ownBlock := ⟨_, rfl⟩
          have hrowB : ∀ g, row = some g → B ≤ g := fun g hg => (World.ownsRow.lt IK g (by rw [← hrow0]; exact hg)).1
          have hrowne : ∀ q, row ≠ some q ∨ q ≠ gp := fun q => by
            by_cases hq : q = gp
            · refine Or.inl (fun hh => ?_)
              rw [hq] at hh
              exact own_apart IK hOut (by decide) gp (by rw [← hrow0]; exact hh) rfl
            · exact Or.inr hq
          obtain ⟨au, cuc, huk, _, _⟩ := own_slice IK
          have hol := HG.out.ol k
          obtain ⟨nu, hnu⟩ : ∃ q, q = (st.s.p.getD k []).length := ⟨_, rfl⟩
          rw [← hnu] at huk hol
          have HNU2 := Lib.hid hnu
          have HFU := Lib.hid fu
          have HOut := Lib.hid hOut
          have HIK := Lib.hid IK
          have HUK := Lib.hid hUK
          have HRB := Lib.hid hrowB
          have HRN := Lib.hid hrowne
          have HR0 := Lib.hid hrow0
          have KO := HK.out.op
          have hgbr : some w3.heap.size ≠ row := fun e => by
            have := HUB.out k w3.heap.size (by rw [← fillU_get U j k, ← HUK.out, ← hrow0]; exact e.symm)
            have h3 := X3.out.size
            omega
          have hgbp : some w3.heap.size ≠ some gp := fun e => bk_row KO hOut (by decide) e.symm
          clear hUK IK hrowB hrowne hrow0 hcc hnu fu hOut P0'
          go_wp2_with fail
          have hS0 := G2.drew row (some gp) wr
          have cu0 : wr.drew.cell? ⟨gp, k, none⟩ = some UK := cu
          have P0 : OwnP B wr.drew (.slice (some ⟨gp, 0, none⟩) (fillP st.s.p j).length c) (fillU U j) (fillP st.s.p j) := by rw [HFL.out]; exact HO.out.same (fun _ _ _ => rfl)
          have hgpz : gp < wr.drew.heap.size := hgl
          have hzs : wr.heap.size ≤ wr.drew.heap.size := Nat.le_refl _
          have fu0 : wr.drew.frozen? ⟨gp, k, none⟩ = false := HFU.out
          subst huk
          refine wp_region_held_drew (S := fun w' => G2 row (some gp) wr w') (by kernel_rfl) hS0 (fun hHeld => ?_)
          clear hS0 cu
          generalize wr.drew = z0 at *
          refine wpAnyH_take (i := 0) (oi := _) (v := .slice (some ⟨gp, 0, none⟩) (k + 1) c) rfl (by kernel_rfl) (by kernel_rfl) (by kernel_rfl) (fun _ _ _ h => h) (Or.inl ⟨by rfl, fun w' hSw => by go_simp⟩) hHeld ?_
          try simp only [Act.put, List.getElem_toArray, List.getElem_cons_succ, List.getElem_cons_zero, List.setIfInBounds_toArray, List.set_cons_succ, List.set_cons_zero]
          refine wpAnyH_take (i := 1) (oi := _) (v := .int .i64 (k : Int)) rfl (by kernel_rfl) (by kernel_rfl) (by kernel_rfl) (fun _ _ _ h => h) (Or.inl ⟨by rfl, fun w' hSw => by go_simp⟩) hHeld ?_
          try simp only [Act.put, List.getElem_toArray, List.getElem_cons_succ, List.getElem_cons_zero, List.setIfInBounds_toArray, List.set_cons_succ, List.set_cons_zero]
          refine wpAnyH_take (i := 2) (oi := _) (v := .slice (some ⟨gp, 0, none⟩) (k + 1) c) rfl (by kernel_rfl) (by kernel_rfl) (by kernel_rfl) (fun _ _ _ h => h) (Or.inl ⟨by rfl, fun w' hSw => by go_simp⟩) hHeld ?_
          try simp only [Act.put, List.getElem_toArray, List.getElem_cons_succ, List.getElem_cons_zero, List.setIfInBounds_toArray, List.set_cons_succ, List.set_cons_zero]
          refine wpAnyH_take (i := 3) (oi := _) (v := .int .i64 (k : Int)) rfl (by kernel_rfl) (by kernel_rfl) (by kernel_rfl) (fun _ _ _ h => h) (Or.inl ⟨by rfl, fun w' hSw => by go_simp⟩) hHeld ?_
          try simp only [Act.put, List.getElem_toArray, List.getElem_cons_succ, List.getElem_cons_zero, List.setIfInBounds_toArray, List.set_cons_succ, List.set_cons_zero]
          refine wpAnyH_take (i := 4) (oi := _) (v := .pointer (some ⟨gp, k, none⟩)) rfl (by kernel_rfl) (by kernel_rfl) (by kernel_rfl) (fun _ _ _ h => h) (Or.inl ⟨by rfl, fun w' hSw => by have hkk : (0 : Int) ≤ (k : Int) := (by omega); go_simp⟩) hHeld ?_
          try simp only [Act.put, List.getElem_toArray, List.getElem_cons_succ, List.getElem_cons_zero, List.setIfInBounds_toArray, List.set_cons_succ, List.set_cons_zero]
          refine wpAnyH_take (i := 6) (oi := _) (v := .agg (opC oo)) rfl (by kernel_rfl) (by kernel_rfl) (by kernel_rfl) (fun _ _ _ h => h) (yieldsIf_row rfl 50 _ rfl w3.heap.size rfl (opC oo) 50 _ (fun w' hw' => hw'.bk KO hgbr hgbp) Tryz.underlying50 rfl (by kernel_rfl)) hHeld ?_
          try simp only [Act.put, List.getElem_toArray, List.getElem_cons_succ, List.getElem_cons_zero, List.setIfInBounds_toArray, List.set_cons_succ, List.set_cons_zero]
          refine wpAnyH_ready (rs := [5, 7]) (by kernel_rfl) (by simp) ?_
          refine AllReadyH.cons (o := _) rfl (fun K hK => ?_) (AllReadyH.cons (o := _) rfl (fun K hK => ?_) AllReadyH.nil)
          · go_simp
            refine hK.out _ _ hHeld (fun hHeld => ?_)
            clear hK K
            try simp only [Act.put, List.getElem_toArray, List.getElem_cons_succ, List.getElem_cons_zero, List.setIfInBounds_toArray, List.set_cons_succ, List.set_cons_zero]
            refine wpAnyH_ready (rs := [7]) (by kernel_rfl) (by simp) ?_
            refine AllReadyH.cons (o := _) rfl (fun K hK => ?_) AllReadyH.nil
            go_simp
            obtain ⟨z1, hz1⟩ : ∃ u, u = z0.alloc (.cells (opC oo) 50) := ⟨_, rfl⟩
            have hg1 : G2 row (some gp) wr (z0.alloc (.cells (opC oo) 50)) := hHeld.alloc _
            have cu1 : z1.cell? ⟨gp, k, none⟩ = some (.slice au nu cuc) := by rw [hz1]; exact (World.cell?_of_block (Below.heap_alloc z0 _ gp hgpz)).trans cu0
            have fu1 : z1.frozen? ⟨gp, k, none⟩ = false := by rw [hz1]; exact (World.frozen?_of_block (Below.heap_alloc z0 _ gp hgpz)).trans fu0
            have nb1 : ∀ j, j < (opC oo).toList.length → z1.cell? ⟨z0.heap.size, j, none⟩ = (opC oo).toList[j]? := by rw [hz1]; exact new_cells z0 (opC oo) 50
            have P1 : OwnP B z1 (.slice (some ⟨gp, 0, none⟩) (fillP st.s.p j).length c) (fillU U j) (fillP st.s.p j) := by rw [hz1]; exact P0.same (fun g _ hg => Below.heap_alloc z0 _ g hg)
            have s1 : z1.heap.size = z0.heap.size + 1 := by rw [hz1]; simp
            rw [← hz1] at hg1 ⊢
            clear hz1
            refine hK.out _ _ hg1 (fun hHeld => ?_)
            clear hK K hg1
            try simp only [Act.put, List.getElem_toArray, List.getElem_cons_succ, List.getElem_cons_zero, List.setIfInBounds_toArray, List.set_cons_succ, List.set_cons_zero]
            refine wpAnyH_ready (rs := [8]) (by kernel_rfl) (by simp) ?_
            refine AllReadyH.cons (o := _) rfl (fun K hK => ?_) AllReadyH.nil
            have I1 := P1.inner k
            rw [fillP_get, ← HUK.out] at I1
            have I2 : z1.ownsRow B 50 7 (.slice au nu cuc) nu (opsC (st.s.p.getD k [])) := owns_len I1 HNU2.out.symm rfl
            have szB := HK.out.sz
            refine step_append elemO rfl (.tmp 69) (.tmp 71) rfl B (.slice au nu cuc) nu (opsC (st.s.p.getD k [])) rfl (by exact I2) z0.heap.size 1 1 (opC oo).toList rfl rfl nb1 (opC_one oo) (by omega) (by omega) ?_
            intro v7 z2 O7 G7 A7
            have hrr : row = (Value.slice au nu cuc).ownBlock := HR0.out
            have hg2 : G2 row (some gp) wr z2 := hHeld.grown (by rw [hrr]; exact G7)
            have hner : some gp ≠ (Value.slice au nu cuc).ownBlock := fun e => by
              rcases HRN.out gp with q | q
              · rw [hrr] at q
                exact q e.symm
              · exact q rfl
            have hgp1 : gp < z1.heap.size := by omega
            have c9 : z2.cell? ⟨gp, k, none⟩ = some (.slice au nu cuc) := (World.cell?_of_block (G7.block gp hgp1 hner)).trans cu1
            have f9 : z2.frozen? ⟨gp, k, none⟩ = false := (World.frozen?_of_block (G7.block gp hgp1 hner)).trans fu1
            obtain ⟨a7, c7, rfl, _, _⟩ := own_slice O7
            refine hK.out _ _ hg2 (fun hHeld => ?_)
            clear hK K hg2 nb1
            try simp only [Act.put, List.getElem_toArray, List.getElem_cons_succ, List.getElem_cons_zero, List.setIfInBounds_toArray, List.set_cons_succ, List.set_cons_zero]
            refine wpAnyH_take (i := 9) (oi := _) (v := .pointer (some ⟨gp, k, none⟩)) rfl (by kernel_rfl) (by kernel_rfl) (by kernel_rfl) (fun _ _ _ h => h) (Or.inl ⟨by rfl, fun w' hSw => by have hkk : (0 : Int) ≤ (k : Int) := (by omega); go_simp⟩) hHeld ?_
            try simp only [Act.put, List.getElem_toArray, List.getElem_cons_succ, List.getElem_cons_zero, List.setIfInBounds_toArray, List.set_cons_succ, List.set_cons_zero]
            refine wpAnyH_ready (rs := [10]) (by kernel_rfl) (by simp) ?_
            refine AllReadyH.cons (o := _) rfl (fun K hK => ?_) AllReadyH.nil
            obtain ⟨P9, G9⟩ := OwnP.put oo P1 (i := k) (w2 := z2) (v' := .slice a7 (nu + 1) c7) hkl (by rw [fillP_get]; exact owns_len O7 (by have := HNU2.out; simp only [List.length_append, List.length_cons, List.length_nil]; omega) (by rw [opsC_app, opsC_one])) (by rw [← HUK.out]; exact G7) (by rw [← HUK.out]; exact A7)
            have hg9 := hHeld.grown2 G9
            obtain ⟨z3, hz3⟩ : ∃ u, u = z2.setCell ⟨gp, k, none⟩ (.slice a7 (nu + 1) c7) := ⟨_, rfl⟩
            rw [← hz3] at P9 G9 hg9
            have c10 : z3.cell? ⟨gp, k, none⟩ = some (.slice a7 (nu + 1) c7) := by rw [hz3]; exact World.cell?_setCell_same' _ _ _ (by rw [c9]; rfl)
            have hkk : (0 : Int) ≤ (k : Int) := by omega
            go_simp
            rw [← hz3]
            refine hK.out _ _ hg9 (fun hHeld => ?_)
            clear hK K hz3 cu0 cu1 fu0 fu1 c9 f9
            try simp only [Act.put, List.getElem_toArray, List.getElem_cons_succ, List.getElem_cons_zero, List.setIfInBounds_toArray, List.set_cons_succ, List.set_cons_zero]
            refine wpAnyH_done (by kernel_rfl) ?_ _
            obtain ⟨R3, K3, F3⟩ := HK.out.g2 hbB hHeld HRB.out (fun g hg => by injection hg with hg; omega) (fun g hg => ⟨fun e => own_apart HK.out.pk HIK.out (by decide) g hg (by rw [← HR0.out]; exact e), fun e => own_apart HK.out.pk HOut.out (by decide) g hg e⟩)
            have HR3 := Lib.hid R3
            have x3 := R3.cells
            have lx3 := R3.lt
            have f8 := R3.frozen 8
            have hne : gp ≠ b := (by omega)
            have c11 : (z3.setCell ⟨b, 8, none⟩ (.slice (some ⟨gp, 0, none⟩) (k + 1) c)).cell? ⟨gp, k, none⟩ = some (.slice a7 (nu + 1) c7) := (World.cell?_of_block (heap_setCell_other z3 ⟨b, 8, none⟩ gp _ hne)).trans c10
            have HH := Lib.hid hHeld
            have HP9 := Lib.hid P9
            have HK3 := Lib.hid K3
            have HF3 := Lib.hid F3
            have hd9 : (k : Int) < ((k + 1 : Nat) : Int) := (by omega)
            have hkk : (0 : Int) ≤ (k : Int) := (by omega)
            clear hHeld P9 K3 F3 R3 G9 P1 P0 G7 A7 O7 I1 I2
            go_wp2_with fail
            go_ret
            refine ⟨_, rfl, HF3.out.trans (Far.setCell B b 8 z3 _), ?_⟩
            rw [HR.out, HR2.out]
            have hj : j = k + 1 - st.s.p.length := by have h1 := HN.out; have h2 := HNP.out; omega
            have hfa : (fillP st.s.p j).set k ((fillP st.s.p j).getD k [] ++ [oo]) = addOp st.s.p k oo := by rw [hj]; exact fill_add st.s.p k oo HX.out.2
            refine doOut_yes HX.out ?_ ⟨hbB, ?_, .slice (some ⟨gp, 0, none⟩) (k + 1) c, vk, (fillU U j).set k (.slice a7 (nu + 1) c7), HR3.out.setCell 8 _, ?_, ?_⟩
            · have e1 : (addOp st.s.p k oo).getD k [] = st.s.p.getD k [] ++ [oo] := by
                rw [← hfa, List.getD_eq_getElem?_getD, List.getElem?_set]
                simp only [if_true, hkl, if_pos]
                rw [fillP_get]
                rfl
              rw [e1, List.length_append, ← HNU2.out]
              show decide _ = decide _
              congr 1
              simp only [List.length_cons, List.length_nil, eq_iff_iff]
              omega
            · have h1 := HK.out.sz
              have h2 := HH.out.size
              simp [World.setCell]
              omega
            · have := HP9.out
              rw [hfa, HFL.out] at this
              exact this.same (fun g hg _ => heap_setCell_other z3 ⟨b, 8, none⟩ g _ (by intro e; simp at e; omega))
            · exact own_same HK3.out (fun g hg => heap_setCell_other z3 ⟨b, 8, none⟩ g _ (by intro e; have := (World.ownsRow.lt HK3.out g hg).1; simp at e; omega))
          · go_simp
            obtain ⟨z1, hz1⟩ : ∃ u, u = z0.alloc (.cells (opC oo) 50) := ⟨_, rfl⟩
            have hg1 : G2 row (some gp) wr (z0.alloc (.cells (opC oo) 50)) := hHeld.alloc _
            have cu1 : z1.cell? ⟨gp, k, none⟩ = some (.slice au nu cuc) := by rw [hz1]; exact (World.cell?_of_block (Below.heap_alloc z0 _ gp hgpz)).trans cu0
            have fu1 : z1.frozen? ⟨gp, k, none⟩ = false := by rw [hz1]; exact (World.frozen?_of_block (Below.heap_alloc z0 _ gp hgpz)).trans fu0
            have nb1 : ∀ j, j < (opC oo).toList.length → z1.cell? ⟨z0.heap.size, j, none⟩ = (opC oo).toList[j]? := by rw [hz1]; exact new_cells z0 (opC oo) 50
            have P1 : OwnP B z1 (.slice (some ⟨gp, 0, none⟩) (fillP st.s.p j).length c) (fillU U j) (fillP st.s.p j) := by rw [hz1]; exact P0.same (fun g _ hg => Below.heap_alloc z0 _ g hg)
            have s1 : z1.heap.size = z0.heap.size + 1 := by rw [hz1]; simp
            rw [← hz1] at hg1 ⊢
            clear hz1
            refine hK.out _ _ hg1 (fun hHeld => ?_)
            clear hK K hg1
            try simp only [Act.put, List.getElem_toArray, List.getElem_cons_succ, List.getElem_cons_zero, List.setIfInBounds_toArray, List.set_cons_succ, List.set_cons_zero]
            refine wpAnyH_ready (rs := [5]) (by kernel_rfl) (by simp) ?_
            refine AllReadyH.cons (o := _) rfl (fun K hK => ?_) AllReadyH.nil
            go_simp
            refine hK.out _ _ hHeld (fun hHeld => ?_)
            clear hK K
            try simp only [Act.put, List.getElem_toArray, List.getElem_cons_succ, List.getElem_cons_zero, List.setIfInBounds_toArray, List.set_cons_succ, List.set_cons_zero]
            refine wpAnyH_ready (rs := [8]) (by kernel_rfl) (by simp) ?_
            refine AllReadyH.cons (o := _) rfl (fun K hK => ?_) AllReadyH.nil
            have I1 := P1.inner k
            rw [fillP_get, ← HUK.out] at I1
            have I2 : z1.ownsRow B 50 7 (.slice au nu cuc) nu (opsC (st.s.p.getD k [])) := owns_len I1 HNU2.out.symm rfl
            have szB := HK.out.sz
            refine step_append elemO rfl (.tmp 69) (.tmp 71) rfl B (.slice au nu cuc) nu (opsC (st.s.p.getD k [])) rfl (by exact I2) z0.heap.size 1 1 (opC oo).toList rfl rfl nb1 (opC_one oo) (by omega) (by omega) ?_
            intro v7 z2 O7 G7 A7
            have hrr : row = (Value.slice au nu cuc).ownBlock := HR0.out
            have hg2 : G2 row (some gp) wr z2 := hHeld.grown (by rw [hrr]; exact G7)
            have hner : some gp ≠ (Value.slice au nu cuc).ownBlock := fun e => by
              rcases HRN.out gp with q | q
              · rw [hrr] at q
                exact q e.symm
              · exact q rfl
            have hgp1 : gp < z1.heap.size := by omega
            have c9 : z2.cell? ⟨gp, k, none⟩ = some (.slice au nu cuc) := (World.cell?_of_block (G7.block gp hgp1 hner)).trans cu1
            have f9 : z2.frozen? ⟨gp, k, none⟩ = false := (World.frozen?_of_block (G7.block gp hgp1 hner)).trans fu1
            obtain ⟨a7, c7, rfl, _, _⟩ := own_slice O7
            refine hK.out _ _ hg2 (fun hHeld => ?_)
            clear hK K hg2 nb1
            try simp only [Act.put, List.getElem_toArray, List.getElem_cons_succ, List.getElem_cons_zero, List.setIfInBounds_toArray, List.set_cons_succ, List.set_cons_zero]
            refine wpAnyH_take (i := 9) (oi := _) (v := .pointer (some ⟨gp, k, none⟩)) rfl (by kernel_rfl) (by kernel_rfl) (by kernel_rfl) (fun _ _ _ h => h) (Or.inl ⟨by rfl, fun w' hSw => by have hkk : (0 : Int) ≤ (k : Int) := (by omega); go_simp⟩) hHeld ?_
            try simp only [Act.put, List.getElem_toArray, List.getElem_cons_succ, List.getElem_cons_zero, List.setIfInBounds_toArray, List.set_cons_succ, List.set_cons_zero]
            refine wpAnyH_ready (rs := [10]) (by kernel_rfl) (by simp) ?_
            refine AllReadyH.cons (o := _) rfl (fun K hK => ?_) AllReadyH.nil
            obtain ⟨P9, G9⟩ := OwnP.put oo P1 (i := k) (w2 := z2) (v' := .slice a7 (nu + 1) c7) hkl (by rw [fillP_get]; exact owns_len O7 (by have := HNU2.out; simp only [List.length_append, List.length_cons, List.length_nil]; omega) (by rw [opsC_app, opsC_one])) (by rw [← HUK.out]; exact G7) (by rw [← HUK.out]; exact A7)
            have hg9 := hHeld.grown2 G9
            obtain ⟨z3, hz3⟩ : ∃ u, u = z2.setCell ⟨gp, k, none⟩ (.slice a7 (nu + 1) c7) := ⟨_, rfl⟩
            rw [← hz3] at P9 G9 hg9
            have c10 : z3.cell? ⟨gp, k, none⟩ = some (.slice a7 (nu + 1) c7) := by rw [hz3]; exact World.cell?_setCell_same' _ _ _ (by rw [c9]; rfl)
            have hkk : (0 : Int) ≤ (k : Int) := by omega
            go_simp
            rw [← hz3]
            refine hK.out _ _ hg9 (fun hHeld => ?_)
            clear hK K hz3 cu0 cu1 fu0 fu1 c9 f9
            try simp only [Act.put, List.getElem_toArray, List.getElem_cons_succ, List.getElem_cons_zero, List.setIfInBounds_toArray, List.set_cons_succ, List.set_cons_zero]
            refine wpAnyH_done (by kernel_rfl) ?_ _
            obtain ⟨R3, K3, F3⟩ := HK.out.g2 hbB hHeld HRB.out (fun g hg => by injection hg with hg; omega) (fun g hg => ⟨fun e => own_apart HK.out.pk HIK.out (by decide) g hg (by rw [← HR0.out]; exact e), fun e => own_apart HK.out.pk HOut.out (by decide) g hg e⟩)
            have HR3 := Lib.hid R3
            have x3 := R3.cells
            have lx3 := R3.lt
            have f8 := R3.frozen 8
            have hne : gp ≠ b := (by omega)
            have c11 : (z3.setCell ⟨b, 8, none⟩ (.slice (some ⟨gp, 0, none⟩) (k + 1) c)).cell? ⟨gp, k, none⟩ = some (.slice a7 (nu + 1) c7) := (World.cell?_of_block (heap_setCell_other z3 ⟨b, 8, none⟩ gp _ hne)).trans c10
            have HH := Lib.hid hHeld
            have HP9 := Lib.hid P9
            have HK3 := Lib.hid K3
            have HF3 := Lib.hid F3
            have hd9 : (k : Int) < ((k + 1 : Nat) : Int) := (by omega)
            have hkk : (0 : Int) ≤ (k : Int) := (by omega)
            clear hHeld P9 K3 F3 R3 G9 P1 P0 G7 A7 O7 I1 I2
            go_wp2_with fail
            go_ret
            refine ⟨_, rfl, HF3.out.trans (Far.setCell B b 8 z3 _), ?_⟩
            rw [HR.out, HR2.out]
            have hj : j = k + 1 - st.s.p.length := by have h1 := HN.out; have h2 := HNP.out; omega
            have hfa : (fillP st.s.p j).set k ((fillP st.s.p j).getD k [] ++ [oo]) = addOp st.s.p k oo := by rw [hj]; exact fill_add st.s.p k oo HX.out.2
            refine doOut_yes HX.out ?_ ⟨hbB, ?_, .slice (some ⟨gp, 0, none⟩) (k + 1) c, vk, (fillU U j).set k (.slice a7 (nu + 1) c7), HR3.out.setCell 8 _, ?_, ?_⟩
            · have e1 : (addOp st.s.p k oo).getD k [] = st.s.p.getD k [] ++ [oo] := by
                rw [← hfa, List.getD_eq_getElem?_getD, List.getElem?_set]
                simp only [if_true, hkl, if_pos]
                rw [fillP_get]
                rfl
              rw [e1, List.length_append, ← HNU2.out]
              show decide _ = decide _
              congr 1
              simp only [List.length_cons, List.length_nil, eq_iff_iff]
              omega
            · have h1 := HK.out.sz
              have h2 := HH.out.size
              simp [World.setCell]
              omega
            · have := HP9.out
              rw [hfa, HFL.out] at this
              exact this.same (fun g hg _ => heap_setCell_other z3 ⟨b, 8, none⟩ g _ (by intro e; simp at e; omega))
            · exact own_same HK3.out (fun g hg => heap_setCell_other z3 ⟨b, 8, none⟩ g _ (by intro e; have := (World.ownsRow.lt HK3.out g hg).1; simp at e; omega))
end Go.Proofs.YtpmcedfeiconfaaGreatDoor.Scw

/- Layer 21: the reader's method pick. -/
import Derived.Test.YtpmcedfeiconfaaGreatDoorScDo
import Derived.Test.YtpmcedfeiconfaaGreatDoorApp
import Derived.Deep.Cut
import Derived.Deep.CutRange
namespace Go.Proofs.YtpmcedfeiconfaaGreatDoor.Scw
open Go Go.RowKit Go.ChangeMaps Go.Proofs.YtpmcedfeiconfaaGreatDoor.Gro Go.Proofs.YtpmcedfeiconfaaGreatDoor.Own Go.Proofs.YtpmcedfeiconfaaGreatDoor.Mr Go.Proofs.YtpmcedfeiconfaaGreatDoor.Opn Go.Proofs.YtpmcedfeiconfaaGreatDoor.Opw Go.Proofs.YtpmcedfeiconfaaGreatDoor.Pl Go.Proofs.YtpmcedfeiconfaaGreatDoor.Scr Go.Proofs.YtpmcedfeiconfaaGreatDoor.Wd
set_option linter.unusedVariables false
set_option linter.unusedSimpArgs false
section
variable {P : Program} {ops : Array Oper} {rest : List Oper} {o : Oper} {a : Act} {w : World} {Q : Exit → Act → World → Prop}
/-- append(v, x..), v a row of the call's own: where the new row lies. -/
theorem append_gs {t e : TypeId} {bytes : Nat} {k : IntKind} (E : Elem P t e 1 bytes) (hgd : o.guard = none) (s x : Operand) (ho : o.op = .call { callee := .builtin .append, args := #[s, x], argTypes := #[t, t] })
    (base : Nat) (v : Value) (n : Nat) (L : List Int) (hs : a.eval s = v) (hown : w.ownsRow base e 1 v n (L.map (.int k))) (xv : Value) (M : List Int) (hx : a.eval x = xv) (hr : Reads w k xv M)
    (hn : n + M.length ≤ 1000000) (hbase : base ≤ w.heap.size)
    (h : ∀ (y : Ap.Sl) w', w'.ownsRow base e 1 y.v (n + M.length) ((L ++ M).map (.int k)) → w.grownBy w' v.ownBlock → wpList P ops Q rest (a.put o.dst y.v) w') : wpList P ops Q (o :: rest) a w := by
  obtain ⟨i, z, hi, hz, hsz, hby, hzs⟩ := E.info
  by_cases hM : M = []
  · subst hM
    have hsrc := Ap.reads_src E.under hr
    obtain ⟨y, rfl⟩ := Ap.own_sl hown
    have hle : y.len ≤ y.cap := by
      rcases hown.2 with ⟨he, _⟩ | ⟨g, cap, cur, he, _, _, h1, _⟩
      · simp only [Ap.Sl.v, Value.slice.injEq] at he; omega
      · simp only [Ap.Sl.v, Value.slice.injEq] at he; omega
    have hrun := run_append_nothing (P := P) w t t o.type e i E.under hi y.ad y.len y.cap hle xv (by rw [hsz]; exact hsrc)
    refine wpList_plain hgd fun K hK' => ?_
    unfold Oper.wp
    simp [execOp, ho, resolve, invoke, builtin, hs, hx, hrun, Result.andThen]
    exact hK' _ _ (h y w (by simpa using hown) ⟨rfl, rfl, rfl, Nat.le_refl _, fun _ _ _ => rfl⟩)
  · have hr' := hr
    obtain ⟨ad, cap, rfl, h1, h2, h3⟩ := hr
    rcases h3 with rfl | ⟨b, off, rfl, _, hc⟩
    · exact absurd rfl hM
    refine wpList_append_own w hgd s x t ho base e i z 1 bytes E.under hi hz hsz hby hzs (by decide) v n _ hs hown ⟨b, off, none⟩ M.length cap (M.map (.int k)) hx (by simp) (fun j u hu => ?_) (fun u hu => ?_) (by unfold maxLen; omega) ?_ hbase (fun v' w' h2 h3 _ => ?_)
    · rw [Addr.add_lit]
      rw [List.getElem?_map] at hu
      obtain ⟨x, hx, rfl⟩ := Option.map_eq_some_iff.1 hu
      obtain ⟨hj, rfl⟩ := List.getElem?_eq_some_iff.1 hx
      exact hc j hj
    · obtain ⟨_, _, rfl⟩ := List.mem_map.1 hu
      rfl
    · have := E.small
      calc (n + M.length) * bytes ≤ 1000000 * 1024 := Nat.mul_le_mul hn this
        _ ≤ 140737488355328 := by decide
    · obtain ⟨y, rfl⟩ := Ap.own_sl h2
      exact h y w' (by rw [List.map_append]; exact h2) h3
theorem wpList_load_mid_w (hw : Region.wanted o (yielded ops a.tmps) = true) (ty : TypeId) (x : Operand) (ho : o.op = .load ty x)
    (b off : Nat) (hx : a.eval x = .pointer (some ⟨b, off, none⟩)) (cs : List Value) (d : TypeDesc) (hc : w.rangeAt b off cs)
    (hu : P.underlying ty = some d) (hd : d.isRow = true) (hi : (P.info? ty).map (·.size) = some cs.length)
    (h : wpList P ops Q rest (a.put o.dst (.agg cs.toArray)) w) : wpList P ops Q (o :: rest) a w :=
  wpList_step fun _ hK => by rw [if_pos hw]; exact wp_load_mid ty x ho b off hx cs d hc hu hd hi (hK _ _ h)
end
theorem reads_grown {w w' : World} {k : IntKind} {v : Value} {M : List Int} {row : Option Nat} (h : Reads w k v M) (g : w.grownBy w' row) (hr : ∀ q, v.ownBlock = some q → some q ≠ row) : Reads w' k v M := by
  obtain ⟨ad, cap, rfl, h1, h2, h3⟩ := h
  refine ⟨ad, cap, rfl, h1, h2, ?_⟩
  rcases h3 with h3 | ⟨b, off, rfl, hl, hc⟩
  · exact .inl h3
  · exact .inr ⟨b, off, rfl, Nat.lt_of_lt_of_le hl g.size, fun i hi => (World.cell?_of_block (a := ⟨b, off + i, none⟩) (g.block b hl (hr b rfl))).trans (hc i hi)⟩
def PickPost (B b m : Nat) (st : RdS) (l : List UInt8) (w : World) (e : Ending) (w' : World) : Prop :=
  ∃ x : Bool, e = .returned (.bool x) ∧ Far B b w w' ∧ ((rdNums 20 l = none → x = false) ∧ ∀ ks, rdNums 20 l = some ks → x = decide (st.s.k.length % 20 = 0 ∧ (st.s.k ++ ks).length ≤ 2000 ∧ inR st.s.c ks = true) ∧ RdW B b m { st with s := { st.s with k := st.s.k ++ ks } } w')
theorem rd_mid {w : World} {g : Nat} {c : Cfg} {vp vk : Value} {bf : List UInt8} {m : Nat} (B : Bk w g (rdC c vp vk bf m) 71) : w.rangeAt g 0 (cfgC c).toList := fun j v hv => by
  rw [Nat.zero_add, B.cells j]
  rcases j with _ | _ | _ | _ | _ | _ | _ | _ | j <;> first | exact hv | (simp [cfgC] at hv)
set_option maxRecDepth 100000 in
set_option maxHeartbeats 8000000 in
theorem fPick (B b m : Nat) (st : RdS) (l : List UInt8) (hl : l.length ≤ 1000000) (G : GoodR st) (w : World) (L : Lb w) (h : RdW B b m st w) :
    Calls Tryz.prog 54 #[.pointer (some ⟨b, 0, none⟩), strV l] w (PickPost B b m st l w) := by
  obtain ⟨hbB, hBw, vp, vk, U, B0, OP, OK⟩ := h
  have HN : RowKit.Hid (Calls Tryz.prog 65 #[strV l, .int .i64 20] w (NumsPost 20 l w)) := Lib.hid (fNumbers 20 (by decide) l hl w L)
  have HOP := Lib.hid OP
  have HOK := Lib.hid OK
  have hkl := G.kl
  obtain ⟨ak, ck, rfl, hck, hcm⟩ := own_slice OK
  obtain ⟨nk, hnk⟩ : ∃ q, q = st.s.k.length := ⟨_, rfl⟩
  rw [← hnk] at hck hkl B0
  have HNK := Lib.hid hnk
  have HB0 := Lib.hid B0
  clear L B0 OP OK G hnk
  go_enter Tryz.func54, Tryz.ntmps54
  go_wp2_with fail
  refine HN.out.mono ?_
  rintro e w1 ⟨v, rfl, hb1, hsome, hnone⟩
  have HW1 := Lib.hid hb1
  have R1 := HB0.out.keep hb1
  have x1 := R1.cells
  have lx1 := R1.lt
  have f9 := R1.frozen 9
  have HR1 := Lib.hid R1
  have O1 : w1.ownsRow B 3 1 (.slice ak nk ck) nk (st.s.k.map (Value.int .i64)) := by
    have h := OwnI.keep HOK.out hb1
    rw [← HNK.out] at h
    exact owns_len h HNK.out.symm rfl
  have HM : RowKit.Hid (∃ M : List Int, Reads w1 .i64 v M ∧ M.length ≤ 20 ∧ (∀ g, v.ownBlock = some g → w.heap.size ≤ g) ∧ (rdNums 20 l).getD [] = M) := Lib.hid (by
    cases hks : rdNums 20 l with
    | none => exact ⟨[], by rw [hnone hks]; exact Reads.nil _ _, by simp, fun g hg => (by rw [hnone hks] at hg; cases hg), rfl⟩
    | some ks => exact ⟨ks, Reads.of_own (hsome ks hks) rfl, (rdNums_some hks).2.2.1, fun g hg => (World.ownsRow.lt (hsome ks hks) g hg).1, rfl⟩)
  obtain ⟨M, RM, hM20, hMB, hMe⟩ := HM.out
  obtain ⟨ok, hok⟩ : ∃ q, q = (rdNums 20 l).isSome := ⟨_, rfl⟩
  rw [← hok]
  have HRM := Lib.hid RM
  have HMB := Lib.hid hMB
  have HMe := Lib.hid hMe
  have HOK2 := Lib.hid hok
  have szB : B ≤ w1.heap.size := Nat.le_trans hBw hb1.size
  have hrow : ∀ g, (Value.slice ak nk ck).ownBlock = some g → B ≤ g ∧ g < w.heap.size := fun g hg => ⟨(World.ownsRow.lt O1 g hg).1, by
    have h := HOK.out
    rw [← HNK.out] at h
    exact (World.ownsRow.lt h g hg).2⟩
  have HRW := Lib.hid hrow
  clear hsome hnone hb1 RM hMB hMe HM hok R1 hrow
  go_upto_region 4 with (at_builtin; refine append_gs elemI rfl _ _ rfl B _ nk st.s.k rfl (by exact O1) v M rfl (by exact HRM.out) (by omega) szB ?_; intro y w2 O2 G2; have R2 : Bk w2 b (rdC st.s.c vp (.slice ak nk ck) st.b m) 71 := (G2.block b lx1 (fun e => by have := (HRW.out b e.symm).1; omega)).trans HR1.out; have x2 := R2.cells; have lx2 := R2.lt; have f2 := R2.frozen 9; have HR2 := Lib.hid R2; have HG2 := Lib.hid G2; have HO2 := Lib.hid O2; obtain ⟨ya, yl, yc⟩ := y; simp only [Ap.Sl.v]; clear x1 lx1 f9 O1 R2 G2 O2)
  obtain ⟨hyl, hyc, hym⟩ : yl = nk + M.length ∧ yl ≤ yc ∧ yc ≤ maxLen := by
    obtain ⟨a, c, he, h1, h2⟩ := own_slice HO2.out
    simp only [Ap.Sl.v, Value.slice.injEq] at he
    obtain ⟨_, h3, h4⟩ := he
    exact ⟨h3, by omega, by omega⟩
  obtain ⟨fu, hfu⟩ : ∃ q : Bool, q = ((nk : Int) % 20 == 0) := ⟨_, rfl⟩
  rw [← hfu]
  have R3 : Bk (w2.setCell ⟨b, 9, none⟩ (.slice ya yl yc)) b (rdC st.s.c vp (.slice ya yl yc) st.b m) 71 := HR2.out.setCell 9 (.slice ya yl yc)
  have F3 : Far B b w (w2.setCell ⟨b, 9, none⟩ (.slice ya yl yc)) := (Far.of HW1.out hBw).trans ((Far.grown HG2.out szB (fun k hk => (HRW.out k hk).1)).trans (Far.setCell B b 9 w2 _))
  have RM3 : Reads (w2.setCell ⟨b, 9, none⟩ (.slice ya yl yc)) .i64 v M := by
    refine reads_grown (row := some b) (reads_grown HRM.out HG2.out (fun q hq e => ?_)) ⟨rfl, rfl, rfl, by simp [World.setCell], fun k _ hk => heap_setCell_other w2 ⟨b, 9, none⟩ k _ (fun e => hk (by simp [e]))⟩ (fun q hq e => ?_)
    · have h1 := (HRW.out q e.symm).2
      have h2 := HMB.out q hq
      omega
    · injection e with e
      have h2 := HMB.out q hq
      omega
  have OP3 : OwnP B (w2.setCell ⟨b, 9, none⟩ (.slice ya yl yc)) vp U st.s.p := by
    have h1 := HOP.out.keep HW1.out
    have h2 : OwnP B w2 vp U st.s.p := ⟨h1.len, own_same h1.outer (fun g hg => HG2.out.block g (World.ownsRow.lt h1.outer g hg).2 (fun e => ?_)), fun i => own_same (h1.inner i) (fun g hg => HG2.out.block g (World.ownsRow.lt (h1.inner i) g hg).2 (fun e => ?_)), h1.apart⟩
    · exact h2.same (fun g hg _ => heap_setCell_other w2 ⟨b, 9, none⟩ g _ (by intro e; simp at e; omega))
    · exact own_apart h1.outer (OwnI.keep HOK.out HW1.out) (by decide) g hg (by rw [← HNK.out]; exact e.symm)
    · exact own_apart (h1.inner i) (OwnI.keep HOK.out HW1.out) (by decide) g hg (by rw [← HNK.out]; exact e.symm)
  have OI3 : OwnI B (w2.setCell ⟨b, 9, none⟩ (.slice ya yl yc)) (.slice ya yl yc) (st.s.k ++ M) := by
    have h1 := owns_len HO2.out (m := (st.s.k ++ M).length) (by rw [List.length_append, ← HNK.out]) rfl
    exact own_same h1 (fun g hg => heap_setCell_other w2 ⟨b, 9, none⟩ g _ (by intro e; have := (World.ownsRow.lt h1 g hg).1; simp at e; omega))
  have sz3 : B ≤ (w2.setCell ⟨b, 9, none⟩ (.slice ya yl yc)).heap.size := by
    have h1 := HG2.out.size
    simp [World.setCell]
    omega
  obtain ⟨w3, hw3⟩ : ∃ q, q = w2.setCell ⟨b, 9, none⟩ (.slice ya yl yc) := ⟨_, rfl⟩
  rw [← hw3] at R3 F3 RM3 OP3 OI3 sz3 ⊢
  have x3 := R3.cells
  have lx3 := R3.lt
  have HR3 := Lib.hid R3
  have HF3 := Lib.hid F3
  have HRM3 := Lib.hid RM3
  have HOP3 := Lib.hid OP3
  have HOI3 := Lib.hid OI3
  have HYL := Lib.hid hyl
  have HFU := Lib.hid hfu
  have M3 : RowKit.Hid (w3.rangeAt b 0 (cfgC st.s.c).toList) := Lib.hid (rd_mid (c := st.s.c) (vp := vp) (vk := .slice ya yl yc) (bf := st.b) (m := m) (by exact R3))
  clear R3 F3 RM3 OP3 OI3 hw3 x2 lx2 f2 hfu
  have HEND : RowKit.Hid (∀ w4, Below w3.heap.size w3 w4 → Far B b w w4 ∧ RdW B b m { st with s := { st.s with k := st.s.k ++ M } } w4) := Lib.hid (fun w4 hb => ⟨HF3.out.trans (Far.of hb sz3), hbB, Nat.le_trans sz3 hb.size, vp, .slice ya yl yc, U, HR3.out.keep hb, HOP3.out.keep hb, OwnI.keep HOI3.out hb⟩)
  have HPST : RowKit.Hid (∀ (x : Bool) w4, Below w3.heap.size w3 w4 → (ok = false → x = false) → (ok = true → x = decide (st.s.k.length % 20 = 0 ∧ (st.s.k ++ M).length ≤ 2000 ∧ inR st.s.c M = true)) → PickPost B b m st l w (.returned (.bool x)) w4) := Lib.hid (fun x w4 hb h1 h2 => by
    obtain ⟨h3, h4⟩ := HEND.out w4 hb
    refine ⟨x, rfl, h3, fun hn => h1 (by rw [HOK2.out, hn]; rfl), fun ks hks => ?_⟩
    have : M = ks := by rw [← HMe.out, hks]; rfl
    subst this
    exact ⟨h2 (by rw [HOK2.out, hks]; rfl), h4⟩)
  have hfq : fu = decide (st.s.k.length % 20 = 0) := by
    rw [HFU.out, ← HNK.out]
    by_cases h : nk % 20 = 0
    · have : ((nk : Int) % 20 == 0) = true := by simp; omega
      rw [this]; simp [h]
    · have : ((nk : Int) % 20 == 0) = false := by simp; omega
      rw [this]; simp [h]
  have HFQ := Lib.hid hfq
  clear hfq
  cases ok with
  | false =>
    go_wp2_with fail
    go_ret
    exact HPST.out false w3 (Below.refl _ _) (fun _ => rfl) (fun h => by cases h)
  | true =>
    cases fu with
    | false =>
      go_wp2_with fail
      go_ret
      exact HPST.out false w3 (Below.refl _ _) (fun h => by cases h) (fun _ => by
        have h := of_decide_eq_false HFQ.out.symm
        simp [h])
    | true =>
      by_cases hlen : yl ≤ 2000
      case neg =>
        have hd : ¬ (yl : Int) ≤ 2000 := by omega
        go_wp2_with fail
        go_ret
        exact HPST.out false w3 (Below.refl _ _) (fun h => by cases h) (fun _ => by
          have h : ¬ (st.s.k ++ M).length ≤ 2000 := by rw [List.length_append, ← HNK.out]; omega
          simp only [h, false_and, and_false, decide_false])
      have hd : (yl : Int) ≤ 2000 := by omega
      have HEX := Lib.hid (fExist st.s.c v M w3 HRM3.out)
      go_wp2_with (first | (refine wpList_load_mid_w (by rfl) 24 _ rfl b 0 rfl (cfgC st.s.c).toList _ (by exact M3.out) Tryz.underlying24 rfl (by kernel_rfl) ?_))
      refine HEX.out.mono ?_
      rintro e w4 ⟨rfl, hb4⟩
      have HB4 := Lib.hid hb4
      clear hb4
      go_wp2_with fail
      go_ret
      refine HPST.out _ w4 HB4.out (fun h => by cases h) (fun _ => ?_)
      have h1 := of_decide_eq_true HFQ.out.symm
      have h2 : (st.s.k ++ M).length ≤ 2000 := by rw [List.length_append, ← HNK.out]; omega
      simp only [h1, h2, true_and]
      exact (Bool.decide_eq_true (b := inR st.s.c M)).symm
end Go.Proofs.YtpmcedfeiconfaaGreatDoor.Scw

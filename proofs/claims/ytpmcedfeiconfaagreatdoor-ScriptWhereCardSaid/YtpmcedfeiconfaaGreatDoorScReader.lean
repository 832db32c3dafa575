/- Layer 21: the reader's method read (made by genscread.py). -/
import Derived.Test.YtpmcedfeiconfaaGreatDoorScNew
import Derived.Test.YtpmcedfeiconfaaGreatDoorScHall
import Derived.Test.YtpmcedfeiconfaaGreatDoorScPick
import Derived.Test.YtpmcedfeiconfaaGreatDoorGrow
namespace Go.Proofs.YtpmcedfeiconfaaGreatDoor.Scw
open Go Go.RowKit Go.ChangeMaps Go.Proofs.YtpmcedfeiconfaaGreatDoor.Gro Go.Proofs.YtpmcedfeiconfaaGreatDoor.Own Go.Proofs.YtpmcedfeiconfaaGreatDoor.Mr Go.Proofs.YtpmcedfeiconfaaGreatDoor.Opn Go.Proofs.YtpmcedfeiconfaaGreatDoor.Opw Go.Proofs.YtpmcedfeiconfaaGreatDoor.Pl Go.Proofs.YtpmcedfeiconfaaGreatDoor.Scr Go.Proofs.YtpmcedfeiconfaaGreatDoor.Wd
set_option linter.unusedVariables false
set_option linter.unusedSimpArgs false
abbrev ruleZ : Array Value := #[.slice none 0 0, .nilFunc]
theorem zero_ru (w : World) : (zeroValue 98).run Tryz.prog w = .ok (.agg ruleZ) w := by kernel_rfl
theorem run_alloc_ruz (w : World) : (Instr.alloc 98 true (.tuple #[])).run Tryz.prog w = .ok (.pointer (some ⟨w.heap.size, 0, none⟩)) (w.alloc (.cells ruleZ 98)) := by kernel_rfl
theorem wpList_alloc_ruz {ops : Array Oper} {rest : List Oper} {o : Oper} {a : Act} {w : World} {Q : Exit → Act → World → Prop} (hg : o.guard = none) (ho : o.op = .alloc 98)
    (h : wpList Tryz.prog ops Q rest (a.put o.dst (.pointer (some ⟨w.heap.size, 0, none⟩))) (w.alloc (.cells ruleZ 98))) : wpList Tryz.prog ops Q (o :: rest) a w := by
  refine wpList_plain hg fun K hK => ?_
  unfold Oper.wp
  simp [execOp, ho, run_alloc_ruz, Result.andThen]
  exact hK _ _ h
theorem boxU (w : World) (cs : Array Value) : Bk ((w.alloc (.cells ruleZ 98)).setRow w.heap.size cs) w.heap.size cs 98 := (Bk.new w ruleZ 98).setRow _
theorem boxU_below (w : World) (cs : Array Value) : Below w.heap.size w ((w.alloc (.cells ruleZ 98)).setRow w.heap.size cs) := below_setRow ((Below.refl _ _).alloc (Nat.le_refl _) _) (Nat.le_refl _) _
theorem toB_eq (a c : List UInt8) : ((⟨a.toArray⟩ : ByteArray) = ⟨c.toArray⟩) ↔ a = c := by
  constructor
  · intro h
    have := congrArg (fun x : ByteArray => x.data.toList) h
    simpa using this
  · rintro rfl; rfl
theorem hasS {w : World} {g n : Nat} {zs : List ByteArray} (B : Bk w g (zs.map Value.string).toArray 9) (hn : zs.length = n) (h9 : n ≤ 9) (x : ByteArray) :
    Calls Tryz.prog 56 #[.slice (some ⟨g, 0, none⟩) n n, .string x] w fun e w' => e = .returned (.bool (Lib.containsS zs x)) ∧ Below w.heap.size w w' := by
  refine (Tryz.slices_Contains_string g 0 n n zs x w (by omega) (by omega) (fun j hj => ?_)).mono ?_
  · rw [Nat.zero_add, B.cells j]
    simp [hj, List.getD_eq_getElem?_getD]
  · rintro e w' ⟨rfl, rfl⟩
    refine ⟨Wd.ret_bool ?_, Below.refl _ _⟩
    rw [← hn, List.take_length]
def RdPost (B b m : Nat) (st : RdS) (o : Option RdS) (w : World) (e : Ending) (w' : World) : Prop :=
  ∃ x : Bool, e = .returned (.bool x) ∧ Far B b w w' ∧ ((o = none → x = false) ∧ ∀ st', o = some st' → x = true ∧ RdW B b m st' w')
theorem rd_of_hall {B b m : Nat} {st : RdS} {T : List UInt8} {w w1 : World} {e : Ending} {w' : World} (hF : Far B b w w1) (h : HallPost B b m ⟨st.s, hallW⟩ T w1 e w') :
    RdPost B b m st (match (rdNums 8 T).bind cfgOf with | none => none | some c => if okC c then some ⟨{ st.s with c := c }, hallW⟩ else none) w e w' := by
  obtain ⟨x, h1, h2, h3⟩ := h
  refine ⟨x, h1, hF.trans h2, ?_⟩
  cases hc : (rdNums 8 T).bind cfgOf with
  | none =>
    rw [hc] at h3
    exact ⟨fun _ => h3, fun st' h => by cases h⟩
  | some c =>
    rw [hc] at h3
    obtain ⟨h3, h4⟩ := h3
    simp only
    by_cases hk : okC c = true
    · rw [if_pos hk]
      exact ⟨fun h => (by cases h), fun st' h => by injection h with h; subst h; exact ⟨h3.trans hk, h4⟩⟩
    · rw [if_neg hk]
      exact ⟨fun _ => by rw [h3]; simpa using hk, fun st' h => by cases h⟩
theorem rd_of_do {B b m : Nat} {st : RdS} {T : List UInt8} {w w1 : World} {e : Ending} {w' : World} (hF : Far B b w w1) (h : DoPost B b m ⟨st.s, doW⟩ T w1 e w') :
    RdPost B b m st (match rdW (Lib.cut T [32]).1, parseL (Lib.cut T [32]).2.1 with
      | some k, some o => if (k : Int) < st.s.c.ww ∧ st.s.p.length ≤ k + 1 ∧ ((addOp st.s.p k o).getD k []).length ≤ 200 then some ⟨{ st.s with p := addOp st.s.p k o }, doW⟩ else none
      | _, _ => none) w e w' := by
  obtain ⟨x, h1, h2, h3⟩ := h
  refine ⟨x, h1, hF.trans h2, ?_⟩
  cases hk : rdW (Lib.cut T [32]).1 with
  | none =>
    rw [hk] at h3
    exact ⟨fun _ => h3, fun st' h => by cases h⟩
  | some k =>
    cases ho : parseL (Lib.cut T [32]).2.1 with
    | none =>
      rw [hk, ho] at h3
      exact ⟨fun _ => h3, fun st' h => by cases h⟩
    | some o =>
      rw [hk, ho] at h3
      simp only
      by_cases hc : (k : Int) < st.s.c.ww ∧ st.s.p.length ≤ k + 1
      · have h4 : x = decide (((addOp st.s.p k o).getD k []).length ≤ 200) ∧ RdW B b m ⟨{ st.s with p := addOp st.s.p k o }, doW⟩ w' := by
          have : (if (k : Int) < st.s.c.ww ∧ st.s.p.length ≤ k + 1 then x = decide (((addOp st.s.p k o).getD k []).length ≤ 200) ∧ RdW B b m ⟨{ st.s with p := addOp st.s.p k o }, doW⟩ w' else x = false) := h3
          rw [if_pos hc] at this
          exact this
        by_cases h200 : ((addOp st.s.p k o).getD k []).length ≤ 200
        · rw [if_pos ⟨hc.1, hc.2, h200⟩]
          exact ⟨fun h => (by cases h), fun st' h => by injection h with h; subst h; exact ⟨by rw [h4.1]; exact decide_eq_true h200, h4.2⟩⟩
        · rw [if_neg (fun q => h200 q.2.2)]
          exact ⟨fun _ => by rw [h4.1]; exact decide_eq_false h200, fun st' h => by cases h⟩
      · have h4 : x = false := by
          have : (if (k : Int) < st.s.c.ww ∧ st.s.p.length ≤ k + 1 then x = decide (((addOp st.s.p k o).getD k []).length ≤ 200) ∧ RdW B b m ⟨{ st.s with p := addOp st.s.p k o }, doW⟩ w' else x = false) := h3
          rw [if_neg hc] at this
          exact this
        rw [if_neg (fun q => hc ⟨q.1, q.2.1⟩)]
        exact ⟨fun _ => h4, fun st' h => by cases h⟩
theorem rd_of_pick {B b m : Nat} {st : RdS} {T : List UInt8} {w w1 : World} {e : Ending} {w' : World} (hF : Far B b w w1) (h : PickPost B b m ⟨st.s, pickW⟩ T w1 e w') :
    RdPost B b m st (match rdNums 20 T with
      | none => none
      | some ks => if st.s.k.length % 20 = 0 ∧ (st.s.k ++ ks).length ≤ 2000 ∧ inR st.s.c ks = true then some ⟨{ st.s with k := st.s.k ++ ks }, pickW⟩ else none) w e w' := by
  obtain ⟨x, h1, h2, h3, h4⟩ := h
  refine ⟨x, h1, hF.trans h2, ?_⟩
  cases hk : rdNums 20 T with
  | none => exact ⟨fun _ => h3 hk, fun st' h => by cases h⟩
  | some ks =>
    obtain ⟨h5, h6⟩ := h4 ks hk
    simp only
    by_cases hc : st.s.k.length % 20 = 0 ∧ (st.s.k ++ ks).length ≤ 2000 ∧ inR st.s.c ks = true
    · rw [if_pos hc]
      exact ⟨fun h => (by cases h), fun st' h => by injection h with h; subst h; exact ⟨by rw [h5]; exact decide_eq_true hc, h6⟩⟩
    · rw [if_neg hc]
      exact ⟨fun _ => by rw [h5]; exact decide_eq_false hc, fun st' h => by cases h⟩
def o_hall (l : List UInt8) (st : RdS) : Option RdS := if st.b = [] then (match (rdNums 8 (Lib.cut l [32]).2.1).bind cfgOf with | none => none | some c => if okC c then some ⟨{ st.s with c := c }, hallW⟩ else none) else none
set_option maxRecDepth 100000 in
set_option maxHeartbeats 8000000 in
theorem read_hall (B b m : Nat) (st : RdS) (l : List UInt8) (hl : l.length ≤ 100000) (G : GoodR st) (w0 : World) (L0 : Lb w0) (w : World) (hb0 : Below w0.heap.size w0 w) (h0b : w0.heap.size ≤ b) (h : RdW B b m st w) (RU : Rules B b m w) (hw : (Lib.cut l [32]).1 = hallW) :
    Calls Tryz.prog 34 #[.pointer (some ⟨b, 0, none⟩), strV l] w (RdPost B b m st (o_hall l st) w) := by
  have L := L0.keep hb0
  have HL0 := Lib.hid L0
  have HB00 := Lib.hid hb0
  clear L0 hb0
  obtain ⟨hbB, hBw, vp, vk, U, B0, OP, OK⟩ := h
  have HCC := fCut l 32 (by omega) w L
  have HLL := cut_len l 32
  obtain ⟨W1, hW1⟩ : ∃ q, q = (Lib.cut l [32]).1 := ⟨_, rfl⟩
  obtain ⟨T1, hT1⟩ : ∃ q, q = (Lib.cut l [32]).2.1 := ⟨_, rfl⟩
  obtain ⟨E1, hE1⟩ : ∃ q, q = (Lib.cut l [32]).2.2 := ⟨_, rfl⟩
  rw [← hW1, ← hT1] at HLL
  rw [← hW1, ← hT1, ← hE1] at HCC
  rw [← hW1] at hw
  have HL := Lib.hid L
  have HRU := Lib.hid RU
  have HB0 := Lib.hid B0
  have HOP := Lib.hid OP
  have HOK := Lib.hid OK
  have HG := Lib.hid G
  have HTL : RowKit.Hid (T1.length ≤ 100000) := Lib.hid (by omega)
  obtain ⟨g1, g2, g3, MA, r1, r2, r3, am, bm, a1, b1, a2, b2, a3, b3⟩ := RU.ex
  subst hw
  have HC1 := Lib.hid HCC
  have HMA := Lib.hid MA
  have HRR := Lib.hid r1
  have gB : g1 < B := a1
  have HGB := Lib.hid gB
  have HBM := Lib.hid am
  have HBE : RowKit.Hid (st.b = [] ∨ okC st.s.c = true) := Lib.hid (by
    by_cases h : st.b = []
    · exact Or.inl h
    · exact Or.inr (G.ok h))
  obtain ⟨y, hy⟩ : ∃ y : Bool, y = decide (st.b = []) := ⟨_, rfl⟩
  have HY := Lib.hid hy
  have HT1 := Lib.hid hT1
  have HBW := Lib.hid hBw
  clear B0 OP OK L HCC HLL hW1 hT1 hE1 G MA r1 r2 r3 RU hy gB hBw
  go_enter Tryz.func34, Tryz.ntmps34
  go_wp2_with fail
  refine HC1.out.mono ?_
  rintro e w1 ⟨rfl, hb1⟩
  have X1 := Lib.hid hb1
  have R1 := HB0.out.keep hb1
  have x1 := R1.cells
  have lx1 := R1.lt
  have F1 : Far B b w w1 := Far.of hb1 HBW.out
  have hlk := run_look (P := Tryz.prog) (w := w1) (b := m) (L := rulesL b g1 g2 g3) (str_keys Tryz.underlying9) Tryz.underlying69 (zero_ru w1) (by obtain ⟨es, ck, q1, q2⟩ := HMA.out; exact ⟨es, ck, (F1.block m HBM.out bm).trans q1, q2⟩) hallB true
  have hlk2 : (Mr.look hallB (rulesL b g1 g2 g3)) = some (ruleV g1 1 52 b) := by rfl
  rw [hlk2] at hlk
  simp only [if_true, Option.getD_some, Option.isSome_some] at hlk
  clear hb1 F1 hlk2
  have Z := Bk.new w1 ruleZ 98
  have BU := boxU w1 #[.slice (some ⟨g1, 0, none⟩) 1 1, .func (.func 52) #[.pointer (some ⟨b, 0, none⟩)] #[]]
  have bu := boxU_below w1 #[.slice (some ⟨g1, 0, none⟩) 1 1, .func (.func 52) #[.pointer (some ⟨b, 0, none⟩)] #[]]
  obtain ⟨w2, hw2⟩ : ∃ q, q = (w1.alloc (.cells ruleZ 98)).setRow w1.heap.size #[.slice (some ⟨g1, 0, none⟩) 1 1, .func (.func 52) #[.pointer (some ⟨b, 0, none⟩)] #[]] := ⟨_, rfl⟩
  rw [← hw2] at BU bu
  have X2 := Lib.hid (X1.out.trans (bu.mono X1.out.size))
  have R2 := HB0.out.keep X2.out
  have HR2 := Lib.hid R2
  have HBU := Lib.hid BU
  have GR2 : RowKit.Hid (∀ w', Below w2.heap.size w2 w' → Calls Tryz.prog 56 #[.slice (some ⟨g1, 0, none⟩) 1 1, strV st.b] w' fun e w'' => e = .returned (.bool y) ∧ Below w'.heap.size w' w'') := Lib.hid (fun w' hb' => by
    have hrow : Bk w' g1 rowE 9 := (HRR.out.keep X2.out).keep hb'
    have := hasS (zs := [⟨#[]⟩]) hrow rfl (by decide) ⟨st.b.toArray⟩
    have e : Lib.containsS [⟨#[]⟩] ⟨st.b.toArray⟩ = y := by
      rw [HY.out, Bool.eq_iff_iff, Lib.containsS_iff, decide_eq_true_eq]
      simp only [List.mem_cons, List.not_mem_nil, or_false]
      constructor
      · intro h; exact (toB_eq st.b []).1 h
      · intro h; rw [h]
    rw [e] at this
    exact this)
  clear bu BU
  go_wp2_with (first | (refine wpList_alloc_ruz rfl rfl ?_) | (refine wpList_store_row rfl 98 _ _ rfl w1.heap.size #[.slice (some ⟨g1, 0, none⟩) 1 1, .func (.func 52) #[.pointer (some ⟨b, 0, none⟩)] #[]] rfl rfl _ _ (by exact Z) (by kernel_rfl) (by kernel_rfl) (by kernel_rfl) ?_; rw [← hw2]; clear hw2 Z hlk x1 lx1))
  have x2 := R2.cells
  have lx2 := R2.lt
  have u2 := HBU.out.cells
  have lu2 := HBU.out.lt
  refine wp_region_grown (by kernel_rfl) (by kernel_rfl) ?_
  have hg := @gcell
  repeat (go_big_quiet_step (first | exact grown_of (GR2.out _ (Subtype.property _))))
  refine wpQuiet_nil ?_
  rintro w3 ⟨⟨_, hb3⟩, rfl⟩
  have X3 := Lib.hid (X2.out.trans (hb3.mono X2.out.size))
  have R3 := HR2.out.keep hb3
  have U3 := HBU.out.keep hb3
  have HR3 := Lib.hid R3
  have x3 := R3.cells
  have lx3 := R3.lt
  have f3 := R3.frozen 10
  have u3 := U3.cells
  have lu3 := U3.lt
  have hne : w1.heap.size ≠ b := by have := X1.out.size; have := HB0.out.lt; omega
  have HL3 := Lib.hid (HL.out.keep X3.out)
  clear hb3 R3 x2 lx2 u2 lu2 R2
  cases y with
  | false =>
    go_wp2_with fail
    go_ret
    refine ⟨false, rfl, Far.of X3.out HBW.out, fun _ => rfl, fun st' h => ?_⟩
    have hc : ¬ (st.b = []) := of_decide_eq_false HY.out.symm
    unfold o_hall at h
    rw [if_neg hc] at h
    cases h
  | true =>
    have hc : (st.b = []) := of_decide_eq_true HY.out.symm
    have HCD := Lib.hid hc
    clear hc
    have u4 : (w3.setCell ⟨b, 10, none⟩ (strV hallW)).cell? ⟨w1.heap.size, 1, none⟩ = some (.func (.func 52) #[.pointer (some ⟨b, 0, none⟩)] #[]) := (World.cell?_of_block (heap_setCell_other w3 ⟨b, 10, none⟩ w1.heap.size _ (by simpa using hne))).trans (U3.cells 1)
    have R4 : Bk (w3.setCell ⟨b, 10, none⟩ (strV hallW)) b (rdC st.s.c vp vk hallW m) 71 := HR3.out.setCell 10 (strV hallW)
    have F4 : Far B b w (w3.setCell ⟨b, 10, none⟩ (strV hallW)) := (Far.of X3.out HBW.out).trans (Far.setCell B b 10 w3 _)
    have HRD : RowKit.Hid (RdW B b m ⟨st.s, hallW⟩ (w3.setCell ⟨b, 10, none⟩ (strV hallW))) := Lib.hid ⟨hbB, Nat.le_trans HBW.out F4.size, vp, vk, U, R4, (HOP.out.keep X3.out).same (fun g hg _ => heap_setCell_other w3 ⟨b, 10, none⟩ g _ (by intro e; simp at e; omega)), own_same (OwnI.keep HOK.out X3.out) (fun g hg => heap_setCell_other w3 ⟨b, 10, none⟩ g _ (by intro e; have := (World.ownsRow.lt (OwnI.keep HOK.out X3.out) g hg).1; simp at e; omega))⟩
    have HL4 : RowKit.Hid (Lb (w3.setCell ⟨b, 10, none⟩ (strV hallW))) := Lib.hid (HL0.out.keep (HB00.out.trans (F4.below h0b hbB)))
    have HOKC : RowKit.Hid (st.b ≠ [] → okC st.s.c = true) := Lib.hid (fun h => HBE.out.resolve_left h)
    have HF4 := Lib.hid F4
    obtain ⟨w4, hw4⟩ : ∃ q, q = w3.setCell ⟨b, 10, none⟩ (strV hallW) := ⟨_, rfl⟩
    rw [← hw4] at u4 HRD HL4 HF4
    skip
    have HCALL := Lib.hid (fHall B b m ⟨st.s, hallW⟩ T1 (by have := HTL.out; omega) w4 HL4.out HRD.out)
    clear u3 lu3 R4 F4
    go_wp2_with (first | (rw [← hw4]; clear hw4 x3 lx3 f3))
    refine HCALL.out.mono ?_
    intro e w5 hp
    obtain ⟨x, rfl, h2, h3⟩ := rd_of_hall HF4.out hp
    have H2 := Lib.hid h2
    have H3 := Lib.hid h3
    clear hp h2 h3
    go_wp2_with fail
    go_ret
    refine ⟨x, rfl, H2.out, ?_⟩
    unfold o_hall
    rw [if_pos HCD.out, ← HT1.out]
    exact H3.out
def o_do (l : List UInt8) (st : RdS) : Option RdS := if st.b = hallW ∨ st.b = doW then (match rdW (Lib.cut (Lib.cut l [32]).2.1 [32]).1, parseL (Lib.cut (Lib.cut l [32]).2.1 [32]).2.1 with
      | some k, some o => if (k : Int) < st.s.c.ww ∧ st.s.p.length ≤ k + 1 ∧ ((addOp st.s.p k o).getD k []).length ≤ 200 then some ⟨{ st.s with p := addOp st.s.p k o }, doW⟩ else none
      | _, _ => none) else none
set_option maxRecDepth 100000 in
set_option maxHeartbeats 8000000 in
theorem read_do (B b m : Nat) (st : RdS) (l : List UInt8) (hl : l.length ≤ 100000) (G : GoodR st) (w0 : World) (L0 : Lb w0) (w : World) (hb0 : Below w0.heap.size w0 w) (h0b : w0.heap.size ≤ b) (h : RdW B b m st w) (RU : Rules B b m w) (hw : (Lib.cut l [32]).1 = doW) :
    Calls Tryz.prog 34 #[.pointer (some ⟨b, 0, none⟩), strV l] w (RdPost B b m st (o_do l st) w) := by
  have L := L0.keep hb0
  have HL0 := Lib.hid L0
  have HB00 := Lib.hid hb0
  clear L0 hb0
  obtain ⟨hbB, hBw, vp, vk, U, B0, OP, OK⟩ := h
  have HCC := fCut l 32 (by omega) w L
  have HLL := cut_len l 32
  obtain ⟨W1, hW1⟩ : ∃ q, q = (Lib.cut l [32]).1 := ⟨_, rfl⟩
  obtain ⟨T1, hT1⟩ : ∃ q, q = (Lib.cut l [32]).2.1 := ⟨_, rfl⟩
  obtain ⟨E1, hE1⟩ : ∃ q, q = (Lib.cut l [32]).2.2 := ⟨_, rfl⟩
  rw [← hW1, ← hT1] at HLL
  rw [← hW1, ← hT1, ← hE1] at HCC
  rw [← hW1] at hw
  have HL := Lib.hid L
  have HRU := Lib.hid RU
  have HB0 := Lib.hid B0
  have HOP := Lib.hid OP
  have HOK := Lib.hid OK
  have HG := Lib.hid G
  have HTL : RowKit.Hid (T1.length ≤ 100000) := Lib.hid (by omega)
  obtain ⟨g1, g2, g3, MA, r1, r2, r3, am, bm, a1, b1, a2, b2, a3, b3⟩ := RU.ex
  subst hw
  have HC1 := Lib.hid HCC
  have HMA := Lib.hid MA
  have HRR := Lib.hid r2
  have gB : g2 < B := a2
  have HGB := Lib.hid gB
  have HBM := Lib.hid am
  have HBE : RowKit.Hid (st.b = [] ∨ okC st.s.c = true) := Lib.hid (by
    by_cases h : st.b = []
    · exact Or.inl h
    · exact Or.inr (G.ok h))
  obtain ⟨y, hy⟩ : ∃ y : Bool, y = decide (st.b = hallW ∨ st.b = doW) := ⟨_, rfl⟩
  have HY := Lib.hid hy
  have HT1 := Lib.hid hT1
  have HBW := Lib.hid hBw
  clear B0 OP OK L HCC HLL hW1 hT1 hE1 G MA r1 r2 r3 RU hy gB hBw
  go_enter Tryz.func34, Tryz.ntmps34
  go_wp2_with fail
  refine HC1.out.mono ?_
  rintro e w1 ⟨rfl, hb1⟩
  have X1 := Lib.hid hb1
  have R1 := HB0.out.keep hb1
  have x1 := R1.cells
  have lx1 := R1.lt
  have F1 : Far B b w w1 := Far.of hb1 HBW.out
  have hlk := run_look (P := Tryz.prog) (w := w1) (b := m) (L := rulesL b g1 g2 g3) (str_keys Tryz.underlying9) Tryz.underlying69 (zero_ru w1) (by obtain ⟨es, ck, q1, q2⟩ := HMA.out; exact ⟨es, ck, (F1.block m HBM.out bm).trans q1, q2⟩) doB true
  have hlk2 : (Mr.look doB (rulesL b g1 g2 g3)) = some (ruleV g2 2 53 b) := by rfl
  rw [hlk2] at hlk
  simp only [if_true, Option.getD_some, Option.isSome_some] at hlk
  clear hb1 F1 hlk2
  have Z := Bk.new w1 ruleZ 98
  have BU := boxU w1 #[.slice (some ⟨g2, 0, none⟩) 2 2, .func (.func 53) #[.pointer (some ⟨b, 0, none⟩)] #[]]
  have bu := boxU_below w1 #[.slice (some ⟨g2, 0, none⟩) 2 2, .func (.func 53) #[.pointer (some ⟨b, 0, none⟩)] #[]]
  obtain ⟨w2, hw2⟩ : ∃ q, q = (w1.alloc (.cells ruleZ 98)).setRow w1.heap.size #[.slice (some ⟨g2, 0, none⟩) 2 2, .func (.func 53) #[.pointer (some ⟨b, 0, none⟩)] #[]] := ⟨_, rfl⟩
  rw [← hw2] at BU bu
  have X2 := Lib.hid (X1.out.trans (bu.mono X1.out.size))
  have R2 := HB0.out.keep X2.out
  have HR2 := Lib.hid R2
  have HBU := Lib.hid BU
  have GR2 : RowKit.Hid (∀ w', Below w2.heap.size w2 w' → Calls Tryz.prog 56 #[.slice (some ⟨g2, 0, none⟩) 2 2, strV st.b] w' fun e w'' => e = .returned (.bool y) ∧ Below w'.heap.size w' w'') := Lib.hid (fun w' hb' => by
    have hrow : Bk w' g2 rowH 9 := (HRR.out.keep X2.out).keep hb'
    have := hasS (zs := [hallB, doB]) hrow rfl (by decide) ⟨st.b.toArray⟩
    have e : Lib.containsS [hallB, doB] ⟨st.b.toArray⟩ = y := by
      rw [HY.out, Bool.eq_iff_iff, Lib.containsS_iff, decide_eq_true_eq]
      simp only [List.mem_cons, List.not_mem_nil, or_false]
      rw [show hallB = (⟨hallW.toArray⟩ : ByteArray) from rfl, show doB = (⟨doW.toArray⟩ : ByteArray) from rfl, toB_eq, toB_eq]
    rw [e] at this
    exact this)
  clear bu BU
  go_wp2_with (first | (refine wpList_alloc_ruz rfl rfl ?_) | (refine wpList_store_row rfl 98 _ _ rfl w1.heap.size #[.slice (some ⟨g2, 0, none⟩) 2 2, .func (.func 53) #[.pointer (some ⟨b, 0, none⟩)] #[]] rfl rfl _ _ (by exact Z) (by kernel_rfl) (by kernel_rfl) (by kernel_rfl) ?_; rw [← hw2]; clear hw2 Z hlk x1 lx1))
  have x2 := R2.cells
  have lx2 := R2.lt
  have u2 := HBU.out.cells
  have lu2 := HBU.out.lt
  refine wp_region_grown (by kernel_rfl) (by kernel_rfl) ?_
  have hg := @gcell
  repeat (go_big_quiet_step (first | exact grown_of (GR2.out _ (Subtype.property _))))
  refine wpQuiet_nil ?_
  rintro w3 ⟨⟨_, hb3⟩, rfl⟩
  have X3 := Lib.hid (X2.out.trans (hb3.mono X2.out.size))
  have R3 := HR2.out.keep hb3
  have U3 := HBU.out.keep hb3
  have HR3 := Lib.hid R3
  have x3 := R3.cells
  have lx3 := R3.lt
  have f3 := R3.frozen 10
  have u3 := U3.cells
  have lu3 := U3.lt
  have hne : w1.heap.size ≠ b := by have := X1.out.size; have := HB0.out.lt; omega
  have HL3 := Lib.hid (HL.out.keep X3.out)
  clear hb3 R3 x2 lx2 u2 lu2 R2
  cases y with
  | false =>
    go_wp2_with fail
    go_ret
    refine ⟨false, rfl, Far.of X3.out HBW.out, fun _ => rfl, fun st' h => ?_⟩
    have hc : ¬ (st.b = hallW ∨ st.b = doW) := of_decide_eq_false HY.out.symm
    unfold o_do at h
    rw [if_neg hc] at h
    cases h
  | true =>
    have hc : (st.b = hallW ∨ st.b = doW) := of_decide_eq_true HY.out.symm
    have HCD := Lib.hid hc
    clear hc
    have u4 : (w3.setCell ⟨b, 10, none⟩ (strV doW)).cell? ⟨w1.heap.size, 1, none⟩ = some (.func (.func 53) #[.pointer (some ⟨b, 0, none⟩)] #[]) := (World.cell?_of_block (heap_setCell_other w3 ⟨b, 10, none⟩ w1.heap.size _ (by simpa using hne))).trans (U3.cells 1)
    have R4 : Bk (w3.setCell ⟨b, 10, none⟩ (strV doW)) b (rdC st.s.c vp vk doW m) 71 := HR3.out.setCell 10 (strV doW)
    have F4 : Far B b w (w3.setCell ⟨b, 10, none⟩ (strV doW)) := (Far.of X3.out HBW.out).trans (Far.setCell B b 10 w3 _)
    have HRD : RowKit.Hid (RdW B b m ⟨st.s, doW⟩ (w3.setCell ⟨b, 10, none⟩ (strV doW))) := Lib.hid ⟨hbB, Nat.le_trans HBW.out F4.size, vp, vk, U, R4, (HOP.out.keep X3.out).same (fun g hg _ => heap_setCell_other w3 ⟨b, 10, none⟩ g _ (by intro e; simp at e; omega)), own_same (OwnI.keep HOK.out X3.out) (fun g hg => heap_setCell_other w3 ⟨b, 10, none⟩ g _ (by intro e; have := (World.ownsRow.lt (OwnI.keep HOK.out X3.out) g hg).1; simp at e; omega))⟩
    have HL4 : RowKit.Hid (Lb (w3.setCell ⟨b, 10, none⟩ (strV doW))) := Lib.hid (HL0.out.keep (HB00.out.trans (F4.below h0b hbB)))
    have HOKC : RowKit.Hid (st.b ≠ [] → okC st.s.c = true) := Lib.hid (fun h => HBE.out.resolve_left h)
    have HF4 := Lib.hid F4
    obtain ⟨w4, hw4⟩ : ∃ q, q = w3.setCell ⟨b, 10, none⟩ (strV doW) := ⟨_, rfl⟩
    rw [← hw4] at u4 HRD HL4 HF4
    have h0 : st.b ≠ [] := fun e => by rcases HCD.out with q | q <;> (rw [e] at q; cases q)
    have HCALL := Lib.hid (fDo B b m ⟨st.s, doW⟩ T1 HTL.out ⟨fun _ => HOKC.out h0, HG.out.pl, HG.out.ol, HG.out.kl⟩ (ok_ww (HOKC.out h0)).2 w4 HL4.out HRD.out)
    clear u3 lu3 R4 F4
    go_wp2_with (first | (rw [← hw4]; clear hw4 x3 lx3 f3))
    refine HCALL.out.mono ?_
    intro e w5 hp
    obtain ⟨x, rfl, h2, h3⟩ := rd_of_do HF4.out hp
    have H2 := Lib.hid h2
    have H3 := Lib.hid h3
    clear hp h2 h3
    go_wp2_with fail
    go_ret
    refine ⟨x, rfl, H2.out, ?_⟩
    unfold o_do
    rw [if_pos HCD.out, ← HT1.out]
    exact H3.out
def o_pick (l : List UInt8) (st : RdS) : Option RdS := if st.b = hallW ∨ st.b = doW ∨ st.b = pickW then (match rdNums 20 (Lib.cut l [32]).2.1 with
      | none => none
      | some ks => if st.s.k.length % 20 = 0 ∧ (st.s.k ++ ks).length ≤ 2000 ∧ inR st.s.c ks = true then some ⟨{ st.s with k := st.s.k ++ ks }, pickW⟩ else none) else none
set_option maxRecDepth 100000 in
set_option maxHeartbeats 8000000 in
theorem read_pick (B b m : Nat) (st : RdS) (l : List UInt8) (hl : l.length ≤ 100000) (G : GoodR st) (w0 : World) (L0 : Lb w0) (w : World) (hb0 : Below w0.heap.size w0 w) (h0b : w0.heap.size ≤ b) (h : RdW B b m st w) (RU : Rules B b m w) (hw : (Lib.cut l [32]).1 = pickW) :
    Calls Tryz.prog 34 #[.pointer (some ⟨b, 0, none⟩), strV l] w (RdPost B b m st (o_pick l st) w) := by
  have L := L0.keep hb0
  have HL0 := Lib.hid L0
  have HB00 := Lib.hid hb0
  clear L0 hb0
  obtain ⟨hbB, hBw, vp, vk, U, B0, OP, OK⟩ := h
  have HCC := fCut l 32 (by omega) w L
  have HLL := cut_len l 32
  obtain ⟨W1, hW1⟩ : ∃ q, q = (Lib.cut l [32]).1 := ⟨_, rfl⟩
  obtain ⟨T1, hT1⟩ : ∃ q, q = (Lib.cut l [32]).2.1 := ⟨_, rfl⟩
  obtain ⟨E1, hE1⟩ : ∃ q, q = (Lib.cut l [32]).2.2 := ⟨_, rfl⟩
  rw [← hW1, ← hT1] at HLL
  rw [← hW1, ← hT1, ← hE1] at HCC
  rw [← hW1] at hw
  have HL := Lib.hid L
  have HRU := Lib.hid RU
  have HB0 := Lib.hid B0
  have HOP := Lib.hid OP
  have HOK := Lib.hid OK
  have HG := Lib.hid G
  have HTL : RowKit.Hid (T1.length ≤ 100000) := Lib.hid (by omega)
  obtain ⟨g1, g2, g3, MA, r1, r2, r3, am, bm, a1, b1, a2, b2, a3, b3⟩ := RU.ex
  subst hw
  have HC1 := Lib.hid HCC
  have HMA := Lib.hid MA
  have HRR := Lib.hid r3
  have gB : g3 < B := a3
  have HGB := Lib.hid gB
  have HBM := Lib.hid am
  have HBE : RowKit.Hid (st.b = [] ∨ okC st.s.c = true) := Lib.hid (by
    by_cases h : st.b = []
    · exact Or.inl h
    · exact Or.inr (G.ok h))
  obtain ⟨y, hy⟩ : ∃ y : Bool, y = decide (st.b = hallW ∨ st.b = doW ∨ st.b = pickW) := ⟨_, rfl⟩
  have HY := Lib.hid hy
  have HT1 := Lib.hid hT1
  have HBW := Lib.hid hBw
  clear B0 OP OK L HCC HLL hW1 hT1 hE1 G MA r1 r2 r3 RU hy gB hBw
  go_enter Tryz.func34, Tryz.ntmps34
  go_wp2_with fail
  refine HC1.out.mono ?_
  rintro e w1 ⟨rfl, hb1⟩
  have X1 := Lib.hid hb1
  have R1 := HB0.out.keep hb1
  have x1 := R1.cells
  have lx1 := R1.lt
  have F1 : Far B b w w1 := Far.of hb1 HBW.out
  have hlk := run_look (P := Tryz.prog) (w := w1) (b := m) (L := rulesL b g1 g2 g3) (str_keys Tryz.underlying9) Tryz.underlying69 (zero_ru w1) (by obtain ⟨es, ck, q1, q2⟩ := HMA.out; exact ⟨es, ck, (F1.block m HBM.out bm).trans q1, q2⟩) pickB true
  have hlk2 : (Mr.look pickB (rulesL b g1 g2 g3)) = some (ruleV g3 3 54 b) := by rfl
  rw [hlk2] at hlk
  simp only [if_true, Option.getD_some, Option.isSome_some] at hlk
  clear hb1 F1 hlk2
  have Z := Bk.new w1 ruleZ 98
  have BU := boxU w1 #[.slice (some ⟨g3, 0, none⟩) 3 3, .func (.func 54) #[.pointer (some ⟨b, 0, none⟩)] #[]]
  have bu := boxU_below w1 #[.slice (some ⟨g3, 0, none⟩) 3 3, .func (.func 54) #[.pointer (some ⟨b, 0, none⟩)] #[]]
  obtain ⟨w2, hw2⟩ : ∃ q, q = (w1.alloc (.cells ruleZ 98)).setRow w1.heap.size #[.slice (some ⟨g3, 0, none⟩) 3 3, .func (.func 54) #[.pointer (some ⟨b, 0, none⟩)] #[]] := ⟨_, rfl⟩
  rw [← hw2] at BU bu
  have X2 := Lib.hid (X1.out.trans (bu.mono X1.out.size))
  have R2 := HB0.out.keep X2.out
  have HR2 := Lib.hid R2
  have HBU := Lib.hid BU
  have GR2 : RowKit.Hid (∀ w', Below w2.heap.size w2 w' → Calls Tryz.prog 56 #[.slice (some ⟨g3, 0, none⟩) 3 3, strV st.b] w' fun e w'' => e = .returned (.bool y) ∧ Below w'.heap.size w' w'') := Lib.hid (fun w' hb' => by
    have hrow : Bk w' g3 rowP 9 := (HRR.out.keep X2.out).keep hb'
    have := hasS (zs := [hallB, doB, pickB]) hrow rfl (by decide) ⟨st.b.toArray⟩
    have e : Lib.containsS [hallB, doB, pickB] ⟨st.b.toArray⟩ = y := by
      rw [HY.out, Bool.eq_iff_iff, Lib.containsS_iff, decide_eq_true_eq]
      simp only [List.mem_cons, List.not_mem_nil, or_false]
      rw [show hallB = (⟨hallW.toArray⟩ : ByteArray) from rfl, show doB = (⟨doW.toArray⟩ : ByteArray) from rfl, show pickB = (⟨pickW.toArray⟩ : ByteArray) from rfl, toB_eq, toB_eq, toB_eq]
    rw [e] at this
    exact this)
  clear bu BU
  go_wp2_with (first | (refine wpList_alloc_ruz rfl rfl ?_) | (refine wpList_store_row rfl 98 _ _ rfl w1.heap.size #[.slice (some ⟨g3, 0, none⟩) 3 3, .func (.func 54) #[.pointer (some ⟨b, 0, none⟩)] #[]] rfl rfl _ _ (by exact Z) (by kernel_rfl) (by kernel_rfl) (by kernel_rfl) ?_; rw [← hw2]; clear hw2 Z hlk x1 lx1))
  have x2 := R2.cells
  have lx2 := R2.lt
  have u2 := HBU.out.cells
  have lu2 := HBU.out.lt
  refine wp_region_grown (by kernel_rfl) (by kernel_rfl) ?_
  have hg := @gcell
  repeat (go_big_quiet_step (first | exact grown_of (GR2.out _ (Subtype.property _))))
  refine wpQuiet_nil ?_
  rintro w3 ⟨⟨_, hb3⟩, rfl⟩
  have X3 := Lib.hid (X2.out.trans (hb3.mono X2.out.size))
  have R3 := HR2.out.keep hb3
  have U3 := HBU.out.keep hb3
  have HR3 := Lib.hid R3
  have x3 := R3.cells
  have lx3 := R3.lt
  have f3 := R3.frozen 10
  have u3 := U3.cells
  have lu3 := U3.lt
  have hne : w1.heap.size ≠ b := by have := X1.out.size; have := HB0.out.lt; omega
  have HL3 := Lib.hid (HL.out.keep X3.out)
  clear hb3 R3 x2 lx2 u2 lu2 R2
  cases y with
  | false =>
    go_wp2_with fail
    go_ret
    refine ⟨false, rfl, Far.of X3.out HBW.out, fun _ => rfl, fun st' h => ?_⟩
    have hc : ¬ (st.b = hallW ∨ st.b = doW ∨ st.b = pickW) := of_decide_eq_false HY.out.symm
    unfold o_pick at h
    rw [if_neg hc] at h
    cases h
  | true =>
    have hc : (st.b = hallW ∨ st.b = doW ∨ st.b = pickW) := of_decide_eq_true HY.out.symm
    have HCD := Lib.hid hc
    clear hc
    have u4 : (w3.setCell ⟨b, 10, none⟩ (strV pickW)).cell? ⟨w1.heap.size, 1, none⟩ = some (.func (.func 54) #[.pointer (some ⟨b, 0, none⟩)] #[]) := (World.cell?_of_block (heap_setCell_other w3 ⟨b, 10, none⟩ w1.heap.size _ (by simpa using hne))).trans (U3.cells 1)
    have R4 : Bk (w3.setCell ⟨b, 10, none⟩ (strV pickW)) b (rdC st.s.c vp vk pickW m) 71 := HR3.out.setCell 10 (strV pickW)
    have F4 : Far B b w (w3.setCell ⟨b, 10, none⟩ (strV pickW)) := (Far.of X3.out HBW.out).trans (Far.setCell B b 10 w3 _)
    have HRD : RowKit.Hid (RdW B b m ⟨st.s, pickW⟩ (w3.setCell ⟨b, 10, none⟩ (strV pickW))) := Lib.hid ⟨hbB, Nat.le_trans HBW.out F4.size, vp, vk, U, R4, (HOP.out.keep X3.out).same (fun g hg _ => heap_setCell_other w3 ⟨b, 10, none⟩ g _ (by intro e; simp at e; omega)), own_same (OwnI.keep HOK.out X3.out) (fun g hg => heap_setCell_other w3 ⟨b, 10, none⟩ g _ (by intro e; have := (World.ownsRow.lt (OwnI.keep HOK.out X3.out) g hg).1; simp at e; omega))⟩
    have HL4 : RowKit.Hid (Lb (w3.setCell ⟨b, 10, none⟩ (strV pickW))) := Lib.hid (HL0.out.keep (HB00.out.trans (F4.below h0b hbB)))
    have HOKC : RowKit.Hid (st.b ≠ [] → okC st.s.c = true) := Lib.hid (fun h => HBE.out.resolve_left h)
    have HF4 := Lib.hid F4
    obtain ⟨w4, hw4⟩ : ∃ q, q = w3.setCell ⟨b, 10, none⟩ (strV pickW) := ⟨_, rfl⟩
    rw [← hw4] at u4 HRD HL4 HF4
    have h0 : st.b ≠ [] := fun e => by rcases HCD.out with q | q | q <;> (rw [e] at q; cases q)
    have HCALL := Lib.hid (fPick B b m ⟨st.s, pickW⟩ T1 (by have := HTL.out; omega) ⟨fun _ => HOKC.out h0, HG.out.pl, HG.out.ol, HG.out.kl⟩ w4 HL4.out HRD.out)
    clear u3 lu3 R4 F4
    go_wp2_with (first | (rw [← hw4]; clear hw4 x3 lx3 f3))
    refine HCALL.out.mono ?_
    intro e w5 hp
    obtain ⟨x, rfl, h2, h3⟩ := rd_of_pick HF4.out hp
    have H2 := Lib.hid h2
    have H3 := Lib.hid h3
    clear hp h2 h3
    go_wp2_with fail
    go_ret
    refine ⟨x, rfl, H2.out, ?_⟩
    unfold o_pick
    rw [if_pos HCD.out, ← HT1.out]
    exact H3.out
set_option maxRecDepth 100000 in
set_option maxHeartbeats 8000000 in
theorem read_none (B b m : Nat) (st : RdS) (l : List UInt8) (hl : l.length ≤ 100000) (G : GoodR st) (w0 : World) (L0 : Lb w0) (w : World) (hb0 : Below w0.heap.size w0 w) (h0b : w0.heap.size ≤ b) (h : RdW B b m st w) (RU : Rules B b m w) (hw : (Lib.cut l [32]).1 ≠ hallW) (hw2 : (Lib.cut l [32]).1 ≠ doW) (hw3 : (Lib.cut l [32]).1 ≠ pickW) :
    Calls Tryz.prog 34 #[.pointer (some ⟨b, 0, none⟩), strV l] w (RdPost B b m st none w) := by
  have L := L0.keep hb0
  have HL0 := Lib.hid L0
  have HB00 := Lib.hid hb0
  clear L0 hb0
  obtain ⟨hbB, hBw, vp, vk, U, B0, OP, OK⟩ := h
  have HCC := fCut l 32 (by omega) w L
  have HLL := cut_len l 32
  obtain ⟨W1, hW1⟩ : ∃ q, q = (Lib.cut l [32]).1 := ⟨_, rfl⟩
  obtain ⟨T1, hT1⟩ : ∃ q, q = (Lib.cut l [32]).2.1 := ⟨_, rfl⟩
  obtain ⟨E1, hE1⟩ : ∃ q, q = (Lib.cut l [32]).2.2 := ⟨_, rfl⟩
  rw [← hW1, ← hT1] at HLL
  rw [← hW1, ← hT1, ← hE1] at HCC
  rw [← hW1] at hw hw2 hw3
  have HL := Lib.hid L
  have HRU := Lib.hid RU
  have HB0 := Lib.hid B0
  have HOP := Lib.hid OP
  have HOK := Lib.hid OK
  have HG := Lib.hid G
  have HTL : RowKit.Hid (T1.length ≤ 100000) := Lib.hid (by omega)
  obtain ⟨g1, g2, g3, MA, r1, r2, r3, am, bm, a1, b1, a2, b2, a3, b3⟩ := RU.ex
  have HC1 := Lib.hid HCC
  have HMA := Lib.hid MA
  have HBM := Lib.hid am
  have HBW := Lib.hid hBw
  have HLK : RowKit.Hid (Mr.look (⟨W1.toArray⟩ : ByteArray) (rulesL b g1 g2 g3) = none) := Lib.hid (by
    have e1 : ¬ (⟨W1.toArray⟩ : ByteArray) = hallB := fun e => hw ((toB_eq W1 hallW).1 e)
    have e2 : ¬ (⟨W1.toArray⟩ : ByteArray) = doB := fun e => hw2 ((toB_eq W1 doW).1 e)
    have e3 : ¬ (⟨W1.toArray⟩ : ByteArray) = pickB := fun e => hw3 ((toB_eq W1 pickW).1 e)
    simp only [Mr.look, rulesL]
    rw [if_neg e1, if_neg e2, if_neg e3])
  clear B0 OP OK L HCC HLL hW1 hT1 hE1 G MA r1 r2 r3 RU hBw hw hw2 hw3
  go_enter Tryz.func34, Tryz.ntmps34
  go_wp2_with fail
  refine HC1.out.mono ?_
  rintro e w1 ⟨rfl, hb1⟩
  have X1 := Lib.hid hb1
  have R1 := HB0.out.keep hb1
  have x1 := R1.cells
  have lx1 := R1.lt
  have F1 : Far B b w w1 := Far.of hb1 HBW.out
  have hlk := run_look (P := Tryz.prog) (w := w1) (b := m) (L := rulesL b g1 g2 g3) (str_keys Tryz.underlying9) Tryz.underlying69 (zero_ru w1) (by obtain ⟨es, ck, q1, q2⟩ := HMA.out; exact ⟨es, ck, (F1.block m HBM.out bm).trans q1, q2⟩) ⟨W1.toArray⟩ true
  rw [HLK.out] at hlk
  simp only [if_true, Option.getD_none, Option.isSome_none] at hlk
  clear hb1 F1
  have Z := Bk.new w1 ruleZ 98
  have BU := boxU w1 ruleZ
  have bu := boxU_below w1 ruleZ
  obtain ⟨w2, hw2⟩ : ∃ q, q = (w1.alloc (.cells ruleZ 98)).setRow w1.heap.size ruleZ := ⟨_, rfl⟩
  rw [← hw2] at BU bu
  have X2 := Lib.hid (X1.out.trans (bu.mono X1.out.size))
  clear bu BU
  go_wp2_with (first | (refine wpList_alloc_ruz rfl rfl ?_) | (refine wpList_store_row rfl 98 _ _ rfl w1.heap.size ruleZ rfl rfl _ _ (by exact Z) (by kernel_rfl) (by kernel_rfl) (by kernel_rfl) ?_; rw [← hw2]; clear hw2 Z hlk x1 lx1))
  refine wp_region_grown (by kernel_rfl) (by kernel_rfl) ?_
  have hg := @gcell
  repeat (go_big_quiet_step (fail))
  refine wpQuiet_nil ?_
  rintro w3 ⟨⟨_, hb3⟩, rfl⟩
  have X3 := Lib.hid (X2.out.trans (hb3.mono X2.out.size))
  clear hb3
  go_wp2_with fail
  go_ret
  exact ⟨false, rfl, Far.of X3.out HBW.out, fun _ => rfl, fun st' h => (by cases h)⟩
/-- The next line. -/
theorem fRead (B b m : Nat) (st : RdS) (l : List UInt8) (hl : l.length ≤ 100000) (G : GoodR st) (w0 : World) (L0 : Lb w0) (w : World) (hb0 : Below w0.heap.size w0 w) (h0b : w0.heap.size ≤ b) (h : RdW B b m st w) (RU : Rules B b m w) :
    Calls Tryz.prog 34 #[.pointer (some ⟨b, 0, none⟩), strV l] w (RdPost B b m st (lineS l st) w) := by
  by_cases h1 : (Lib.cut l [32]).1 = hallW
  · have e : lineS l st = o_hall l st := by unfold lineS o_hall; rw [if_pos h1]; rfl
    rw [e]
    exact read_hall B b m st l hl G w0 L0 w hb0 h0b h RU h1
  by_cases h2 : (Lib.cut l [32]).1 = doW
  · have e : lineS l st = o_do l st := by unfold lineS o_do; rw [if_neg h1, if_pos h2]; rfl
    rw [e]
    exact read_do B b m st l hl G w0 L0 w hb0 h0b h RU h2
  by_cases h3 : (Lib.cut l [32]).1 = pickW
  · have e : lineS l st = o_pick l st := by unfold lineS o_pick; rw [if_neg h1, if_neg h2, if_pos h3]; rfl
    rw [e]
    exact read_pick B b m st l hl G w0 L0 w hb0 h0b h RU h3
  · have e : lineS l st = none := by unfold lineS; rw [if_neg h1, if_neg h2, if_neg h3]
    rw [e]
    exact read_none B b m st l hl G w0 L0 w hb0 h0b h RU h1 h2 h3
end Go.Proofs.YtpmcedfeiconfaaGreatDoor.Scw

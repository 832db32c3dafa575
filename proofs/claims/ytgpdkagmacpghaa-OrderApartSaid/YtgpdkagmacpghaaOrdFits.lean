/- order.Fits for every input: how many answers a new pool allows. -/
import Derived.Test.YtgpdkagmacpghaaOrdOf
import Derived.Test.YtgpdkagmacpghaaIdealGreat
namespace Go.Proofs.Ytgpdkagmacpghaa.Od
open Go Go.RowKit Go.Proofs.Ytgpdkagmacpghaa.Gro Go.Proofs.Ytgpdkagmacpghaa.Own Go.Proofs.Ytgpdkagmacpghaa.Wd Go.Proofs.Ytgpdkagmacpghaa.Ap Go.Proofs.Ytgpdkagmacpghaa.Pl Go.Proofs.Ytgpdkagmacpghaa.Wo Go.Proofs.Ytgpdkagmacpghaa.Shp Go.Proofs.Ytgpdkagmacpghaa.Mr Go.ChangeMaps Go.Proofs.Ytgpdkagmacpghaa.Idl
set_option linter.unusedVariables false
set_option linter.unusedSimpArgs false
theorem acs_get : ∀ (O : List Ao) (i : Nat) (h : i < O.length) (j : Nat), j < 10 → (acs O)[i * 10 + j]? = (ac O[i].1 O[i].2.1).toList[j]?
  | [], i, h, _, _ => by simp at h
  | o :: r, 0, _, j, hj => by
    unfold acs
    rw [List.flatMap_cons, Nat.zero_mul, Nat.zero_add, List.getElem?_append_left (by show j < 10; exact hj)]
    rfl
  | o :: r, i + 1, h, j, hj => by
    have ih := acs_get r i (by simpa using h) j hj
    unfold acs at ih ⊢
    rw [List.flatMap_cons, List.getElem?_append_right (by show 10 ≤ _; omega)]
    rw [show (i + 1) * 10 + j - (ac o.1 o.2.1).toList.length = i * 10 + j by show _ - 10 = _; omega, ih]
    rfl
theorem AsAt.at {B : Nat} {w : World} {y : Sl} {O : List Ao} (h : AsAt B w y.v O) {i : Nat} (hi : i < O.length) : ∃ g, y.ad = some ⟨g, 0, none⟩ ∧ y.len = O.length ∧ B ≤ g ∧ g < w.heap.size ∧ w.rangeAt g (i * 10) (ac O[i].1 O[i].2.1).toList := by
  obtain ⟨g, cap, hv, hB, hg, _, _, hc⟩ := owns_cells h.row (by omega)
  simp only [Sl.v, Value.slice.injEq] at hv
  refine ⟨g, hv.1, hv.2.1, hB, hg, fun j v hj => ?_⟩
  have hj10 : j < 10 := (List.getElem?_eq_some_iff.1 hj).1
  rw [hc _ (by rw [acs_len]; omega), acs_get O i hi j hj10, hj]
theorem AsAt.len {B : Nat} {w : World} {y : Sl} {O : List Ao} (h : AsAt B w y.v O) : y.len = O.length := by
  rcases h.row.2 with ⟨hv, h0⟩ | ⟨g, cap, cur, hv, _⟩
  · simp only [Sl.v, Value.slice.injEq] at hv
    omega
  · simp only [Sl.v, Value.slice.injEq] at hv
    exact hv.2.1
theorem slI_of {w : World} {x : Sl} {l : List Int} (h : Reads w .u64 x.v l) : SlI w x.v l := by
  obtain ⟨ad, cap, he, _, _, h3⟩ := h
  rcases h3 with rfl | ⟨b, off, rfl, _, hc⟩
  · exact .inl ⟨⟨ad, cap, he⟩, rfl⟩
  · refine .inr ⟨b, off, cap, he, fun i hi => ?_⟩
    rw [hc i hi, List.getD_eq_getElem?_getD, List.getElem?_eq_getElem hi]
    rfl
/-- How many answers, from the first on, the pool allows. -/
def fitF (ws : Int) : List (Int × Int) → List Int → List (Shp.Ev × List Int) → Nat
  | _, _, [] => 0
  | L, D, a :: r => if stepOk ws L D a.1.o0 a.1.rt a.1.t a.2 = true then fitF ws (stL ws L D a.1.o0 a.1.rt a.1.t a.1.o2 a.2) (stD ws L D a.1.o0 a.1.rt a.1.t a.2) r + 1 else 0
/-- What a pool's step leaves: all blocks below B but the pool's own. -/
structure Past (p B : Nat) (w w' : World) : Prop where
  os : w'.os = w.os
  tape : w'.tape = w.tape
  output : w'.output = w.output
  size : w.heap.size ≤ w'.heap.size
  block : ∀ k, k < B → k ≠ p → w'.heap[k]? = w.heap[k]?
theorem Past.refl (p B : Nat) (w : World) : Past p B w w := ⟨rfl, rfl, rfl, Nat.le_refl _, fun _ _ _ => rfl⟩
theorem Past.trans {p B : Nat} {a b c : World} (h : Past p B a b) (k : Past p B b c) : Past p B a c := ⟨k.os.trans h.os, k.tape.trans h.tape, k.output.trans h.output, Nat.le_trans h.size k.size, fun i hi hp => (k.block i hi hp).trans (h.block i hi hp)⟩
theorem Past.of {p B : Nat} {w w' : World} (h : Below B w w') : Past p B w w' := ⟨h.os, h.tape, h.output, h.size, fun k hk _ => h.block k hk⟩
theorem Past.below {p B C : Nat} {w w' : World} (h : Past p B w w') (hC : C ≤ p) (hB : C ≤ B) : Below C w w' := ⟨h.os, h.tape, h.output, h.size, fun k hk => h.block k (by omega) (by omega)⟩
theorem AsAt.past {B p C : Nat} {w w' : World} {v : Value} {O : List Ao} (h : AsAt B w v O) (hp : Past p C w w') (hC : w.heap.size ≤ C) (hB : p < B) : AsAt B w' v O :=
  ⟨own_same h.row (fun g hg => hp.block g (Nat.lt_of_lt_of_le (World.ownsRow.lt h.row g hg).2 hC) (by have := (World.ownsRow.lt h.row g hg).1; omega)),
   fun o ho => own_same (h.own o ho) (fun g hg => hp.block g (Nat.lt_of_lt_of_le (World.ownsRow.lt (h.own o ho) g hg).2 hC) (by have := (World.ownsRow.lt (h.own o ho) g hg).1; omega))⟩
/-- A pool whose maps lie from block B on. -/
def PoolX (B p : Nat) (ws : Int) (L : List (Int × Int)) (D : List Int) (w : World) : Prop := ∃ ml md, PoolAt w p ws ml md L D ∧ (∀ b, ml = some b → B ≤ b) ∧ (∀ b, md = some b → B ≤ b)
theorem PoolX.below {B p : Nat} {ws : Int} {L : List (Int × Int)} {D : List Int} {w w' : World} (h : PoolX B p ws L D w) (hb : Below w.heap.size w w') : PoolX B p ws L D w' := by
  obtain ⟨ml, md, h1, h3, h4⟩ := h
  exact ⟨ml, md, h1.below hb, h3, h4⟩
theorem stepX {B p : Nat} {ws : Int} {L : List (Int × Int)} {D : List Int} {w : World} (h : PoolX B p ws L D w) (hB : B ≤ w.heap.size) (e : Shp.Ev) (x : Sl) (xs : List Int) (hr : Reads w .u64 x.v xs) (hx : xs.length ≤ 1000000) :
    Calls Try.prog 85 #[.pointer (some ⟨p, 0, none⟩), .agg (ac e x)] w fun en w' => en = .returned (.bool (stepOk ws L D e.o0 e.rt e.t xs)) ∧ PoolX B p ws (stL ws L D e.o0 e.rt e.t e.o2 xs) (stD ws L D e.o0 e.rt e.t xs) w' ∧ Past p B w w' := by
  obtain ⟨ml, md, h1, h3, h4⟩ := h
  refine (Idl.step h1 e.o0 e.o1 e.o2 e.o3 e.o5 e.o6 e.t e.rt e.o4 x.v xs (slI_of hr) hx).mono fun en w' ⟨he, ml', md', hP, hK, e1, e2⟩ => ⟨he, ⟨ml', md', hP, fun b hb => ?_, fun b hb => ?_⟩, hK.os, hK.tape, hK.output, hK.size, fun k hk hp => hK.block k (by omega) ?_⟩
  · rcases e1 b hb with h | h
    · exact h3 b h
    · omega
  · rcases e2 b hb with h | h
    · exact h4 b h
    · omega
  · rintro (h | h | h)
    · exact hp h
    · have := h3 k h; omega
    · have := h4 k h; omega
theorem fit_drop (ws : Int) (L : List (Int × Int)) (D : List Int) (O : List Ao) (k : Nat) (h : k < O.length) : fitF ws L D ((O.drop k).map fA) = if stepOk ws L D O[k].1.o0 O[k].1.rt O[k].1.t O[k].2.2 = true then fitF ws (stL ws L D O[k].1.o0 O[k].1.rt O[k].1.t O[k].1.o2 O[k].2.2) (stD ws L D O[k].1.o0 O[k].1.rt O[k].1.t O[k].2.2) ((O.drop (k + 1)).map fA) + 1 else 0 := by
  rw [List.drop_eq_getElem_cons h, List.map_cons, fitF]
/-- A slice of events, and what each of them read. -/
structure EX (w : World) (v : Value) (es : List Shp.Ev) (xs : List (List Int)) : Prop where
  rd : EReads w v es
  len : xs.length = es.length
  words : ∀ i (h : i < es.length) (h' : i < xs.length), Reads w .u64 es[i].rd.v xs[i]
theorem EX.keep {w w' : World} {v : Value} {es : List Shp.Ev} {xs : List (List Int)} (h : EX w v es xs) (hb : Below w.heap.size w w') : EX w' v es xs := ⟨h.rd.keep hb, h.len, fun i a b => (h.words i a b).keep hb⟩
theorem orderOf {es : List Shp.Ev} {xs : List (List Int)} {v : Value} {w : World} (h : EX w v es xs) (hm : es.length ≤ 100000) (hxm : ∀ l ∈ xs, l.length ≤ 1000) : Calls Try.prog 20 #[v] w (OfPost es xs w) := by
  obtain ⟨⟨ad, cap, rfl, h1, h2, h3⟩, hl, hw⟩ := h
  rcases h3 with rfl | ⟨b, off, rfl, hb, hc⟩
  · obtain rfl : xs = [] := List.eq_nil_of_length_eq_zero (by simpa using hl)
    exact of_nil ad cap w
  · exact of_pos b off cap es xs w hm hl hb hc hw hxm
set_option maxRecDepth 10000 in
set_option maxHeartbeats 4000000 in
theorem orderFits {es : List Shp.Ev} {xs : List (List Int)} {v : Value} {w : World} (n : Int) (h : EX w v es xs) (hm : es.length ≤ 100000) (hxm : ∀ l ∈ xs, l.length ≤ 1000) :
    Calls Try.prog 50 #[.int .i64 n, v] w fun e w' => e = .returned (.int .i64 (fitF (cl n) [] [] (ofP es xs es.length))) ∧ Below w.heap.size w w' := by
  have HN := Lib.hid (newPool n w)
  have HF := Lib.hid (fun (w1 : World) (hb : Below w.heap.size w w1) => orderOf (h.keep hb) hm hxm)
  have hol : (ofP es xs es.length).length ≤ es.length := by
    unfold ofP
    rw [List.length_map]
    exact ofF_len _ _ _
  have hlim : ∀ p ∈ ofP es xs es.length, p.2.length ≤ 1000 := fun p hp => by
    unfold ofP at hp
    obtain ⟨i, _, rfl⟩ := List.mem_map.1 hp
    simp only [List.getD_eq_getElem?_getD]
    by_cases hi : i < xs.length
    · rw [List.getElem?_eq_getElem hi]
      exact hxm _ (List.getElem_mem hi)
    · rw [List.getElem?_eq_none (by omega)]
      simp
  obtain ⟨A, hA⟩ : ∃ A, A = ofP es xs es.length := ⟨_, rfl⟩
  have HA := Lib.hid hA
  rw [← hA] at hol hlim ⊢
  have HLM := Lib.hid hlim
  clear h hA hlim hxm
  go_enter Try.func50, Try.ntmps50
  go_wp2_with fail
  refine HN.out.mono ?_
  rintro e w1 ⟨rfl, hP, hb1⟩
  have lp := hP.lt
  go_wp2_with fail
  refine (HF.out _ hb1).mono ?_
  rintro e w2 ⟨y, O, rfl, hO, hOA, hb2⟩
  rw [← HA.out] at hOA
  have hyl := hO.len
  have hOl : O.length = A.length := by rw [← hOA, List.length_map]
  have hPX : PoolX w2.heap.size w.heap.size (cl n) [] [] w2 := ⟨none, none, hP.below hb2, (fun b h => by cases h), (fun b h => by cases h)⟩
  have hb02 := hb1.trans (hb2.mono hb1.size)
  have HO := Lib.hid hO
  have HLO : RowKit.Hid (∀ o ∈ O, o.2.2.length ≤ 1000) := Lib.hid (fun o ho => HLM.out (fA o) (by rw [← hOA]; exact List.mem_map.2 ⟨o, ho, rfl⟩))
  obtain ⟨gp, hgp⟩ : ∃ g, g = w.heap.size := ⟨_, rfl⟩
  have hpl : gp < w1.heap.size := by omega
  rw [← hgp] at hPX
  simp only [← hgp]
  have HGP := Lib.hid (Nat.le_of_eq hgp.symm)
  have s12 := hb2.size
  have HB := Lib.hid hb02
  clear hO hP hb1 hb2 hgp hb02
  obtain ⟨yad, yln, ycp⟩ := y
  simp only [Sl.v] at HO ⊢
  simp only at hyl
  have HYL := Lib.hid hyl
  have HOL := Lib.hid hOl
  have HOA := Lib.hid hOA
  clear hyl hOl hOA
  go_wp2
  go_loopw [15] (fun i wr => ∃ (k : Nat) (L : List (Int × Int)) (D : List Int), k ≤ O.length ∧ i = .int .i64 k ∧ PoolX w2.heap.size gp (cl n) L D wr ∧ fitF (cl n) [] [] (O.map fA) = k + fitF (cl n) L D ((O.drop k).map fA) ∧ Past gp w2.heap.size w2 wr) (fun i _ => O.length - (intOf i).toNat)
  case atStart => exact ⟨0, [], [], Nat.zero_le _, rfl, hPX, by simp, Past.refl _ _ _⟩
  case round =>
    obtain ⟨k, L, D, hk, rfl, hX, hF, hpw⟩ := hrel
    by_cases hlt : k < O.length
    · obtain ⟨g, hga, -, hBg, hgl, hrow⟩ := AsAt.at (y := ⟨yad, yln, ycp⟩) HO.out hlt
      have hgb := hpw.block g hgl (by omega)
      have hr' : wr.rangeAt g (k * 10) (ac O[k].1 O[k].2.1).toList := fun j v hv => (World.cell?_of_block (a := ⟨g, k * 10 + j, none⟩) hgb).trans (hrow j v hv)
      have hAw := HO.out.past hpw (Nat.le_refl _) (by omega)
      have hrd := (hAw.own O[k] (List.getElem_mem hlt)).reads
      have hrm := HLO.out O[k] (List.getElem_mem hlt)
      rw [fit_drop _ _ _ O k hlt] at hF
      obtain ⟨o, ho⟩ : ∃ o, o = O[k] := ⟨_, rfl⟩
      rw [← ho] at hr' hrd hF hrm
      obtain ⟨s, x, l⟩ := o
      simp only at hr' hrd hF hrm
      simp only at hga
      subst hga
      have hky : k < yln := by have := HYL.out; omega
      have Z := Bk.new wr (ac ez nilS) 57
      have X := (Bk.new wr (ac ez nilS) 57).setRow (ac s x)
      have hb1 : Below wr.heap.size wr ((wr.alloc (.cells (ac ez nilS) 57)).setRow wr.heap.size (ac s x)) := below_setRow ((Below.refl _ _).alloc (Nat.le_refl _) _) (Nat.le_refl _) _
      obtain ⟨w3, hw3⟩ : ∃ u, u = (wr.alloc (.cells (ac ez nilS) 57)).setRow wr.heap.size (ac s x) := ⟨_, rfl⟩
      rw [← hw3] at X hb1
      have sz := hpw.size
      have sz3 := hb1.size
      have hS := stepX (hX.below hb1) (by omega) s x l (hrd.keep hb1) (by omega)
      have HS := Lib.hid hS
      have hp3 := hpw.trans (Past.of (hb1.mono sz))
      have hsum : IntKind.i64.wrap ((k : Int) + 1) = (k : Int) + 1 := IntWalk.i64_in _ (by have := HOL.out; omega)
      clear ho hS hX hpw hgb hrow hrd hb1 hAw
      cases hst : stepOk (cl n) L D s.o0 s.rt s.t l with
      | true =>
        rw [if_pos hst] at hF
        rw [hst] at HS
        have HF := Lib.hid hF
        clear hF hst
        go_wp2_with (first | (refine wpList_load_mid rfl 57 _ rfl g (k * 10) rfl (ac s x).toList _ (by exact hr') Try.underlying57 rfl (by kernel_rfl) ?_) | (refine wpList_alloc_az rfl rfl ?_) | (refine wpList_store_row rfl 57 _ _ rfl (wr.heap.size) (ac s x) rfl rfl _ _ (by exact Z) (by kernel_rfl) (by kernel_rfl) (by kernel_rfl) ?_; rw [← hw3]; clear hw3 Z) | (refine wpList_load_row rfl 57 _ rfl (wr.heap.size) rfl _ (ac s x) (0, 0) _ (by exact X) Try.underlying57 rfl (by kernel_rfl) ?_))
        refine HS.out.mono ?_
        rintro e w4 ⟨rfl, hX4, hp4⟩
        have hp5 := hp3.trans hp4
        go_wp2
        go_roundw
        case rel => exact ⟨k + 1, _, _, by omega, by go_num, hX4, by rw [HF.out]; omega, hp5⟩
        case measure => simp [intOf]; omega
      | false =>
        rw [if_neg (by rw [hst]; decide)] at hF
        rw [hst] at HS
        have HF := Lib.hid hF
        clear hF hst
        go_wp2_with (first | (refine wpList_load_mid rfl 57 _ rfl g (k * 10) rfl (ac s x).toList _ (by exact hr') Try.underlying57 rfl (by kernel_rfl) ?_) | (refine wpList_alloc_az rfl rfl ?_) | (refine wpList_store_row rfl 57 _ _ rfl (wr.heap.size) (ac s x) rfl rfl _ _ (by exact Z) (by kernel_rfl) (by kernel_rfl) (by kernel_rfl) ?_; rw [← hw3]; clear hw3 Z) | (refine wpList_load_row rfl 57 _ rfl (wr.heap.size) rfl _ (ac s x) (0, 0) _ (by exact X) Try.underlying57 rfl (by kernel_rfl) ?_))
        refine HS.out.mono ?_
        rintro e w4 ⟨rfl, hX4, hp4⟩
        have hp5 := hp3.trans hp4
        go_wp2
        go_ret
        have hg := HGP.out
        have hb := HB.out
        refine ⟨?_, hb.trans (hp5.below hg hb.size)⟩
        have e1 : fitF (cl n) [] [] A = k := by rw [← HOA.out, HF.out]; rfl
        rw [e1]
        rfl
    · obtain rfl : k = O.length := by omega
      rw [List.drop_length] at hF
      have HF := Lib.hid hF
      have hle : yln ≤ O.length := by rw [HYL.out]; exact Nat.le_refl _
      clear hF
      go_wp2
      go_ret
      have hg := HGP.out
      have hb := HB.out
      refine ⟨?_, hb.trans (hpw.below hg hb.size)⟩
      have e1 : fitF (cl n) [] [] A = O.length := by rw [← HOA.out, HF.out]; rfl
      rw [e1, ← HYL.out]
      rfl
end Go.Proofs.Ytgpdkagmacpghaa.Od

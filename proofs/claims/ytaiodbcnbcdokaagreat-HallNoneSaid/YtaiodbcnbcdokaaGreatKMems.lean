/- Part Mems. -/
import Derived.StillTail
import Derived.Test.YtaiodbcnbcdokaaGreatKApp
import Derived.Test.YtaiodbcnbcdokaaGreatKFirsts
import Derived.Lib.SliceRun
import Derived.RegionTactic
import Derived.BigRegion
set_option linter.unusedVariables false
set_option linter.unusedSimpArgs false
set_option linter.unusedSectionVars false
set_option maxRecDepth 100000
set_option maxHeartbeats 16000000
section
namespace Go.Proofs.YtaiodbcnbcdokaaGreat.Gro
open Go Go.RowKit
section
variable {P : Program} {ops : Array Oper} {md : Region.Mode} {C : World → Prop}
def anyC (P : Program) (md : Region.Mode) (ops : Array Oper) (C : World → Prop) (n : Nat) (L : Array Bool → Act → Prop) : Nat → Array Bool → Act → Prop
 | 0, listed, a => L listed a
 | f + 1, listed, a => Region.ready md ops listed ≠ [] ∧ ∀ i ∈ Region.ready md ops listed, i < n ∧ qOp P ops C i (anyC P md ops C n L f (listed.setIfInBounds i true)) a
theorem any_of_anyC {n g : Nat} {L : Array Bool → Act → Prop} {Q : Exit → Act → World → Prop} (hL : ∀ listed a w, C w → L listed a → wpAny P md ops Q g listed a w) :
  ∀ (f : Nat) (listed : Array Bool) (a : Act) (w : World), C w → anyC P md ops C n L f listed a → wpAny P md ops Q (f + g) listed a w := by
 intro f
 induction f with
 | zero => intro listed a w hw h; rw [Nat.zero_add]; exact hL _ _ _ hw h
 | succ f ih =>
  intro listed a w hw h
  rw [Nat.succ_add]
  exact ⟨fun h0 => absurd h0 h.1, fun i hi => wpOp_of_qOp hw (fun a' w' hw' h' => ih _ a' w' hw' h') (h.2 i hi).2⟩
theorem anyC_first {n i : Nat} {oi : Oper} {v : Value} {L : Array Bool → Act → Prop} (hi : ops[i]? = some oi) (hsel : ∀ (j : Nat) (o : Oper) cs b, ops[j]? = some o → o.op ≠ .select cs b)
  (hs : Region.sinkB md ops n = true) (hc : Region.chainB md ops n = true) (hn : n < ops.size) (hin : i < n) (hdone : ∀ listed a, L listed a → ∀ j ∈ Region.ready md ops listed, n ≤ j) :
  ∀ (f : Nat) (listed : Array Bool) (a : Act), HeadInv md ops n listed →
   (∀ j oj, ops[j]? = some oj → j ≠ i → listed.getD j true = false → (∀ e ∈ oj.after, Region.binds md e = true → e.on ≠ i) → oi.apart ops oj = true) →
   i ∈ Region.ready md ops listed → YieldsIn P ops C oi v a → anyC P md ops C n L f (listed.setIfInBounds i true) (a.put oi.dst v) → anyC P md ops C n L (f + 1) listed a := by
 intro f
 induction f with
 | zero =>
  intro listed a inv _ hr hy H
  have hun := (mem_ready.1 hr).1
  refine ⟨List.ne_nil_of_mem hr, fun j hj => ?_⟩
  have hjn : j < n := Nat.lt_of_not_le fun hge => tail_waits hs hc hn inv _ i rfl hin hun j hge hj
  refine ⟨hjn, ?_⟩
  by_cases hji : j = i
  ·subst hji; exact hy.qOp hi H
  ·have := hdone _ _ H j (ready_mono hj hji); omega
 | succ f ih =>
  intro listed a inv hfree hr hy H
  have hun := (mem_ready.1 hr).1
  refine ⟨List.ne_nil_of_mem hr, fun j hj => ?_⟩
  have hjn : j < n := Nat.lt_of_not_le fun hge => tail_waits hs hc hn inv _ i rfl hin hun j hge hj
  refine ⟨hjn, ?_⟩
  by_cases hji : j = i
  ·subst hji; exact hy.qOp hi H
  ·have h1 := (H.2 j (ready_mono hj hji)).2
   obtain ⟨hjun, oj, hoj, hall⟩ := mem_ready.1 hj
   have hnot : ∀ e ∈ oj.after, Region.binds md e = true → e.on ≠ i := fun e he hb heq => by
    have := hall e he hb
    rw [heq, getD_both hun] at this; cases this
   have h2 := qOp_put hoj (hfree j oj hoj hji hjun hnot) (fun cs b => hsel i oi cs b hi) (fun cs b => hsel j oj cs b hoj) hy h1
   refine qOp_mono (fun a' h3 => ih (listed.setIfInBounds j true) a' (inv.set hj hjn) (fun k ok hk hki hu hno => hfree k ok hk hki ?_ hno) (ready_mono hr (Ne.symm hji)) h3.1 ?_) h2
   ·by_cases hjk : j = k
    ·subst hjk; exact hjun
    ·rw [getD_set_ne true hjk] at hu; exact hu
   ·rw [Array.setIfInBounds_comm _ _ hji]; exact h3.2
theorem anyC_lex {n g : Nat} {Lq : Act → Prop} (hsel : Region.noSelect ops = true) (hs : Region.sinkB md ops n = true) (hc : Region.chainB md ops n = true) (hn : n < ops.size) :
  ∀ (l : List Oper) (k : Nat) (listed : Array Bool) (a : Act), (∀ j, j < l.length → l[j]? = ops[k + j]?) → k + l.length = n → HeadInv md ops n listed → Region.lexHead md ops g l.length k listed = true → wpQuiet P ops C Lq l a →
  anyC P md ops C n (fun listed' a' => Region.seqB md ops g n listed' = true ∧ Lq a') l.length listed a
 | [], k, listed, a, _, hk, _, hB, h => by
  obtain rfl : k = n := by simpa using hk
  exact ⟨by simpa [Region.lexHead] using hB, h⟩
 | o :: l, k, listed, a, hl, hk, inv, hB, h => by
  have h0 : ops[k]? = some o := by simpa using (hl 0 aF).symm
  simp only [List.length_cons, Region.lexHead, Bool.and_eq_true] at hB hk
  obtain ⟨⟨hr, hf⟩, hB'⟩ := hB
  have hr' : k ∈ Region.ready md ops listed := by simpa using hr
  obtain ⟨v, hy, hK⟩ := yieldsIn_of_qOp (K := wpQuiet P ops C Lq l) h0 (by unfold qOp; simp only [h0]; exact h)
  exact anyC_first h0 (Region.noSelect_spec hsel) hs hc hn aj (fun _ _ hL => seqB_ready hL.1) l.length listed a inv (Region.free_spec h0 hf) hr' hy
   (anyC_lex hsel hs hc hn l (k + 1) _ _ (fun j hj => by have := hl (j + 1) bq; simpa [Nat.add_assoc, Nat.add_comm 1 j] using this) aj (inv.set hr' aj) hB' hK)
end
section
variable {P : Program} {id : Nat} {Q : Exit → Act → World → Prop} {a : Act} {w : World} {l : List Oper}
theorem wp_region_class_tail {C : World → Prop} (n : Nat) (hm : P.follows .mixedOrders = true) (hB : Region.lexTailB .any l.toArray n = true) (hC : C { w with drawn := w.drawn + 1 })
  (h : wpQuiet P l.toArray C (fun a' => ∀ w', C w' → wpList P l.toArray Q (l.drop n) a' w') (l.take n) a) : (Code.region id l.toArray true).wp P Q a w := by
 simp only [Region.lexTailB, Bool.and_eq_true, decide_eq_true_eq] at hB
 obtain ⟨⟨⟨⟨hsel, hn⟩, hs⟩, hc⟩, hlex⟩ := hB
 have hn' : n < l.length := by simpa using hn
 have htl : (l.take n).length = n := bq
 have hdl : (l.drop n).length = l.toArray.size - n := aF
 have inv0 : HeadInv .any l.toArray n (Array.replicate l.toArray.size false) :=
  ⟨by simp, fun j oj _ hl => (by rw [getD_replicate_false] at hl; cases hl), fun t _ ht => getD_in (by simpa using ht) (getD_replicate_false _ _)⟩
 have H := anyC_lex (md := .any) (g := l.toArray.size - n) hsel hs hc hn (l.take n) 0 _ a (fun j hj => by simp [show j < n by omega]) aj inv0 (by rw [htl]; exact hlex) h
 refine wp_region_any hm ?_
 have := any_of_anyC (Q := Q) (g := l.toArray.size - n) (fun listed a' w' hw' hL => by
  rw [← hdl]
  exact wpAny_of_seq (l.drop n) n listed a' w' (fun j => by simp) (by rw [hdl]; exact hL.1) (hL.2 w' hw')) (l.take n).length _ a _ hC H
 rw [htl, show n + (l.toArray.size - n) = l.toArray.size by simp; omega] at this
 exact this
theorem aH (n : Nat) (hm : P.follows .mixedOrders = true) (hB : Region.lexTailB .any l.toArray n = true)
  (h : wpQuiet P l.toArray (fun w' => ∃ m : Gr w, w' = m.1) (fun a' => ∀ w', (∃ m : Gr w, w' = m.1) → wpList P l.toArray Q (l.drop n) a' w') (l.take n) a) : (Code.region id l.toArray true).wp P Q a w :=
 wp_region_class_tail (C := fun w' => ∃ n : Gr w, w' = n.1) n hm hB ⟨⟨_, (Below.refl w.heap.size w).drew⟩, rfl⟩ h
end
end Go.Proofs.YtaiodbcnbcdokaaGreat.Gro
end
section
namespace Go.Proofs.YtaiodbcnbcdokaaGreat.Me
open Go Go.RowKit Gro Own Wd Ap Go.Proofs.YtaiodbcnbcdokaaGreat.Pl
structure Acc where
 (kd at_ x y old : Int)
 deriving DecidableEq
def a0 : Acc := ⟨0, 0, 0, 0, 0⟩
abbrev av (a : Acc) : Value := .agg #[.int .i64 a.kd, .int .i64 a.at_, .int .u64 a.x, .int .u64 a.y, .int .u64 a.old]
abbrev mc (c : Cfg) (a : Acc) (v : Sl) : Array Value := #[.int .i64 c.ww, .int .i64 c.sl, .int .i64 c.bl, .int .i64 c.wd, .int .i64 c.en, .int .i64 c.rk, .int .i64 c.bg, .int .u64 c.la, .int .i64 a.kd, .int .i64 a.at_, .int .u64 a.x, .int .u64 a.y, .int .u64 a.old, .slice v.ad v.len v.cap]
theorem elemW : Elem Tryz.prog 40 22 1 8 := elem44
theorem clone_none (n cap : Nat) (w : World) : Calls Tryz.prog 64 #[.slice none n cap] w fun e w' => e = .returned (.slice none 0 0) ∧ Below w.heap.size w w' := by
 have hq := fun w => Lib.run_eql_slice_nil (P := Tryz.prog) w 40 22 none n cap 0 0 Tryz.underlying40
 go_enter Tryz.func64, Tryz.ntmps64
 exact qa1t
theorem clone_some (a : Addr) (n cap : Nat) (L : List Int) (hL : L.length ≤ 1000) (w : World) (hr : Reads w .u64 (.slice (some a) n cap) L) : Calls Tryz.prog 64 #[.slice (some a) n cap] w fun e w' => ∃ y : Sl, e = .returned y.v ∧ w'.ownsRow w.heap.size 22 1 y.v L.length (L.map (.int .u64)) ∧ Below w.heap.size w w' := by
 have hq := fun w => Lib.run_eql_slice_nil (P := Tryz.prog) w 40 22 (some a) n cap 0 0 Tryz.underlying40
 have ho : (w.alloc (.cells #[] 22)).ownsRow w.heap.size 22 1 (.slice (some ⟨w.heap.size, 0, none⟩) 0 0) 0 (([] : List Int).map (Value.int .u64)) := World.ownsRow_lit w #[] 0 (Nat.le_refl _) qa4f rfl
 have hr2 := hr.keep ((Below.refl w.heap.size w).alloc (Nat.le_refl _) (.cells #[] 22))
 go_enter Tryz.func64, Tryz.ntmps64
 go_wp2_with (at_builtin; refine append_any elemW rfl _ _ rfl w.heap.size _ 0 [] rfl ho _ L rfl hr2 aj aF ?_; intro y w3 h3 hb3)
 go_ret
 refine ⟨y, rfl, ?_, ((Below.refl w.heap.size w).alloc (Nat.le_refl _) _).trans hb3⟩
 simpa using h3
theorem clone {v : Sl} {L : List Int} (hL : L.length ≤ 1000) {w : World} (hr : Reads w .u64 v.v L) : Calls Tryz.prog 64 #[v.v] w fun e w' => ∃ y : Sl, e = .returned y.v ∧ w'.ownsRow w.heap.size 22 1 y.v L.length (L.map (.int .u64)) ∧ Below w.heap.size w w' := by
 obtain ⟨ad, n, cap⟩ := v
 cases ad with
 | none =>
  have hl : L = [] := by
   obtain ⟨ad, cap, he, _, _, h3⟩ := hr
   simp only [Value.slice.injEq] at he
   rcases h3 with h3 | ⟨b, off, rfl, _⟩
   ·exact h3
   ·exact absurd he.1 aF
  subst hl
  exact (clone_none n cap w).mono fun e w' ⟨h1, h2⟩ => ⟨aG, h1, World.ownsRow_nil _ _ _ _, h2⟩
 | some a => exact clone_some a n cap L hL w hr
structure aC (base : Nat) (w : World) (g : Nat) (c : Cfg) (a : Acc) (gl cap : Nat) (L : List Int) : Prop where
 B : Bk w g (mc c a ⟨some ⟨gl, 0, none⟩, L.length, cap⟩) 99
 W : w.ownsRow base 22 1 (.slice (some ⟨gl, 0, none⟩) L.length cap) L.length (L.map (.int .u64))
 g0 : base ≤ g
 ne : g ≠ gl
theorem build_mem (c : Cfg) (v : Sl) (w : World) : (Instr.build 99 #[(0, cv c), (2, v.v)]).run Tryz.prog w = .ok (.agg (mc c a0 v)) w := run_build w _ _ _ ah
theorem box8 {c : Cfg} {w : World} {g : Nat} {t : TypeId} (h : Bk w g #[.int .i64 c.ww, .int .i64 c.sl, .int .i64 c.bl, .int .i64 c.wd, .int .i64 c.en, .int .i64 c.rk, .int .i64 c.bg, .int .u64 c.la] t) : w.cell? ⟨g, 0, none⟩ = some (.int .i64 c.ww) ∧ w.cell? ⟨g, 1, none⟩ = some (.int .i64 c.sl) ∧ w.cell? ⟨g, 2, none⟩ = some (.int .i64 c.bl) ∧ w.cell? ⟨g, 3, none⟩ = some (.int .i64 c.wd) ∧ w.cell? ⟨g, 4, none⟩ = some (.int .i64 c.en) ∧ w.cell? ⟨g, 5, none⟩ = some (.int .i64 c.rk) ∧ w.cell? ⟨g, 6, none⟩ = some (.int .i64 c.bg) ∧ w.cell? ⟨g, 7, none⟩ = some (.int .u64 c.la) :=
 ⟨h.cells 0, h.cells 1, h.cells 2, h.cells 3, h.cells 4, h.cells 5, h.cells 6, h.cells 7⟩
abbrev ccM (c : Cfg) : Array Value := #[.int .i64 c.ww, .int .i64 c.sl, .int .i64 c.bl, .int .i64 c.wd, .int .i64 c.en, .int .i64 c.rk, .int .i64 c.bg, .int .u64 c.la]
theorem from_ok (c : Cfg) (hf : c.Wf) (h : Ok c) (v : Sl) (L : List Int) (hl : (L.length : Int) = siz c) (w : World) (hr : Reads w .u64 v.v L) : Calls Tryz.prog 58 #[cv c, v.v] w fun e w' => ∃ g gl cap, e = .returned (.tuple #[.pointer (some ⟨g, 0, none⟩), .int .i64 0]) ∧ aC w.heap.size w' g c a0 gl cap L ∧ Below w.heap.size w w' := by
 have hv := fK.2 h
 have hn : nc c = c := by rw [nc, if_pos hv]
 have hp := jK c hf
 rw [hn, hv] at hp
 have HP := Lib.hid hp
 have HS := Lib.hid (size c hf)
 have hlen := bI hr
 have hne : ((v.len : Int) != siz c) = false := by rw [hlen, hl]; simp
 have hbm := build_mem c
 have hmax : L.length ≤ 1000 ∧ 0 < L.length := by
  have h2 := tot_ok (fU h)
  have h3 := h.ww
  have h4 := h.sl
  have h5 := h.wd
  have h6 := h.en
  rw [siz, if_pos (fU h)] at hl
  exact qaw
 have HM := Lib.hid hmax
 clear hp hn hv hl hlen hmax
 go_enter Tryz.func58, Tryz.ntmps58
 go_wp2_with fail
 refine (HP.out _).mono ?_
 rintro e w1 ⟨rfl, hb1⟩
 have hw1 : Below w.heap.size w w1 := ((Below.refl _ _).alloc (Nat.le_refl _) _).trans (hb1.mono aF)
 have hw2 := hw1.alloc hw1.size (.cells (ccM c) 86)
 have P1 := Bk.new w1 (ccM c) 86
 have x1 := P1.cells
 go_wp2_with fail
 refine (HS.out _).mono ?_
 rintro e w2 ⟨rfl, hb2⟩
 have P2 := P1.keep hb2
 have x2 := P2.cells
 have l2 := P2.lt
 have hw3 := hw2.trans (hb2.mono hw2.size)
 clear x1 P1
 go_wp2
 have hr2 := hr.keep hw3
 go_region_held3 (fun w' => w'.cell? ⟨w1.heap.size, 0, none⟩ = some (.int .i64 c.ww) ∧ w'.cell? ⟨w1.heap.size, 1, none⟩ = some (.int .i64 c.sl) ∧ w'.cell? ⟨w1.heap.size, 2, none⟩ = some (.int .i64 c.bl) ∧ w'.cell? ⟨w1.heap.size, 3, none⟩ = some (.int .i64 c.wd) ∧ w'.cell? ⟨w1.heap.size, 4, none⟩ = some (.int .i64 c.en) ∧ w'.cell? ⟨w1.heap.size, 5, none⟩ = some (.int .i64 c.rk) ∧ w'.cell? ⟨w1.heap.size, 6, none⟩ = some (.int .i64 c.bg) ∧ w'.cell? ⟨w1.heap.size, 7, none⟩ = some (.int .u64 c.la)) (first | exact box8 (w := w2.drew) P2 | exact box8 P5 | exact box8 (P5.alloc _)) ((go_at_call 64; refine (clone HM.out.1 (w := w2.drew) hr2).mono ?_; rintro e w5 ⟨y, rfl, hy, hb5⟩; have P5 := Bk.keep (w := w2.drew) P2 hb5))
 go_wp2
 obtain ⟨gl, cap, hyv, hgl0, hgl1, hc1, hc2, _⟩ := eG hy HM.out.2
 obtain ⟨ad, ln, cp⟩ := y
 simp only [Value.slice.injEq] at hyv
 obtain ⟨rfl, rfl, rfl⟩ := hyv
 go_ret2
 have hw5 : Below w.heap.size w w5 := (Below.drew hw3).trans (hb5.mono hw3.size)
 refine ⟨w5.heap.size, gl, cp, rfl, ⟨Bk.new w5 (mc c a0 ⟨some ⟨gl, 0, none⟩, L.length, cp⟩) _, ?_, hw5.size, by omega⟩, hw5.alloc hw5.size _⟩
 exact (owns_base hy hw3.size).alloc _
theorem firstL_len {c : Cfg} (h : Ok c) : ((dW c).length : Int) = siz c := by
 rw [dW, if_pos (fK.2 h), first_len]; exact spots_len h
theorem firstSl (c : Cfg) (hf : c.Wf) (w : World) : Calls Tryz.prog 59 #[cv c] w fun e w' => ∃ v : Sl, e = .returned v.v ∧ Reads w' .u64 v.v (dW c) ∧ Below w.heap.size w w' :=
 (planFirst c hf w).mono fun e w' ⟨v, h1, h2, h3⟩ => by
  have h2' := h2
  obtain ⟨ad, cap, rfl, _⟩ := h2
  exact ⟨⟨ad, _, cap⟩, h1, h2', h3⟩
theorem newMem_ok (c : Cfg) (hf : c.Wf) (h : Ok c) (w : World) : Calls Tryz.prog 18 #[cv c] w fun e w' => ∃ g gl cap, e = .returned (.tuple #[.pointer (some ⟨g, 0, none⟩), .int .i64 0]) ∧ aC w.heap.size w' g c a0 gl cap (dW c) ∧ Below w.heap.size w w' := by
 have C0 := Bk.new w (ccM c) 24
 have hw0 : Below w.heap.size w (w.alloc (.cells (ccM c) 24)) := (Below.refl _ _).alloc (Nat.le_refl _) _
 have hfm := fun (v : Sl) (w : World) hr => from_ok c hf h v (dW c) (firstL_len h) w hr
 have HF := Lib.hid hfm
 clear hfm
 go_enter Tryz.func18, Tryz.ntmps18
 go_wp2
 generalize hw : w.alloc (.cells (ccM c) 24) = wa at *
 have HW := Lib.hid hw
 clear hw
 go_region_held3 (fun w' => w'.cell? ⟨w.heap.size, 0, none⟩ = some (.int .i64 c.ww) ∧ w'.cell? ⟨w.heap.size, 1, none⟩ = some (.int .i64 c.sl) ∧ w'.cell? ⟨w.heap.size, 2, none⟩ = some (.int .i64 c.bl) ∧ w'.cell? ⟨w.heap.size, 3, none⟩ = some (.int .i64 c.wd) ∧ w'.cell? ⟨w.heap.size, 4, none⟩ = some (.int .i64 c.en) ∧ w'.cell? ⟨w.heap.size, 5, none⟩ = some (.int .i64 c.rk) ∧ w'.cell? ⟨w.heap.size, 6, none⟩ = some (.int .i64 c.bg) ∧ w'.cell? ⟨w.heap.size, 7, none⟩ = some (.int .u64 c.la)) (first | exact box8 (w := wa.drew) C0 | exact box8 C6 | exact box8 C5) (first | (go_at_call 59; refine (firstSl c hf _).mono ?_; rintro e w5 ⟨v, rfl, R5, hb5⟩; have C5 := Bk.keep (w := wa.drew) C0 hb5; have hw5 := (Below.drew hw0).trans (hb5.mono hw0.size)) | (go_at_call 58; refine (HF.out v _ R5).mono ?_; rintro e w6 ⟨g, gl, cap, rfl, M6, hb6⟩; have C6 := C5.keep hb6; have hw6 := hw5.trans (hb6.mono hw5.size)))
 go_wp2
 go_ret2
 refine ⟨g, gl, cap, rfl, ⟨M6.B, owns_base M6.W hw5.size, Nat.le_trans hw5.size M6.g0, M6.ne⟩, hw6⟩
end Go.Proofs.YtaiodbcnbcdokaaGreat.Me
namespace Go.Proofs.YtaiodbcnbcdokaaGreat.Me
open Go Go.RowKit Gro Own Wd Ap Go.Proofs.YtaiodbcnbcdokaaGreat.Pl
structure Touch (g gl : Nat) (w w' : World) : Prop where
 os : w'.os = w.os
 tape : w'.tape = w.tape
 output : w'.output = w.output
 size : w.heap.size ≤ w'.heap.size
 block : ∀ k, k < w.heap.size → k ≠ g → k ≠ gl → w'.heap[k]? = w.heap[k]?
section
variable {g gl base : Nat} {w w1 w2 w' : World}
theorem Touch.refl (g gl : Nat) (w : World) : Touch g gl w w := ⟨rfl, rfl, rfl, Nat.le_refl _, fun _ _ _ _ => rfl⟩
theorem Touch.trans (h : Touch g gl w w1) (k : Touch g gl w1 w2) : Touch g gl w w2 :=
 ⟨k.os.trans h.os, k.tape.trans h.tape, k.output.trans h.output, Nat.le_trans h.size k.size, fun j hj h1 h2 => (k.block j (Nat.lt_of_lt_of_le hj h.size) h1 h2).trans (h.block j hj h1 h2)⟩
theorem Touch.of_below (h : Below w.heap.size w w') : Touch g gl w w' := ⟨h.os, h.tape, h.output, h.size, fun k hk _ _ => h.block k hk⟩
theorem Touch.below (h : Touch g gl w w') (hg : base ≤ g) (hl : base ≤ gl) (hb : base ≤ w.heap.size) : Below base w w' := ⟨h.os, h.tape, h.output, h.size, fun k hk => h.block k aj aj aj⟩
theorem Touch.setCell (h : Touch g gl w w1) {p : Addr} (hp : p.block = g ∨ p.block = gl ∨ w.heap.size ≤ p.block) (v : Value) : Touch g gl w (w1.setCell p v) :=
 ⟨h.os, h.tape, h.output, by simpa using h.size, fun k hk h1 h2 => (heap_setCell_other w1 p k v aj).trans (h.block k hk h1 h2)⟩
theorem Touch.alloc (h : Touch g gl w w1) (o : Obj) : Touch g gl w (w1.alloc o) :=
 ⟨h.os, h.tape, h.output, by have := h.size; simp; omega, fun k hk h1 h2 => (Below.heap_alloc w1 o k (Nat.lt_of_lt_of_le hk h.size)).trans (h.block k hk h1 h2)⟩
theorem Touch.drew (h : Touch g gl w w1) : Touch g gl w w1.drew := ⟨h.os, h.tape, h.output, h.size, h.block⟩
theorem Touch.bk (h : Touch g gl w w') {b : Nat} {cs : Array Value} {t : TypeId} (hb : Bk w b cs t) (h1 : b ≠ g) (h2 : b ≠ gl) : Bk w' b cs t := (h.block b hb.lt h1 h2).trans hb
end
theorem fI {w : World} {base n cap gl : Nat} {e : TypeId} {xs : List Value} (h : w.ownsRow base e 1 (.slice (some ⟨gl, 0, none⟩) n cap) n xs) {p : Addr} (hp : p.block ≠ gl) (v : Value) : (w.setCell p v).ownsRow base e 1 (.slice (some ⟨gl, 0, none⟩) n cap) n xs := by
 refine ⟨h.1, ?_⟩
 rcases h.2 with ⟨he, _⟩ | ⟨g', cap', cur, he, hge, hh, rest⟩
 ·cases he
 ·have e1 : gl = g' := (by simpa using he : gl = g' ∧ cap = cap').1
  subst e1
  exact .inr ⟨gl, cap', cur, he, hge, (heap_setCell_other w p gl v (Ne.symm hp)).trans hh, rest⟩
section
variable {base : Nat} {w w' : World} {g gl cap : Nat} {c : Cfg} {a : Acc} {L : List Int}
theorem aC.at (M : aC base w g c a gl cap L) {i : Nat} (hi : i < L.length) : w.cell? ⟨gl, i, none⟩ = some (.int .u64 L[i]) := by
 rw [World.ownsRow.cellAt M.W i qa4g]; simp [hi]
theorem aC.lt (M : aC base w g c a gl cap L) : g < w.heap.size ∧ gl < w.heap.size := ⟨M.B.lt, (World.ownsRow.lt M.W gl rfl).2⟩
theorem aC.keep (M : aC base w g c a gl cap L) (hb : Below w.heap.size w w') : aC base w' g c a gl cap L :=
 ⟨M.B.keep hb, owns_below M.W hb (fun k hk => by simp [Value.ownBlock] at hk; have := M.lt.2; omega), M.g0, M.ne⟩
theorem aC.apart (M : aC base w g c a gl cap L) {g' gl' : Nat} (h : Touch g' gl' w w') (h1 : g ≠ g') (h2 : g ≠ gl') (h3 : gl ≠ g') (h4 : gl ≠ gl') : aC base w' g c a gl cap L := by
 refine ⟨h.bk M.B h1 h2, ⟨M.W.1, ?_⟩, M.g0, M.ne⟩
 rcases M.W.2 with ⟨he, _⟩ | ⟨g1, cap', cur, he, hge, hh, rest⟩
 ·cases he
 ·have e1 : gl = g1 := (by simpa using he : gl = g1 ∧ cap = cap').1
  subst e1
  exact .inr ⟨gl, cap', cur, he, hge, (h.block gl M.lt.2 h3 h4).trans hh, rest⟩
theorem aC.write (M : aC base w g c a gl cap L) (i : Nat) (v : Int) : aC base (w.setCell ⟨gl, i, none⟩ (.int .u64 v)) g c a gl cap (L.set i v) := by
 have h := World.ownsRow.stored M.W i (.int .u64 v)
 refine ⟨?_, ?_, M.g0, M.ne⟩
 ·rw [List.length_set]
  exact M.B.aA (a := ⟨gl, i, none⟩) M.ne _
 ·rw [List.length_set, List.map_set]
  exact h.1
end
theorem build_load (at_ : Int) (w : World) : (Instr.build 68 #[(0, .int .i64 1), (1, .int .i64 at_)]).run Tryz.prog w = .ok (av ⟨1, at_, 0, 0, 0⟩) w := run_build w _ _ _ ah
theorem build_cas (at_ x y : Int) (w : World) : (Instr.build 68 #[(0, .int .i64 3), (1, .int .i64 at_), (2, .int .u64 x), (3, .int .u64 y)]).run Tryz.prog w = .ok (av ⟨3, at_, x, y, 0⟩) w := run_build w _ _ _ ah
theorem build_add (at_ x : Int) (w : World) : (Instr.build 68 #[(0, .int .i64 4), (1, .int .i64 at_), (2, .int .u64 x)]).run Tryz.prog w = .ok (av ⟨4, at_, x, 0, 0⟩) w := run_build w _ _ _ ah
theorem build_store (at_ x : Int) (w : World) : (Instr.build 68 #[(0, .int .i64 2), (1, .int .i64 at_), (2, .int .u64 x)]).run Tryz.prog w = .ok (av ⟨2, at_, x, 0, 0⟩) w := run_build w _ _ _ ah
end Go.Proofs.YtaiodbcnbcdokaaGreat.Me
namespace Go.Proofs.YtaiodbcnbcdokaaGreat.Me
open Go Go.RowKit Gro Own Wd Ap Go.Proofs.YtaiodbcnbcdokaaGreat.Pl
section
variable {base : Nat} {w : World} {g gl cap : Nat} {c : Cfg} {a : Acc} {L : List Int}
theorem has_in (M : aC base w g c a gl cap L) (i : Nat) (hi : i < L.length) (hm : L.length ≤ 1000) : Calls Tryz.prog 227 #[.pointer (some ⟨g, 0, none⟩), .int .i64 (i : Int)] w fun e w' => e = .returned (.bool true) ∧ w = w' := by
 have x := M.B.cells
 have h0 : (0 : Int) ≤ (i : Int) := aj
 have h1 : (i : Int) < (L.length : Int) := aj
 exact qa1u
theorem has_out (M : aC base w g c a gl cap L) (i : Int) (hi : ¬ (0 ≤ i ∧ i < (L.length : Int))) (hm : L.length ≤ 1000) : Calls Tryz.prog 227 #[.pointer (some ⟨g, 0, none⟩), .int .i64 i] w fun e w' => e = .returned (.bool false) ∧ w = w' := by
 have x := M.B.cells
 by_cases h0 : 0 ≤ i
 ·have h1 : decide (i < (L.length : Int)) = false := by simp; omega
  exact qa1u
 ·have h1 : decide (0 ≤ i) = false := by simp; omega
  exact qa1u
theorem aC.seen (M : aC base w g c a gl cap L) (r : Acc) : aC base (((((w.setCell ⟨g, 8, none⟩ (.int .i64 r.kd)).setCell ⟨g, 9, none⟩ (.int .i64 r.at_)).setCell ⟨g, 10, none⟩ (.int .u64 r.x)).setCell ⟨g, 11, none⟩ (.int .u64 r.y)).setCell ⟨g, 12, none⟩ (.int .u64 r.old)) g c r gl cap L ∧
  Touch g gl w (((((w.setCell ⟨g, 8, none⟩ (.int .i64 r.kd)).setCell ⟨g, 9, none⟩ (.int .i64 r.at_)).setCell ⟨g, 10, none⟩ (.int .u64 r.x)).setCell ⟨g, 11, none⟩ (.int .u64 r.y)).setCell ⟨g, 12, none⟩ (.int .u64 r.old)) := by
 refine ⟨⟨?_, ?_, M.g0, M.ne⟩, ?_⟩
 ·exact ((((M.B.setCell 8 (.int .i64 r.kd)).setCell 9 (.int .i64 r.at_)).setCell 10 (.int .u64 r.x)).setCell 11 (.int .u64 r.y)).setCell 12 (.int .u64 r.old)
 ·have hne : (⟨g, 8, none⟩ : Addr).block ≠ gl := M.ne
  exact fI (fI (fI (fI (fI M.W (p := ⟨g, 8, none⟩) M.ne _) (p := ⟨g, 9, none⟩) M.ne _) (p := ⟨g, 10, none⟩) M.ne _) (p := ⟨g, 11, none⟩) M.ne _) (p := ⟨g, 12, none⟩) M.ne _
 ·exact (((((Touch.refl g gl w).setCell (p := ⟨g, 8, none⟩) (.inl rfl) _).setCell (p := ⟨g, 9, none⟩) (.inl rfl) _).setCell (p := ⟨g, 10, none⟩) (.inl rfl) _).setCell (p := ⟨g, 11, none⟩) (.inl rfl) _).setCell (p := ⟨g, 12, none⟩) (.inl rfl) _
theorem clear_in (M : aC base w g c a gl cap L) : Calls Tryz.prog 228 #[.pointer (some ⟨g, 0, none⟩)] w fun e w' => e = .returned (.tuple #[]) ∧ aC base w' g c a0 gl cap L ∧ Touch g gl w w' := by
 have x := M.B.cells
 have z := M.B.frozen
 have hM := M.seen a0
 have hs := M.lt.1
 go_enter Tryz.func228, Tryz.ntmps228
 go_wp2
 go_end0
 exact ⟨rfl, hM⟩
theorem jD (M : aC base w g c a gl cap L) (i : Nat) (hi : i < L.length) (hm : L.length ≤ 1000) (kd xx yy : Int) : Calls Tryz.prog 213 #[.pointer (some ⟨g, 0, none⟩), av ⟨kd, i, xx, yy, 0⟩] w fun e w' => e = .returned (.tuple #[.int .u64 L[i], .bool true]) ∧ aC base w' g c ⟨kd, i, xx, yy, L[i]⟩ gl cap L ∧ Touch g gl w w' := by
 have hb0 : Below w.heap.size w (w.alloc (.cells #[.int .i64 kd, .int .i64 i, .int .u64 xx, .int .u64 yy, .int .u64 0] 68)) := (Below.refl _ _).alloc (Nat.le_refl _) _
 have M1 := M.keep hb0
 have h0 : (0 : Int) ≤ (i : Int) := aj
 have h1 : (i : Int) < (L.length : Int) := aj
 have x := M1.B.cells
 have z := M1.B.frozen
 have q := M1.at hi
 have hs := M.lt.1
 have hs2 := M.lt.2
 go_enter Tryz.func213, Tryz.ntmps213
 go_wp2_with (go_at_call 227; refine (has_in M1 i hi hm).mono ?_; rintro e w1 ⟨rfl, rfl⟩)
 have hb1 : Below w.heap.size w (w.alloc (.cells #[.int .i64 kd, .int .i64 i, .int .u64 xx, .int .u64 yy, .int .u64 L[i]] 68)).drew := ((Below.refl _ _).alloc (Nat.le_refl _) _).drew
 have M2 := M.keep hb1
 have T1 := Touch.of_below (g := g) (gl := gl) hb1
 go_region
 all_goals
  have QB : Bk (w.alloc (.cells #[.int .i64 kd, .int .i64 i, .int .u64 xx, .int .u64 yy, .int .u64 L[i]] 68)).drew w.heap.size #[.int .i64 kd, .int .i64 i, .int .u64 xx, .int .u64 yy, .int .u64 L[i]] 68 := Bk.new _ _ _
  generalize (w.alloc (.cells #[.int .i64 kd, .int .i64 i, .int .u64 xx, .int .u64 yy, .int .u64 L[i]] 68)).drew = w2 at *
  have hgb : g ≠ w.heap.size := aj
  generalize w.heap.size = gb at *
  have x2 := M2.B.cells
  have z2 := M2.B.frozen
  have q2 := QB.cells
  clear x z q M1 hb0
  go_wp2
  go_ret2
  have h := M2.seen ⟨kd, i, xx, yy, L[i]⟩
  exact ⟨rfl, h.1, T1.trans h.2⟩
theorem load_in (M : aC base w g c a gl cap L) (i : Nat) (hi : i < L.length) (hm : L.length ≤ 1000) : Calls Tryz.prog 180 #[.pointer (some ⟨g, 0, none⟩), .int .i64 (i : Int)] w fun e w' => e = .returned (.int .u64 L[i]) ∧ aC base w' g c ⟨1, i, 0, 0, L[i]⟩ gl cap L ∧ Touch g gl w w' := by
 have hb := build_load (i : Int)
 go_enter Tryz.func180, Tryz.ntmps180
 go_wp2_with fail
 refine (jD M i hi hm 1 0 0).mono ?_
 exact qa1v
theorem store_in (M : aC base w g c a gl cap L) (i : Nat) (hi : i < L.length) (hm : L.length ≤ 1000) (v : Int) : Calls Tryz.prog 177 #[.pointer (some ⟨g, 0, none⟩), .int .i64 (i : Int), .int .u64 v] w fun e w' => e = .returned (.tuple #[]) ∧ aC base w' g c ⟨2, i, v, 0, L[i]⟩ gl cap (L.set i v) ∧ Touch g gl w w' := by
 have hb := build_store (i : Int) v
 go_enter Tryz.func177, Tryz.ntmps177
 go_wp2_with fail
 refine (jD M i hi hm 2 v 0).mono ?_
 rintro e w1 ⟨rfl, M1, t1⟩
 have x1 := M1.B.cells
 have q1 := M1.at hi
 have fz := World.ownsRow.frozenAt M1.W
 have h0 : (0 : Int) ≤ (i : Int) := aj
 have h1 : (i : Int) < (L.length : Int) := aj
 go_wp2
 go_end0
 exact ⟨rfl, M1.write i v, t1.setCell (p := ⟨gl, i, none⟩) (.inr (.inl rfl)) _⟩
theorem cas_yes (M : aC base w g c a gl cap L) (i : Nat) (hi : i < L.length) (hm : L.length ≤ 1000) (y : Int) : Calls Tryz.prog 185 #[.pointer (some ⟨g, 0, none⟩), .int .i64 (i : Int), .int .u64 L[i], .int .u64 y] w fun e w' => e = .returned (.bool true) ∧ aC base w' g c ⟨3, i, L[i], y, L[i]⟩ gl cap (L.set i y) ∧ Touch g gl w w' := by
 have hb := build_cas (i : Int) L[i] y
 go_enter Tryz.func185, Tryz.ntmps185
 go_wp2_with fail
 refine (jD M i hi hm 3 L[i] y).mono ?_
 rintro e w1 ⟨rfl, M1, t1⟩
 have x1 := M1.B.cells
 have q1 := M1.at hi
 have fz := World.ownsRow.frozenAt M1.W
 have h0 : (0 : Int) ≤ (i : Int) := aj
 have h1 : (i : Int) < (L.length : Int) := aj
 go_wp2
 go_ret
 exact ⟨rfl, M1.write i y, t1.setCell (p := ⟨gl, i, none⟩) (.inr (.inl rfl)) _⟩
theorem cas_no (M : aC base w g c a gl cap L) (i : Nat) (hi : i < L.length) (hm : L.length ≤ 1000) (x y : Int) (hx : L[i] ≠ x) : Calls Tryz.prog 185 #[.pointer (some ⟨g, 0, none⟩), .int .i64 (i : Int), .int .u64 x, .int .u64 y] w fun e w' => e = .returned (.bool false) ∧ aC base w' g c ⟨3, i, x, y, L[i]⟩ gl cap L ∧ Touch g gl w w' := by
 have hb := build_cas (i : Int) x y
 have hne : (L[i] != x) = true := by simp [hx]
 clear hx
 go_enter Tryz.func185, Tryz.ntmps185
 go_wp2_with fail
 refine (jD M i hi hm 3 x y).mono ?_
 exact qa1v
theorem add_in (M : aC base w g c a gl cap L) (i : Nat) (hi : i < L.length) (hm : L.length ≤ 1000) (v : Int) : Calls Tryz.prog 217 #[.pointer (some ⟨g, 0, none⟩), .int .i64 (i : Int), .int .u64 v] w fun e w' => e = .returned (.int .u64 L[i]) ∧ aC base w' g c ⟨4, i, v, 0, L[i]⟩ gl cap (L.set i (IntKind.u64.wrap (L[i] + v))) ∧ Touch g gl w w' := by
 have hb := build_add (i : Int) v
 go_enter Tryz.func217, Tryz.ntmps217
 go_wp2_with fail
 refine (jD M i hi hm 4 v 0).mono ?_
 rintro e w1 ⟨rfl, M1, t1⟩
 have x1 := M1.B.cells
 have q1 := M1.at hi
 have fz := World.ownsRow.frozenAt M1.W
 have h0 : (0 : Int) ≤ (i : Int) := aj
 have h1 : (i : Int) < (L.length : Int) := aj
 go_wp2
 go_ret
 exact ⟨rfl, M1.write i _, t1.setCell (p := ⟨gl, i, none⟩) (.inr (.inl rfl)) _⟩
theorem jI (M : aC base w g c a gl cap L) (i : Int) (hi : ¬ (0 ≤ i ∧ i < (L.length : Int))) (hm : L.length ≤ 1000) (kd x y : Int) : Calls Tryz.prog 213 #[.pointer (some ⟨g, 0, none⟩), av ⟨kd, i, x, y, 0⟩] w fun e w' => e = .returned (.tuple #[.int .u64 0, .bool false]) ∧ aC base w' g c a0 gl cap L ∧ Touch g gl w w' := by
 have hb0 : Below w.heap.size w (w.alloc (.cells #[.int .i64 kd, .int .i64 i, .int .u64 x, .int .u64 y, .int .u64 0] 68)) := (Below.refl _ _).alloc (Nat.le_refl _) _
 have M1 := M.keep hb0
 go_enter Tryz.func213, Tryz.ntmps213
 go_wp2_with (first | (go_at_call 227; refine (has_out M1 i hi hm).mono ?_; rintro e w1 ⟨rfl, rfl⟩) | (go_at_call 228; refine (clear_in M1).mono ?_; rintro e w1 ⟨rfl, M2, t2⟩))
 go_ret2
 exact ⟨rfl, M2, (Touch.of_below hb0).trans t2⟩
theorem load_out (M : aC base w g c a gl cap L) (i : Int) (hi : ¬ (0 ≤ i ∧ i < (L.length : Int))) (hm : L.length ≤ 1000) : Calls Tryz.prog 180 #[.pointer (some ⟨g, 0, none⟩), .int .i64 i] w fun e w' => e = .returned (.int .u64 0) ∧ aC base w' g c a0 gl cap L ∧ Touch g gl w w' := by
 have hb := build_load i
 go_enter Tryz.func180, Tryz.ntmps180
 go_wp2_with fail
 refine (jI M i hi hm 1 0 0).mono ?_
 exact qa1v
theorem cas_out (M : aC base w g c a gl cap L) (i : Int) (hi : ¬ (0 ≤ i ∧ i < (L.length : Int))) (hm : L.length ≤ 1000) (x y : Int) : Calls Tryz.prog 185 #[.pointer (some ⟨g, 0, none⟩), .int .i64 i, .int .u64 x, .int .u64 y] w fun e w' => e = .returned (.bool false) ∧ aC base w' g c a0 gl cap L ∧ Touch g gl w w' := by
 have hb := build_cas i x y
 go_enter Tryz.func185, Tryz.ntmps185
 go_wp2_with fail
 refine (jI M i hi hm 3 x y).mono ?_
 exact qa1v
theorem add_out (M : aC base w g c a gl cap L) (i : Int) (hi : ¬ (0 ≤ i ∧ i < (L.length : Int))) (hm : L.length ≤ 1000) (x : Int) : Calls Tryz.prog 217 #[.pointer (some ⟨g, 0, none⟩), .int .i64 i, .int .u64 x] w fun e w' => e = .returned (.int .u64 0) ∧ aC base w' g c a0 gl cap L ∧ Touch g gl w w' := by
 have hb := build_add i x
 go_enter Tryz.func217, Tryz.ntmps217
 go_wp2_with fail
 refine (jI M i hi hm 4 x 0).mono ?_
 exact qa1v
theorem store_out (M : aC base w g c a gl cap L) (i : Int) (hi : ¬ (0 ≤ i ∧ i < (L.length : Int))) (hm : L.length ≤ 1000) (x : Int) : Calls Tryz.prog 177 #[.pointer (some ⟨g, 0, none⟩), .int .i64 i, .int .u64 x] w fun e w' => e = .returned (.tuple #[]) ∧ aC base w' g c a0 gl cap L ∧ Touch g gl w w' := by
 have hb := build_store i x
 go_enter Tryz.func177, Tryz.ntmps177
 go_wp2_with fail
 refine (jI M i hi hm 2 x 0).mono ?_
 rintro e w1 ⟨rfl, M1, t1⟩
 go_wp2
 go_end0
 exact ⟨rfl, M1, t1⟩
end
end Go.Proofs.YtaiodbcnbcdokaaGreat.Me
end

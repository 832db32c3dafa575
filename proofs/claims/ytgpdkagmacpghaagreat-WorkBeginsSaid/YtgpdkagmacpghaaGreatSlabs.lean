/- slab.wordOf, the reference's Word (made by genword.py). -/
import Derived.Test.YtgpdkagmacpghaaGreatInsideRef
import Derived.Test.YtgpdkagmacpghaaGreatStepFn
import Derived.Test.YtgpdkagmacpghaaGreatStacks
namespace Go.Proofs.YtgpdkagmacpghaaGreat.Me
open Go Go.RowKit Go.Proofs.YtgpdkagmacpghaaGreat.Gro Go.Proofs.YtgpdkagmacpghaaGreat.Own Go.Proofs.YtgpdkagmacpghaaGreat.Wd Go.Proofs.YtgpdkagmacpghaaGreat.Ap Go.Proofs.YtgpdkagmacpghaaGreat.Pl Go.Proofs.YtgpdkagmacpghaaGreat.Wo
set_option linter.unusedVariables false
set_option linter.unusedSimpArgs false
/-- Has slab k a word, in the words L? -/
def wrdB (c : Cfg) (L : List Int) (k : Int) : Bool := decide (chk c = 0) && decide ((L.length : Int) = siz c) && decide (0 ≤ k) && decide (k < c.sl)
def wrdV (c : Cfg) (L : List Int) (k : Int) : Int := if wrdB c L k = true then L.getD (3 + c.ww.toNat + k.toNat) 0 else 0
theorem wrdB_spec {c : Cfg} {L : List Int} {k : Int} : wrdB c L k = true ↔ chk c = 0 ∧ (L.length : Int) = siz c ∧ 0 ≤ k ∧ k < c.sl := by
  simp [wrdB, and_assoc]
def WrdPost (c : Cfg) (L : List Int) (k : Int) (w : World) (e : Ending) (w' : World) : Prop := e = .returned (.tuple #[.int .u64 (wrdV c L k), .bool (wrdB c L k)]) ∧ Below w.heap.size w w'
theorem wrd_no {c : Cfg} {L : List Int} {k : Int} (h : ¬ (chk c = 0 ∧ (L.length : Int) = siz c ∧ 0 ≤ k ∧ k < c.sl)) : wrdB c L k = false ∧ wrdV c L k = 0 := by
  have hb : wrdB c L k = false := by
    cases hq : wrdB c L k
    · rfl
    · exact absurd (wrdB_spec.1 hq) h
  exact ⟨hb, by rw [wrdV, hb]; rfl⟩
theorem wrd_yes {c : Cfg} {L : List Int} {k : Int} (h : chk c = 0 ∧ (L.length : Int) = siz c ∧ 0 ≤ k ∧ k < c.sl) : wrdB c L k = true ∧ wrdV c L k = L.getD (3 + c.ww.toNat + k.toNat) 0 := by
  have hb := wrdB_spec.2 h
  exact ⟨hb, by rw [wrdV, if_pos hb]⟩
theorem wrd_post {c : Cfg} {L : List Int} {k x : Int} {b : Bool} {f : FuncId} {args : Array Value} {w : World} (h : Calls Tryz.prog f args w (InsQ x b w)) (h1 : wrdV c L k = x) (h2 : wrdB c L k = b) : Calls Tryz.prog f args w (WrdPost c L k w) := by
  subst h1
  subst h2
  exact h
end Go.Proofs.YtgpdkagmacpghaaGreat.Me

/- The reference's Word; both put together (made by genword.py). -/
namespace Go.Proofs.YtgpdkagmacpghaaGreat.Me
open Go Go.RowKit Go.Proofs.YtgpdkagmacpghaaGreat.Gro Go.Proofs.YtgpdkagmacpghaaGreat.Own Go.Proofs.YtgpdkagmacpghaaGreat.Wd Go.Proofs.YtgpdkagmacpghaaGreat.Ap Go.Proofs.YtgpdkagmacpghaaGreat.Pl Go.Proofs.YtgpdkagmacpghaaGreat.Wo
set_option linter.unusedVariables false
set_option linter.unusedSimpArgs false
/-- The ways of both, at one input. -/
theorem word_ways {c : Cfg} {L : List Int} {v : Sl} {w : World} (hr : Reads w .u64 v.v L) (hL : ∀ x ∈ L, 0 ≤ x ∧ x < 18446744073709551616) (k : Int) :
    (chk c ≠ 0) ∨ (chk c = 0 ∧ (v.len : Int) ≠ siz c) ∨ (chk c = 0 ∧ (v.len : Int) = siz c ∧ ¬ (0 ≤ k ∧ k < c.sl)) ∨ (chk c = 0 ∧ (v.len : Int) = siz c ∧ 0 ≤ k ∧ k < c.sl ∧ ∃ x j b0 off, 0 ≤ x ∧ x < 18446744073709551616 ∧ L.getD (3 + c.ww.toNat + k.toNat) 0 = x ∧ ((j : Nat) : Int) = 3 + c.ww + k ∧ j < v.len ∧ v.ad = some ⟨b0, off, none⟩ ∧ b0 < w.heap.size ∧ w.cell? ⟨b0, off + j, none⟩ = some (.int .u64 x)) := by
  by_cases h : chk c = 0
  · by_cases hs : (v.len : Int) = siz c
    · by_cases hk : 0 ≤ k ∧ k < c.sl
      · refine .inr (.inr (.inr ⟨h, hs, hk.1, hk.2, ?_⟩))
        have hln := reads_len hr
        have hok := chk_ok.1 h
        have hww := hok.ww
        have hz : 3 + c.ww + k < siz c := by
          have h1 := hok.sl
          have h2 := hok.en
          have h3 := hok.bl
          have h4 := hok.wd
          have := mul_range (a := c.sl) (b := c.bl) (A := 8) (B := 16) (by omega) (by omega) (by omega) (by omega)
          have := mul_range (a := c.sl * c.bl) (b := 1 + c.wd) (A := 128) (B := 5) (by omega) (by omega) (by omega) (by omega)
          rw [siz, if_pos (okB_of_ok hok)]
          omega
        have hj : 3 + c.ww.toNat + k.toNat < L.length := by omega
        obtain ⟨ad, cap, e, _, _, h3⟩ := hr
        rcases h3 with rfl | ⟨b0, off, rfl, hb0, hc⟩
        · simp at hj
        · have e2 : v.ad = some ⟨b0, off, none⟩ := by
            obtain ⟨va, vl, vc⟩ := v
            simp only [Sl.v, Value.slice.injEq] at e
            exact e.1
          have hx := hL _ (List.getElem_mem hj)
          refine ⟨L[3 + c.ww.toNat + k.toNat], 3 + c.ww.toNat + k.toNat, b0, off, hx.1, hx.2, ?_, by omega, by omega, e2, hb0, hc _ hj⟩
          rw [List.getD_eq_getElem?_getD, List.getElem?_eq_getElem hj]
          rfl
      · exact .inr (.inr (.inl ⟨h, hs, hk⟩))
    · exact .inr (.inl ⟨h, hs⟩)
  · exact .inl h
end Go.Proofs.YtgpdkagmacpghaaGreat.Me

/- slab.Ready, stateOf, Gone, State, Parked; the reference's Ready and Gone (made by genslab.py). -/
namespace Go.Proofs.YtgpdkagmacpghaaGreat.Me
open Go Go.RowKit Go.Proofs.YtgpdkagmacpghaaGreat.Gro Go.Proofs.YtgpdkagmacpghaaGreat.Own Go.Proofs.YtgpdkagmacpghaaGreat.Wd Go.Proofs.YtgpdkagmacpghaaGreat.Ap Go.Proofs.YtgpdkagmacpghaaGreat.Pl Go.Proofs.YtgpdkagmacpghaaGreat.Wo
set_option linter.unusedVariables false
set_option linter.unusedSimpArgs false
def RetB (x : Value) (w : World) (e : Ending) (w' : World) : Prop := e = .returned x ∧ Below w.heap.size w w'
def rdy0 (st tag e : Int) : Bool := decide (st = 0) || (decide (st = 3) && decide (2 ≤ e) && decide (tag ≤ e - 2))
def rdyB (v e : Int) : Bool := rdy0 (v % 16) (v / 65536) e
theorem unslabP (v : Int) (h0 : 0 ≤ v) (h1 : v < 18446744073709551616) (w : World) : Calls Tryz.prog 212 #[.int .u64 v] w (RetB (.tuple #[.int .i64 (v % 16), .int .i64 (v / 16 % 4096), .int .u64 (v / 65536)]) w) := by
  refine (Pk.unslab v h0 h1 w).mono ?_
  rintro e w' ⟨rfl, rfl⟩
  exact ⟨rfl, Below.refl _ _⟩
theorem ready_a (v e st pk tag : Int) (e1 : e < 18446744073709551616) (HU : RowKit.Hid (∀ w, Calls Tryz.prog 212 #[.int .u64 v] w (RetB (.tuple #[.int .i64 st, .int .i64 pk, .int .u64 tag]) w))) (hs : st = 0) (w : World) : Calls Tryz.prog 214 #[.int .u64 v, .int .u64 e] w (RetB (.bool true) w) := by
  have t0 : (st == 0) = true := by simp [hs]
  clear hs
  go_enter Tryz.func214, Tryz.ntmps214
  go_wp2_with fail
  refine (HU.out _).mono ?_
  rintro r w1 ⟨rfl, hb1⟩
  go_wp2
  go_ret
  exact ⟨rfl, hb1⟩
theorem ready_b (v e st pk tag : Int) (e1 : e < 18446744073709551616) (HU : RowKit.Hid (∀ w, Calls Tryz.prog 212 #[.int .u64 v] w (RetB (.tuple #[.int .i64 st, .int .i64 pk, .int .u64 tag]) w))) (hs : st ≠ 0) (h3 : st ≠ 3) (w : World) : Calls Tryz.prog 214 #[.int .u64 v, .int .u64 e] w (RetB (.bool false) w) := by
  have t0 : (st == 0) = false := by simp [hs]
  have t3 : (st == 3) = false := by simp [h3]
  clear hs h3
  go_enter Tryz.func214, Tryz.ntmps214
  go_wp2_with fail
  refine (HU.out _).mono ?_
  rintro r w1 ⟨rfl, hb1⟩
  go_wp2
  go_ret
  exact ⟨rfl, hb1⟩
theorem ready_c (v e st pk tag : Int) (e1 : e < 18446744073709551616) (HU : RowKit.Hid (∀ w, Calls Tryz.prog 212 #[.int .u64 v] w (RetB (.tuple #[.int .i64 st, .int .i64 pk, .int .u64 tag]) w))) (hs : st = 3) (he : e < 2) (w : World) : Calls Tryz.prog 214 #[.int .u64 v, .int .u64 e] w (RetB (.bool false) w) := by
  have t0 : (st == 0) = false := by simp [hs]
  have t3 : (st == 3) = true := by simp [hs]
  have t2 : decide (2 ≤ e) = false := by simp; omega
  have t1 : decide (1 < e) = false := by simp; omega
  clear hs he
  go_enter Tryz.func214, Tryz.ntmps214
  go_wp2_with fail
  refine (HU.out _).mono ?_
  rintro r w1 ⟨rfl, hb1⟩
  go_wp2
  go_ret
  exact ⟨rfl, hb1⟩
theorem ready_d (v e st pk tag : Int) (e1 : e < 18446744073709551616) (HU : RowKit.Hid (∀ w, Calls Tryz.prog 212 #[.int .u64 v] w (RetB (.tuple #[.int .i64 st, .int .i64 pk, .int .u64 tag]) w))) (hs : st = 3) (he : 2 ≤ e) (ht : tag ≤ e - 2) (w : World) : Calls Tryz.prog 214 #[.int .u64 v, .int .u64 e] w (RetB (.bool true) w) := by
  have t0 : (st == 0) = false := by simp [hs]
  have t3 : (st == 3) = true := by simp [hs]
  have t2 : decide (2 ≤ e) = true := by simp; omega
  have t1 : decide (1 < e) = true := by simp; omega
  have tw : IntKind.u64.wrap (e - 2) = e - 2 := by unfold IntKind.wrap; rw [show IntKind.u64.bits = 64 from rfl]; simp [IntKind.signed]; omega
  have t4 : decide (tag ≤ e - 2) = true := by simp [ht]
  clear hs he ht
  go_enter Tryz.func214, Tryz.ntmps214
  go_wp2_with fail
  refine (HU.out _).mono ?_
  rintro r w1 ⟨rfl, hb1⟩
  go_wp2
  go_ret
  exact ⟨rfl, hb1⟩
theorem ready_e (v e st pk tag : Int) (e1 : e < 18446744073709551616) (HU : RowKit.Hid (∀ w, Calls Tryz.prog 212 #[.int .u64 v] w (RetB (.tuple #[.int .i64 st, .int .i64 pk, .int .u64 tag]) w))) (hs : st = 3) (he : 2 ≤ e) (ht : ¬ tag ≤ e - 2) (w : World) : Calls Tryz.prog 214 #[.int .u64 v, .int .u64 e] w (RetB (.bool false) w) := by
  have t0 : (st == 0) = false := by simp [hs]
  have t3 : (st == 3) = true := by simp [hs]
  have t2 : decide (2 ≤ e) = true := by simp; omega
  have t1 : decide (1 < e) = true := by simp; omega
  have tw : IntKind.u64.wrap (e - 2) = e - 2 := by unfold IntKind.wrap; rw [show IntKind.u64.bits = 64 from rfl]; simp [IntKind.signed]; omega
  have t4 : decide (tag ≤ e - 2) = false := by simp; omega
  clear hs he ht
  go_enter Tryz.func214, Tryz.ntmps214
  go_wp2_with fail
  refine (HU.out _).mono ?_
  rintro r w1 ⟨rfl, hb1⟩
  go_wp2
  go_ret
  exact ⟨rfl, hb1⟩
theorem ready (v e : Int) (h0 : 0 ≤ v) (h1 : v < 18446744073709551616) (e1 : e < 18446744073709551616) (w : World) : Calls Tryz.prog 214 #[.int .u64 v, .int .u64 e] w (RetB (.bool (rdyB v e)) w) := by
  have HU := Lib.hid (unslabP v h0 h1)
  unfold rdyB rdy0
  by_cases hs : v % 16 = 0
  · have := ready_a v e _ _ _ e1 HU hs w
    simpa [hs] using this
  · by_cases h3 : v % 16 = 3
    · by_cases he : 2 ≤ e
      · by_cases ht : v / 65536 ≤ e - 2
        · have := ready_d v e _ _ _ e1 HU h3 he ht w
          simpa [h3, he, ht] using this
        · have := ready_e v e _ _ _ e1 HU h3 he ht w
          simpa [h3, he, ht] using this
      · have := ready_c v e _ _ _ e1 HU h3 (by omega) w
        simpa [h3, he] using this
    · have := ready_b v e _ _ _ e1 HU hs h3 w
      simpa [hs, h3] using this
theorem stateOf (v : Int) (h0 : 0 ≤ v) (h1 : v < 18446744073709551616) (w : World) : Calls Tryz.prog 189 #[.int .u64 v] w (RetB (.int .i64 (v % 16)) w) := by
  have HU := Lib.hid (unslabP v h0 h1)
  go_enter Tryz.func189, Tryz.ntmps189
  go_wp2_with fail
  refine (HU.out _).mono ?_
  rintro r w1 ⟨rfl, hb1⟩
  go_wp2
  go_ret
  exact ⟨rfl, hb1⟩
theorem cells_of {w : World} {blk k : Nat} {u : Value} (h : w.cell? ⟨blk, k, none⟩ = some u) : ∃ c e fr, w.heap[blk]? = some (.cells c e fr) ∧ c[k]? = some u := by
  unfold World.cell? at h
  simp only at h
  split at h
  · rename_i c e fr hb
    exact ⟨c, e, fr, hb, h⟩
  · simp at h
theorem cell_lt {w : World} {b o : Nat} {v : Value} (h : w.cell? ⟨b, o, none⟩ = some v) : b < w.heap.size := by
  obtain ⟨c, e, fr, hb, _⟩ := cells_of h
  exact (Array.getElem?_eq_some_iff.1 hb).1
theorem getD_range {L : List Int} (hL : ∀ x ∈ L, 0 ≤ x ∧ x < 18446744073709551616) (i : Nat) : 0 ≤ L.getD i 0 ∧ L.getD i 0 < 18446744073709551616 := by
  rw [List.getD_eq_getElem?_getD]
  by_cases h : i < L.length
  · rw [List.getElem?_eq_getElem h]
    exact hL _ (List.getElem_mem h)
  · rw [List.getElem?_eq_none (by omega)]
    simp
theorem wrdV_range {c : Cfg} {L : List Int} (hL : ∀ x ∈ L, 0 ≤ x ∧ x < 18446744073709551616) (k : Int) : 0 ≤ wrdV c L k ∧ wrdV c L k < 18446744073709551616 := by
  unfold wrdV
  split
  · exact getD_range hL _
  · simp
def gonB (c : Cfg) (L : List Int) (k : Int) : Bool := wrdB c L k && decide (wrdV c L k % 16 = 3) && rdyB (wrdV c L k) (L.getD 0 0)
end Go.Proofs.YtgpdkagmacpghaaGreat.Me

/- The lines of layer 8 as functions. -/
namespace Go.Proofs.YtgpdkagmacpghaaGreat.Me
open Go Go.RowKit Go.Proofs.YtgpdkagmacpghaaGreat.Gro Go.Proofs.YtgpdkagmacpghaaGreat.Own Go.Proofs.YtgpdkagmacpghaaGreat.Wd Go.Proofs.YtgpdkagmacpghaaGreat.Ap Go.Proofs.YtgpdkagmacpghaaGreat.Pl Go.Proofs.YtgpdkagmacpghaaGreat.Wo
set_option linter.unusedVariables false
set_option linter.unusedSimpArgs false
/-- The address of the word of a block's slab. -/
def slHome (c : Cfg) (k : Int) : Int := aSlab c (aHom c (wrap64 (k - 1)))
def slNow (L : List Int) (k : Int) : Int := IntKind.u64.wrap (ldV L k + 16)
def sl30 (c : Cfg) (L : List Int) (p : Pl) : Res :=
  if slNow L (slHome c p.k) / 16 % 4096 = c.bl then ⟨acc L 4 (slHome c p.k) 16 0, adL L (slHome c p.k) 16, { p with ln := 31 }, 0, true⟩
  else ⟨acc L 4 (slHome c p.k) 16 0, adL L (slHome c p.k) 16, { p with k := 0 }, 1, true⟩
def sl31 (L : List Int) (p : Pl) : Res := ⟨acc L 1 0 0 0, L, { p with v := ldV L 0, ln := 32 }, 0, true⟩
def sl32 (c : Cfg) (L : List Int) (p : Pl) : Res := ⟨acc L 2 (slHome c p.k) (Pk.sl 3 0 p.v) 0, stL L (slHome c p.k) (Pk.sl 3 0 p.v), { p with k := 0 }, 1, true⟩
def sl33 (c : Cfg) (L : List Int) (p : Pl) : Res :=
  if rdyB (ldV L (aSlab c p.j)) p.ep = true then ⟨acc L 1 (aSlab c p.j) 0 0, L, { p with v := ldV L (aSlab c p.j), ln := 34 }, 0, true⟩
  else ⟨acc L 1 (aSlab c p.j) 0 0, L, { p with v := ldV L (aSlab c p.j), j := wrap64 (p.j + 1) }, if c.sl ≤ wrap64 (p.j + 1) then 2 else 0, true⟩
/-- A slab's word is swapped. -/
def slSwap (c : Cfg) (L : List Int) (p : Pl) (j st back : Int) : Res :=
  if csB L (aSlab c j) p.v = true then ⟨acc L 3 (aSlab c j) p.v st, csL L (aSlab c j) p.v st, p, 1, true⟩
  else ⟨acc L 3 (aSlab c j) p.v st, csL L (aSlab c j) p.v st, { p with ln := back }, 0, true⟩
/-- Does the block's slab take it? -/
def slTake (c : Cfg) (L : List Int) (p : Pl) (k : Int) : Res := ⟨acc L 1 (slHome c k) 0 0, L, p, if ldV L (slHome c k) % 16 = 2 then 2 else 1, true⟩
def sl36 (c : Cfg) (L : List Int) (p : Pl) : Res :=
  if ldV L (aSlab c p.o3) % 16 = 1 then ⟨acc L 1 (aSlab c p.o3) 0 0, L, { p with v := ldV L (aSlab c p.o3), ln := 37 }, 0, true⟩
  else ⟨acc L 1 (aSlab c p.o3) 0 0, L, { p with v := ldV L (aSlab c p.o3) }, 2, true⟩
def slabLn (c : Cfg) (a : Acc) (L : List Int) (p : Pl) : Res :=
  if p.ln = 30 then sl30 c L p else if p.ln = 31 then sl31 L p else if p.ln = 32 then sl32 c L p else if p.ln = 33 then sl33 c L p
  else if p.ln = 34 then slSwap c L p p.j 1 33 else if p.ln = 35 then slTake c L p p.b else if p.ln = 36 then sl36 c L p
  else if p.ln = 37 then slSwap c L p p.o3 2 36 else if p.ln = 39 then slTake c L p p.k else ⟨a, L, p, 0, false⟩
theorem slabLn_keeps {c : Cfg} {a : Acc} {L : List Int} {p : Pl} (hL : WR L) (hp : PR p) : Keeps L (slabLn c a L p) := by
  have sw : ∀ j st back, 0 ≤ st → st < 18446744073709551616 → Keeps L (slSwap c L p j st back) := fun j st back h0 h1 => by
    unfold slSwap
    split
    · exact ⟨csL_len _ _ _, csL_wr hL _ _ h0 h1, hp⟩
    · exact ⟨csL_len _ _ _, csL_wr hL _ _ h0 h1, ⟨hp.ep, hp.h, hp.n, hp.v, hp.u, hp.g, hp.t⟩⟩
  have pv : ∀ x : Pl, x.ep = p.ep → x.h = p.h → x.n = p.n → (x.v = p.v ∨ ∃ k, x.v = ldV L k) → x.u = p.u → x.g = p.g → x.t = p.t → PR x := fun x e1 e2 e3 e4 e5 e6 e7 =>
    ⟨e1 ▸ hp.ep, e2 ▸ hp.h, e3 ▸ hp.n, e4.elim (fun e => e ▸ hp.v) (fun ⟨k, e⟩ => e ▸ ldV_wr hL k), e5 ▸ hp.u, e6 ▸ hp.g, e7 ▸ hp.t⟩
  unfold slabLn
  split
  · unfold sl30
    split
    · exact ⟨adL_len _ _, adL_wr hL _ _, pv _ rfl rfl rfl (.inl rfl) rfl rfl rfl⟩
    · exact ⟨adL_len _ _, adL_wr hL _ _, pv _ rfl rfl rfl (.inl rfl) rfl rfl rfl⟩
  split
  · exact ⟨rfl, hL, pv _ rfl rfl rfl (.inr ⟨_, rfl⟩) rfl rfl rfl⟩
  split
  · exact ⟨stL_len _ _, stL_wr hL _ (Pk.sl_rng _ _ _).1 (Pk.sl_rng _ _ _).2, pv _ rfl rfl rfl (.inl rfl) rfl rfl rfl⟩
  split
  · unfold sl33
    split
    · exact ⟨rfl, hL, pv _ rfl rfl rfl (.inr ⟨_, rfl⟩) rfl rfl rfl⟩
    · exact ⟨rfl, hL, pv _ rfl rfl rfl (.inr ⟨_, rfl⟩) rfl rfl rfl⟩
  split
  · exact sw _ _ _ (by omega) (by omega)
  split
  · exact ⟨rfl, hL, hp⟩
  split
  · unfold sl36
    split
    · exact ⟨rfl, hL, pv _ rfl rfl rfl (.inr ⟨_, rfl⟩) rfl rfl rfl⟩
    · exact ⟨rfl, hL, pv _ rfl rfl rfl (.inr ⟨_, rfl⟩) rfl rfl rfl⟩
  split
  · exact sw _ _ _ (by omega) (by omega)
  split
  · exact ⟨rfl, hL, hp⟩
  · exact ⟨rfl, hL, hp⟩
/-- A slab that is none reads as ready. -/
theorem rdy_out {c : Cfg} {L : List Int} {j e : Int} (h : aSlab c j < 0) : rdyB (ldV L (aSlab c j)) e = true := by
  rw [ldV_out (by omega)]
  simp [rdyB, rdy0]
theorem slab_last {c : Cfg} {L : List Int} {j e : Int} (h : rdyB (ldV L (aSlab c j)) e = false) : (c.sl ≤ wrap64 (j + 1)) ↔ (wrap64 (c.sl - 1) ≤ j) := by
  have h0 : ¬ aSlab c j < 0 := fun h1 => by rw [rdy_out h1] at h; cases h
  unfold aSlab at h0
  split at h0
  · rename_i hb
    obtain ⟨hk, hj0, hj1⟩ := hasB_spec hb
    have hc : chk c = 0 := Classical.byContradiction fun hn => by rw [okB_false hn] at hk; cases hk
    have := (chk_ok.1 hc).sl
    rw [IntWalk.wrap64_in _ (by omega), IntWalk.wrap64_in _ (by omega)]
    omega
  · omega
end Go.Proofs.YtgpdkagmacpghaaGreat.Me

/- slab.Step out of its line, for every result (made by genstep.py). -/
namespace Go.Proofs.YtgpdkagmacpghaaGreat.Me
open Go Go.RowKit Go.Proofs.YtgpdkagmacpghaaGreat.Gro Go.Proofs.YtgpdkagmacpghaaGreat.Own Go.Proofs.YtgpdkagmacpghaaGreat.Wd Go.Proofs.YtgpdkagmacpghaaGreat.Ap Go.Proofs.YtgpdkagmacpghaaGreat.Pl Go.Proofs.YtgpdkagmacpghaaGreat.Wo
set_option linter.unusedVariables false
set_option linter.unusedSimpArgs false
set_option maxRecDepth 10000 in
set_option maxHeartbeats 4000000 in
theorem slabStepZ0 {B : Nat} {w : World} {g gl cap : Nat} {c : Cfg} {a a' : Acc} {L L' : List Int} (M : MemAt B w g c a gl cap L) (s : Wk) (x : St) (hx : Few 1000 x) (h : Lies w s x) {p1 : Pl} {ok : Bool}
    (HL : RowKit.Hid (∀ gx s1 w1, MX B w1 g gl cap gx c a L s1 w1 → s1.p = x.p → Calls Tryz.prog 157 #[.pointer (some ⟨g, 0, none⟩), .pointer (some ⟨gx, 0, none⟩)] w1 (LP B w1 g gl cap gx c ⟨a', L', p1, (0 : Int), ok⟩ s1))) :
    Calls Tryz.prog 132 #[.pointer (some ⟨g, 0, none⟩), wv s] w (GPost B g gl cap c ⟨a', L', p1, (0 : Int), ok⟩ x w) := by
  have T0 := Two.start w s
  have mlt := M.lt
  go_enter Tryz.func132, Tryz.ntmps132
  go_wp2_with (first | (refine wpList_alloc_wz rfl rfl ?_) | (refine wpList_load_row rfl 34 _ rfl w.heap.size rfl _ (wc s) (0, 0) _ (by exact T0.X) Tryz.underlying34 rfl (by kernel_rfl) ?_))
  refine (copyWork s x hx _ (h.keep T0.below)).mono ?_
  rintro e w1 ⟨s1, rfl, A1, hb1⟩
  have T1 := T0.keep hb1
  have b1 := T1.lt
  have T2 := T1.rowX s1
  have hsz : ((w.alloc (.cells (wc s) 34)).alloc (.cells (wc wz) 34)).heap.size = w.heap.size + 2 := by simp
  rw [hsz] at A1 hb1
  have A2 := A1.setRow (g := w.heap.size) (by omega) (wc s1)
  have M2 := M.keep T2.below
  have MM : MX B (w1.setRow w.heap.size (wc s1)) g gl cap w.heap.size c a L s1 (w1.setRow w.heap.size (wc s1)) := ⟨M2, T2.X, Tri.refl _ _ _ _, by omega, by omega⟩
  obtain ⟨w2, hw2⟩ : ∃ u, u = w1.setRow w.heap.size (wc s1) := ⟨_, rfl⟩
  rw [← hw2] at MM A2 T2
  have hp := A1.p
  clear A1 M2 hb1 T0
  go_wp2_with (first | (refine wpList_store_row rfl 34 _ _ rfl w.heap.size (wc s1) rfl rfl _ _ (by exact T1.X) (by kernel_rfl) (by kernel_rfl) (by kernel_rfl) ?_; rw [← hw2]; clear hw2 T1))
  refine (HL.out _ s1 _ MM hp).mono ?_
  rintro e w3 ⟨rfl, H3⟩
  have Z3 := H3.T.bk T2.Z (by omega) (by omega) (by omega)
  have A3 := anew_tri A2 H3.T (by omega) (by omega) (by omega)
  have HE := H3
  have ZE := Z3
  clear Z3 MM H3 A2
  go_wp2_with (first | (refine wpList_load_row rfl 34 _ rfl w.heap.size rfl _ (wc ({ s1 with p := p1 } : Wk)) (0, 0) _ (by exact HE.X) Tryz.underlying34 rfl (by kernel_rfl) ?_) | (refine wpList_store_row rfl 34 _ _ rfl (w.heap.size + 1) (wc ({ s1 with p := p1 } : Wk)) rfl rfl _ _ (by exact ZE) (by kernel_rfl) (by kernel_rfl) (by kernel_rfl) ?_))
  have ZF := ZE.setRow (wc ({ s1 with p := p1 } : Wk))
  refine bodyPost_ret (v := .tuple #[wv ({ s1 with p := p1 } : Wk), .int .i64 (0 : Int), .bool ok]) ?_ rfl ⟨_, rfl, anew_end A3 (by omega) (by omega) _, HE.M.apart (g' := w.heap.size + 1) (gl' := w.heap.size + 1) ((Touch.refl _ _ _).setRow _) (by omega) (by omega) (by omega) (by omega), touch_end T2.below HE.T (by omega) _⟩
  exact Rw.results_cell_slot2 (p := 4) (q := 5) (r := 6) (ty := 34) Tryz.results132 _ _ (w.heap.size + 1) 34 _ (0, 0) _ rfl ZF Tryz.underlying34 rfl (by kernel_rfl)
set_option maxRecDepth 10000 in
set_option maxHeartbeats 4000000 in
theorem slabStepZ1 {B : Nat} {w : World} {g gl cap : Nat} {c : Cfg} {a a' : Acc} {L L' : List Int} (M : MemAt B w g c a gl cap L) (s : Wk) (x : St) (hx : Few 1000 x) (h : Lies w s x) {p1 : Pl} {way : Int} (hway : way ≠ 0) {ok : Bool}
    (HL : RowKit.Hid (∀ gx s1 w1, MX B w1 g gl cap gx c a L s1 w1 → s1.p = x.p → Calls Tryz.prog 157 #[.pointer (some ⟨g, 0, none⟩), .pointer (some ⟨gx, 0, none⟩)] w1 (LP B w1 g gl cap gx c ⟨a', L', p1, way, ok⟩ s1))) :
    Calls Tryz.prog 132 #[.pointer (some ⟨g, 0, none⟩), wv s] w (GPost B g gl cap c ⟨a', L', { p1 with ln := 0 }, way, ok⟩ x w) := by
  have T0 := Two.start w s
  have mlt := M.lt
  have hwb : (way != 0) = true := by simp [hway]
  clear hway
  go_enter Tryz.func132, Tryz.ntmps132
  go_wp2_with (first | (refine wpList_alloc_wz rfl rfl ?_) | (refine wpList_load_row rfl 34 _ rfl w.heap.size rfl _ (wc s) (0, 0) _ (by exact T0.X) Tryz.underlying34 rfl (by kernel_rfl) ?_))
  refine (copyWork s x hx _ (h.keep T0.below)).mono ?_
  rintro e w1 ⟨s1, rfl, A1, hb1⟩
  have T1 := T0.keep hb1
  have b1 := T1.lt
  have T2 := T1.rowX s1
  have hsz : ((w.alloc (.cells (wc s) 34)).alloc (.cells (wc wz) 34)).heap.size = w.heap.size + 2 := by simp
  rw [hsz] at A1 hb1
  have A2 := A1.setRow (g := w.heap.size) (by omega) (wc s1)
  have M2 := M.keep T2.below
  have MM : MX B (w1.setRow w.heap.size (wc s1)) g gl cap w.heap.size c a L s1 (w1.setRow w.heap.size (wc s1)) := ⟨M2, T2.X, Tri.refl _ _ _ _, by omega, by omega⟩
  obtain ⟨w2, hw2⟩ : ∃ u, u = w1.setRow w.heap.size (wc s1) := ⟨_, rfl⟩
  rw [← hw2] at MM A2 T2
  have hp := A1.p
  clear A1 M2 hb1 T0
  go_wp2_with (first | (refine wpList_store_row rfl 34 _ _ rfl w.heap.size (wc s1) rfl rfl _ _ (by exact T1.X) (by kernel_rfl) (by kernel_rfl) (by kernel_rfl) ?_; rw [← hw2]; clear hw2 T1))
  refine (HL.out _ s1 _ MM hp).mono ?_
  rintro e w3 ⟨rfl, H3⟩
  have Z3 := H3.T.bk T2.Z (by omega) (by omega) (by omega)
  have A3 := anew_tri A2 H3.T (by omega) (by omega) (by omega)
  have HE := H3.set (s' := { s1 with p := { p1 with ln := 0 } }) 0 (.int .i64 0) rfl
  have ZE := Z3.setCell_far (a := ⟨w.heap.size, 0, none⟩) (by simp) (.int .i64 0)
  have x3 := H3.X.cells
  have z3 := H3.X.frozen
  have f0 : ∀ s : Wk, (wc s)[0]? = some (.int .i64 s.p.ln) := fun _ => rfl
  have e0 : (w3.cell? ⟨w.heap.size, 0, none⟩).isSome = true := by rw [x3, f0]; rfl
  have A3 := A3.setCell (g := w.heap.size) (by omega) 0 (.int .i64 0)
  clear Z3 MM H3 A2
  go_wp2_with (first | (refine wpList_load_row rfl 34 _ rfl w.heap.size rfl _ (wc ({ s1 with p := { p1 with ln := 0 } } : Wk)) (0, 0) _ (by exact HE.X) Tryz.underlying34 rfl (by kernel_rfl) ?_) | (refine wpList_store_row rfl 34 _ _ rfl (w.heap.size + 1) (wc ({ s1 with p := { p1 with ln := 0 } } : Wk)) rfl rfl _ _ (by exact ZE) (by kernel_rfl) (by kernel_rfl) (by kernel_rfl) ?_))
  have ZF := ZE.setRow (wc ({ s1 with p := { p1 with ln := 0 } } : Wk))
  refine bodyPost_ret (v := .tuple #[wv ({ s1 with p := { p1 with ln := 0 } } : Wk), .int .i64 way, .bool ok]) ?_ rfl ⟨_, rfl, anew_end A3 (by omega) (by omega) _, HE.M.apart (g' := w.heap.size + 1) (gl' := w.heap.size + 1) ((Touch.refl _ _ _).setRow _) (by omega) (by omega) (by omega) (by omega), touch_end T2.below HE.T (by omega) _⟩
  exact Rw.results_cell_slot2 (p := 4) (q := 5) (r := 6) (ty := 34) Tryz.results132 _ _ (w.heap.size + 1) 34 _ (0, 0) _ rfl ZF Tryz.underlying34 rfl (by kernel_rfl)
/-- A step, for whatever its line leaves. -/
theorem slabStep {B : Nat} {w : World} {g gl cap : Nat} {c : Cfg} {a : Acc} {L : List Int} (M : MemAt B w g c a gl cap L) (s : Wk) (x : St) (hx : Few 1000 x) (h : Lies w s x) (r : Res)
    (HL : ∀ gx s1 w1, MX B w1 g gl cap gx c a L s1 w1 → s1.p = x.p → Calls Tryz.prog 157 #[.pointer (some ⟨g, 0, none⟩), .pointer (some ⟨gx, 0, none⟩)] w1 (LP B w1 g gl cap gx c r s1)) :
    Calls Tryz.prog 132 #[.pointer (some ⟨g, 0, none⟩), wv s] w (GPost B g gl cap c r.fin x w) := by
  obtain ⟨a', L', p1, way, ok⟩ := r
  by_cases hw : way = 0
  · subst hw
    rw [Res.fin0 rfl]
    exact slabStepZ0 M s x hx h (Lib.hid HL)
  · rw [Res.fin1 hw]
    exact slabStepZ1 M s x hx h hw (Lib.hid HL)
end Go.Proofs.YtgpdkagmacpghaaGreat.Me

/- The lines of layer 8, for every state and every word (made by genslabs.py). -/
namespace Go.Proofs.YtgpdkagmacpghaaGreat.Me
open Go Go.RowKit Go.Proofs.YtgpdkagmacpghaaGreat.Gro Go.Proofs.YtgpdkagmacpghaaGreat.Own Go.Proofs.YtgpdkagmacpghaaGreat.Wd Go.Proofs.YtgpdkagmacpghaaGreat.Ap Go.Proofs.YtgpdkagmacpghaaGreat.Pl Go.Proofs.YtgpdkagmacpghaaGreat.Wo
set_option linter.unusedVariables false
set_option linter.unusedSimpArgs false
set_option maxRecDepth 10000 in
set_option maxHeartbeats 4000000 in
theorem slHomeC {B : Nat} {w : World} {g gl cap : Nat} {c : Cfg} {a : Acc} {L : List Int} (M : MemAt B w g c a gl cap L) (hf : c.Wf) (k : Int) : Calls Tryz.prog 183 #[.pointer (some ⟨g, 0, none⟩), .int .i64 k] w fun e w' => e = .returned (.int .i64 (slHome c k)) ∧ Below w.heap.size w w' := by
  have m0 := M.B.cells
  have lg := M.lt.1
  have hh : aSlab c (aHom c (wrap64 (k - 1))) = slHome c k := rfl
  have HH := Lib.hid hh
  clear hh
  go_enter Tryz.func183, Tryz.ntmps183
  go_wp2
  refine wp_region_grown (by kernel_rfl) (by kernel_rfl) ?_
  have hg := @gcell
  repeat (go_big_quiet_step (first | exact grown_of (Pl.home c hf _ _) | exact grown_of (Pl.slab c hf _ _)))
  refine wpQuiet_nil ?_
  rintro w1 ⟨⟨_, hb1⟩, rfl⟩
  clear hg
  rw [HH.out]
  go_wp2
  go_ret
  exact ⟨rfl, hb1⟩
set_option maxRecDepth 10000 in
set_option maxHeartbeats 4000000 in
theorem slPark1 {B : Nat} {w0 w : World} {g gl cap gx : Nat} {c : Cfg} {a : Acc} {L : List Int} {s : Wk} (h : MX B w0 g gl cap gx c a L s w) (hm : L.length ≤ 1000) (hL : WR L) (hf : c.Wf) (he : slNow L (slHome c s.p.k) / 16 % 4096 = c.bl) : Calls Tryz.prog 182 #[.pointer (some ⟨g, 0, none⟩), .pointer (some ⟨gx, 0, none⟩)] w fun e w' => e = .returned (.int .i64 0) ∧ MX B w0 g gl cap gx c (acc L 4 (slHome c s.p.k) 16 0) (adL L (slHome c s.p.k) 16) { s with p := { s.p with ln := 31 } } w' := by
  have f0 : ∀ s : Wk, (wc s)[0]? = some (.int .i64 s.p.ln) := fun _ => rfl
  have f19 : ∀ s : Wk, (wc s)[19]? = some (.int .i64 s.p.k) := fun _ => rfl
  have HE := Lib.hid he
  have hv := wrap_rng (ldV L (slHome c s.p.k) + 16)
  have HN := Lib.hid (show IntKind.u64.wrap (ldV L (slHome c s.p.k) + 16) = slNow L (slHome c s.p.k) from rfl)
  rw [HN.out] at hv
  have HUN := Lib.hid (fun w => unslabP (slNow L (slHome c s.p.k)) hv.1 hv.2 w)
  have HHO := Lib.hid (slHomeC h.M hf s.p.k)
  clear he hv
  have x0 := h.X.cells
  go_enter Tryz.func182, Tryz.ntmps182
  go_wp2_with fail
  refine HHO.out.mono ?_
  rintro en w1 ⟨rfl, hb1⟩
  have H1 := h.keep hb1
  clear HHO x0 hb1
  go_wp2_with fail
  refine (add_any H1.M hm _ 16).mono ?_
  rintro en w2 ⟨rfl, M2, T2⟩
  have H2 := H1.mem M2 T2
  clear H1 M2 T2
  go_wp2_with fail
  rw [HN.out]
  refine (HUN.out _).mono ?_
  rintro en w3 ⟨rfl, hb3⟩
  have H3 := H2.keep hb3
  have x3 := H3.X.cells
  have m3 := H3.M.B.cells
  obtain ⟨q, hq⟩ : ∃ q, q = slNow L (slHome c s.p.k) / 16 % 4096 := ⟨_, rfl⟩
  rw [← hq] at HE
  simp only [← hq]
  clear hq H2 hb3
  have te : (q == c.bl) = true := by have := HE.out; simp [this]
  have H4 := H3.set (s' := { s with p := { s.p with ln := 31 } }) 0 (.int .i64 31) rfl
  have xw3 := H3.X.cells
  have zw3 := H3.X.frozen
  have ew3_0 : (w3.cell? ⟨gx, 0, none⟩).isSome = true := by rw [xw3, f0]; rfl
  go_wp2
  go_ret
  exact ⟨rfl, H4⟩
set_option maxRecDepth 10000 in
set_option maxHeartbeats 4000000 in
theorem sll30y {B : Nat} {w0 w : World} {g gl cap gx : Nat} {c : Cfg} {a : Acc} {L : List Int} {s : Wk} (h : MX B w0 g gl cap gx c a L s w) (hm : L.length ≤ 1000) (hL : WR L) (hf : c.Wf) (hl : s.p.ln = 30) (he : slNow L (slHome c s.p.k) / 16 % 4096 = c.bl) : Calls Tryz.prog 157 #[.pointer (some ⟨g, 0, none⟩), .pointer (some ⟨gx, 0, none⟩)] w (LP B w0 g gl cap gx c ⟨acc L 4 (slHome c s.p.k) 16 0, adL L (slHome c s.p.k) 16, { s.p with ln := 31 }, 0, true⟩ s) := by
  have HC := Lib.hid (slPark1 h hm hL hf he)
  clear he
  have f0 : ∀ s : Wk, (wc s)[0]? = some (.int .i64 s.p.ln) := fun _ => rfl
  have t30 : (s.p.ln == 30) = true := by simp [hl]
  have x0 := h.X.cells
  clear hl
  go_enter Tryz.func157, Tryz.ntmps157
  go_wp2_with fail
  refine HC.out.mono ?_
  rintro en w1 ⟨rfl, H1⟩
  go_wp2
  go_ret2
  exact ⟨rfl, H1⟩
set_option maxRecDepth 10000 in
set_option maxHeartbeats 4000000 in
theorem slPark0 {B : Nat} {w0 w : World} {g gl cap gx : Nat} {c : Cfg} {a : Acc} {L : List Int} {s : Wk} (h : MX B w0 g gl cap gx c a L s w) (hm : L.length ≤ 1000) (hL : WR L) (hf : c.Wf) (he : slNow L (slHome c s.p.k) / 16 % 4096 ≠ c.bl) : Calls Tryz.prog 182 #[.pointer (some ⟨g, 0, none⟩), .pointer (some ⟨gx, 0, none⟩)] w fun e w' => e = .returned (.int .i64 1) ∧ MX B w0 g gl cap gx c (acc L 4 (slHome c s.p.k) 16 0) (adL L (slHome c s.p.k) 16) { s with p := { s.p with k := 0 } } w' := by
  have f0 : ∀ s : Wk, (wc s)[0]? = some (.int .i64 s.p.ln) := fun _ => rfl
  have f19 : ∀ s : Wk, (wc s)[19]? = some (.int .i64 s.p.k) := fun _ => rfl
  have HE := Lib.hid he
  have hv := wrap_rng (ldV L (slHome c s.p.k) + 16)
  have HN := Lib.hid (show IntKind.u64.wrap (ldV L (slHome c s.p.k) + 16) = slNow L (slHome c s.p.k) from rfl)
  rw [HN.out] at hv
  have HUN := Lib.hid (fun w => unslabP (slNow L (slHome c s.p.k)) hv.1 hv.2 w)
  have HHO := Lib.hid (slHomeC h.M hf s.p.k)
  clear he hv
  have x0 := h.X.cells
  go_enter Tryz.func182, Tryz.ntmps182
  go_wp2_with fail
  refine HHO.out.mono ?_
  rintro en w1 ⟨rfl, hb1⟩
  have H1 := h.keep hb1
  clear HHO x0 hb1
  go_wp2_with fail
  refine (add_any H1.M hm _ 16).mono ?_
  rintro en w2 ⟨rfl, M2, T2⟩
  have H2 := H1.mem M2 T2
  clear H1 M2 T2
  go_wp2_with fail
  rw [HN.out]
  refine (HUN.out _).mono ?_
  rintro en w3 ⟨rfl, hb3⟩
  have H3 := H2.keep hb3
  have x3 := H3.X.cells
  have m3 := H3.M.B.cells
  obtain ⟨q, hq⟩ : ∃ q, q = slNow L (slHome c s.p.k) / 16 % 4096 := ⟨_, rfl⟩
  rw [← hq] at HE
  simp only [← hq]
  clear hq H2 hb3
  have te : (q == c.bl) = false := by have := HE.out; simp [this]
  have H4 := H3.set (s' := { s with p := { s.p with k := 0 } }) 19 (.int .i64 0) rfl
  have xw3 := H3.X.cells
  have zw3 := H3.X.frozen
  have ew3_19 : (w3.cell? ⟨gx, 19, none⟩).isSome = true := by rw [xw3, f19]; rfl
  go_wp2
  go_ret
  exact ⟨rfl, H4⟩
set_option maxRecDepth 10000 in
set_option maxHeartbeats 4000000 in
theorem sll30n {B : Nat} {w0 w : World} {g gl cap gx : Nat} {c : Cfg} {a : Acc} {L : List Int} {s : Wk} (h : MX B w0 g gl cap gx c a L s w) (hm : L.length ≤ 1000) (hL : WR L) (hf : c.Wf) (hl : s.p.ln = 30) (he : slNow L (slHome c s.p.k) / 16 % 4096 ≠ c.bl) : Calls Tryz.prog 157 #[.pointer (some ⟨g, 0, none⟩), .pointer (some ⟨gx, 0, none⟩)] w (LP B w0 g gl cap gx c ⟨acc L 4 (slHome c s.p.k) 16 0, adL L (slHome c s.p.k) 16, { s.p with k := 0 }, 1, true⟩ s) := by
  have HC := Lib.hid (slPark0 h hm hL hf he)
  clear he
  have f0 : ∀ s : Wk, (wc s)[0]? = some (.int .i64 s.p.ln) := fun _ => rfl
  have t30 : (s.p.ln == 30) = true := by simp [hl]
  have x0 := h.X.cells
  clear hl
  go_enter Tryz.func157, Tryz.ntmps157
  go_wp2_with fail
  refine HC.out.mono ?_
  rintro en w1 ⟨rfl, H1⟩
  go_wp2
  go_ret2
  exact ⟨rfl, H1⟩
set_option maxRecDepth 10000 in
set_option maxHeartbeats 4000000 in
theorem sll31 {B : Nat} {w0 w : World} {g gl cap gx : Nat} {c : Cfg} {a : Acc} {L : List Int} {s : Wk} (h : MX B w0 g gl cap gx c a L s w) (hm : L.length ≤ 1000) (hL : WR L) (hf : c.Wf) (hl : s.p.ln = 31) : Calls Tryz.prog 157 #[.pointer (some ⟨g, 0, none⟩), .pointer (some ⟨gx, 0, none⟩)] w (LP B w0 g gl cap gx c ⟨acc L 1 0 0 0, L, { s.p with v := ldV L 0, ln := 32 }, 0, true⟩ s) := by
  have f0 : ∀ s : Wk, (wc s)[0]? = some (.int .i64 s.p.ln) := fun _ => rfl
  have f25 : ∀ s : Wk, (wc s)[25]? = some (.int .u64 s.p.v) := fun _ => rfl
  have t30 : (s.p.ln == 30) = false := by simp [hl]
  have t31 : (s.p.ln == 31) = true := by simp [hl]
  have x0 := h.X.cells
  clear hl
  go_enter Tryz.func157, Tryz.ntmps157
  go_wp2_with fail
  refine (load_any h.M hm 0).mono ?_
  rintro en w1 ⟨rfl, M1, T1⟩
  have H1 := h.mem M1 T1
  obtain ⟨v0, hv0⟩ : ∃ v, v = ldV L 0 := ⟨_, rfl⟩
  simp only [← hv0]
  have HV := Lib.hid hv0
  clear hv0 x0 M1 T1
  have H2 := H1.set (s' := { s with p := { s.p with v := v0 } }) 25 (.int .u64 v0) rfl
  have xw1 := H1.X.cells
  have zw1 := H1.X.frozen
  have ew1_25 : (w1.cell? ⟨gx, 25, none⟩).isSome = true := by rw [xw1, f25]; rfl
  have H3 := H2.set (s' := { s with p := { s.p with v := v0, ln := 32 } }) 0 (.int .i64 32) rfl
  have y2 : ((w1.setCell ⟨gx, 25, none⟩ (.int .u64 v0)).cell? ⟨gx, 0, none⟩).isSome = true := by rw [H2.X.cells, f0]; rfl
  go_wp2
  go_ret2
  have e1 := HV.out
  subst e1
  exact ⟨rfl, H3⟩
set_option maxRecDepth 10000 in
set_option maxHeartbeats 4000000 in
theorem sll32 {B : Nat} {w0 w : World} {g gl cap gx : Nat} {c : Cfg} {a : Acc} {L : List Int} {s : Wk} (h : MX B w0 g gl cap gx c a L s w) (hm : L.length ≤ 1000) (hL : WR L) (hf : c.Wf) (hl : s.p.ln = 32) : Calls Tryz.prog 157 #[.pointer (some ⟨g, 0, none⟩), .pointer (some ⟨gx, 0, none⟩)] w (LP B w0 g gl cap gx c ⟨acc L 2 (slHome c s.p.k) (Pk.sl 3 0 s.p.v) 0, stL L (slHome c s.p.k) (Pk.sl 3 0 s.p.v), { s.p with k := 0 }, 1, true⟩ s) := by
  have f0 : ∀ s : Wk, (wc s)[0]? = some (.int .i64 s.p.ln) := fun _ => rfl
  have f19 : ∀ s : Wk, (wc s)[19]? = some (.int .i64 s.p.k) := fun _ => rfl
  have f25 : ∀ s : Wk, (wc s)[25]? = some (.int .u64 s.p.v) := fun _ => rfl
  have t30 : (s.p.ln == 30) = false := by simp [hl]
  have t31 : (s.p.ln == 31) = false := by simp [hl]
  have t32 : (s.p.ln == 32) = true := by simp [hl]
  have x0 := h.X.cells
  clear hl
  go_enter Tryz.func157, Tryz.ntmps157
  have lx := h.lt
  have lg := h.M.lt.1
  go_wp2
  have HHO := Lib.hid (fun (n : Gr w) => slHomeC (h.M.keep n.2) hf s.p.k)
  refine wp_region_grown_tail 12 (by kernel_rfl) (by kernel_rfl) ?_
  simp only [List.take_succ_cons, List.take_zero, List.drop_succ_cons, List.drop_zero]
  have hg := @gcell
  repeat (go_big_quiet_step (first | exact grown_of (HHO.out _) | exact grown_same (Pk.slab _ _ _ _)))
  refine wpQuiet_nil ?_
  rintro w1 ⟨⟨_, hb1⟩, rfl⟩
  clear hg
  have H1 := h.keep hb1
  clear x0 lx lg hb1 HHO
  go_wp2_with fail
  refine (store_any H1.M hm _ _).mono ?_
  rintro en w2 ⟨rfl, M2, T2⟩
  have H2 := H1.mem M2 T2
  clear H1 M2 T2
  have H3 := H2.set (s' := { s with p := { s.p with k := 0 } }) 19 (.int .i64 0) rfl
  have xw2 := H2.X.cells
  have zw2 := H2.X.frozen
  have ew2_19 : (w2.cell? ⟨gx, 19, none⟩).isSome = true := by rw [xw2, f19]; rfl
  go_wp2
  go_ret2
  exact ⟨rfl, H3⟩
set_option maxRecDepth 10000 in
set_option maxHeartbeats 4000000 in
theorem slLookr {B : Nat} {w0 w : World} {g gl cap gx : Nat} {c : Cfg} {a : Acc} {L : List Int} {s : Wk} (h : MX B w0 g gl cap gx c a L s w) (hm : L.length ≤ 1000) (hL : WR L) (hf : c.Wf) (he : s.p.ep < 18446744073709551616) (hr : rdyB (ldV L (aSlab c s.p.j)) s.p.ep = true) : Calls Tryz.prog 185 #[.pointer (some ⟨g, 0, none⟩), .pointer (some ⟨gx, 0, none⟩)] w fun e w' => e = .returned (.int .i64 0) ∧ MX B w0 g gl cap gx c (acc L 1 (aSlab c s.p.j) 0 0) (L) { s with p := { s.p with v := ldV L (aSlab c s.p.j), ln := 34 } } w' := by
  have f0 : ∀ s : Wk, (wc s)[0]? = some (.int .i64 s.p.ln) := fun _ => rfl
  have f9 : ∀ s : Wk, (wc s)[9]? = some (.int .u64 s.p.ep) := fun _ => rfl
  have f25 : ∀ s : Wk, (wc s)[25]? = some (.int .u64 s.p.v) := fun _ => rfl
  have f28 : ∀ s : Wk, (wc s)[28]? = some (.int .i64 s.p.j) := fun _ => rfl
  have hv := ldV_wr hL (aSlab c s.p.j)
  have HR := Lib.hid hr
  have HEP := Lib.hid he
  have HAN := Lib.hid (fun w => Pl.slab c hf s.p.j w)
  clear hr he
  have x0 := h.X.cells
  go_enter Tryz.func185, Tryz.ntmps185
  go_wp2
  have hS0 : ∃ a' v', MX B w0 g gl cap gx c a' L { s with p := { s.p with v := v' } } w.drew := ⟨a, s.p.v, h.keep (Below.drew (Below.refl _ _))⟩
  refine wp_region_held_drew (S := fun w' => ∃ a' v', MX B w0 g gl cap gx c a' L { s with p := { s.p with v := v' } } w') (by kernel_rfl) hS0 (fun hHeld => ?_)
  clear h hS0 x0
  generalize w.drew = vv at *
  refine wpAnyH_take (i := 0) (oi := _) (v := .pointer (some ⟨gx, 0, none⟩)) rfl (by kernel_rfl) (by kernel_rfl) (by kernel_rfl) (fun _ _ _ h => h) (Or.inl ⟨by rfl, fun w' hSw => by go_simp⟩) hHeld ?_
  try simp only [Act.put, List.getElem_toArray, List.getElem_cons_succ, List.getElem_cons_zero, List.setIfInBounds_toArray, List.set_cons_succ, List.set_cons_zero]
  refine wpAnyH_take (i := 1) (oi := _) (v := .pointer (some ⟨g, 0, none⟩)) rfl (by kernel_rfl) (by kernel_rfl) (by kernel_rfl) (fun _ _ _ h => h) (Or.inl ⟨by rfl, fun w' hSw => by go_simp⟩) hHeld ?_
  try simp only [Act.put, List.getElem_toArray, List.getElem_cons_succ, List.getElem_cons_zero, List.setIfInBounds_toArray, List.set_cons_succ, List.set_cons_zero]
  refine wpAnyH_take (i := 2) (oi := _) (v := .pointer (some ⟨g, 0, none⟩)) rfl (by kernel_rfl) (by kernel_rfl) (by kernel_rfl) (fun _ _ _ h => h) (Or.inl ⟨by rfl, fun w' hSw => by go_simp⟩) hHeld ?_
  try simp only [Act.put, List.getElem_toArray, List.getElem_cons_succ, List.getElem_cons_zero, List.setIfInBounds_toArray, List.set_cons_succ, List.set_cons_zero]
  refine wpAnyH_take (i := 3) (oi := _) (v := .pointer (some ⟨g, 0, none⟩)) rfl (by kernel_rfl) (by kernel_rfl) (by kernel_rfl) (fun _ _ _ h => h) (Or.inl ⟨by rfl, fun w' hSw => by go_simp⟩) hHeld ?_
  try simp only [Act.put, List.getElem_toArray, List.getElem_cons_succ, List.getElem_cons_zero, List.setIfInBounds_toArray, List.set_cons_succ, List.set_cons_zero]
  refine wpAnyH_take (i := 4) (oi := _) (v := .pointer (some ⟨g, 0, none⟩)) rfl (by kernel_rfl) (by kernel_rfl) (by kernel_rfl) (fun _ _ _ h => h) (Or.inl ⟨by rfl, fun w' hSw => by go_simp⟩) hHeld ?_
  try simp only [Act.put, List.getElem_toArray, List.getElem_cons_succ, List.getElem_cons_zero, List.setIfInBounds_toArray, List.set_cons_succ, List.set_cons_zero]
  refine wpAnyH_take (i := 5) (oi := _) (v := cv c) rfl (by kernel_rfl) (by kernel_rfl) (by kernel_rfl) (fun _ _ _ h => h) (Or.inl ⟨by rfl, fun w' hSw => by obtain ⟨a', v', HS⟩ := hSw; have xx := HS.M.B.cells; go_simp⟩) hHeld ?_
  try simp only [Act.put, List.getElem_toArray, List.getElem_cons_succ, List.getElem_cons_zero, List.setIfInBounds_toArray, List.set_cons_succ, List.set_cons_zero]
  refine wpAnyH_take (i := 6) (oi := _) (v := .pointer (some ⟨gx, 0, none⟩)) rfl (by kernel_rfl) (by kernel_rfl) (by kernel_rfl) (fun _ _ _ h => h) (Or.inl ⟨by rfl, fun w' hSw => by go_simp⟩) hHeld ?_
  try simp only [Act.put, List.getElem_toArray, List.getElem_cons_succ, List.getElem_cons_zero, List.setIfInBounds_toArray, List.set_cons_succ, List.set_cons_zero]
  refine wpAnyH_take (i := 7) (oi := _) (v := .pointer (some ⟨gx, 0, none⟩)) rfl (by kernel_rfl) (by kernel_rfl) (by kernel_rfl) (fun _ _ _ h => h) (Or.inl ⟨by rfl, fun w' hSw => by go_simp⟩) hHeld ?_
  try simp only [Act.put, List.getElem_toArray, List.getElem_cons_succ, List.getElem_cons_zero, List.setIfInBounds_toArray, List.set_cons_succ, List.set_cons_zero]
  refine wpAnyH_take (i := 8) (oi := _) (v := .pointer (some ⟨gx, 28, none⟩)) rfl (by kernel_rfl) (by kernel_rfl) (by kernel_rfl) (fun _ _ _ h => h) (Or.inl ⟨by rfl, fun w' hSw => by go_simp⟩) hHeld ?_
  try simp only [Act.put, List.getElem_toArray, List.getElem_cons_succ, List.getElem_cons_zero, List.setIfInBounds_toArray, List.set_cons_succ, List.set_cons_zero]
  refine wpAnyH_take (i := 9) (oi := _) (v := .int .i64 s.p.j) rfl (by kernel_rfl) (by kernel_rfl) (by kernel_rfl) (fun _ _ _ h => h) (Or.inl ⟨by rfl, fun w' hSw => by obtain ⟨a', v', HS⟩ := hSw; have xx := HS.X.cells; go_simp⟩) hHeld ?_
  try simp only [Act.put, List.getElem_toArray, List.getElem_cons_succ, List.getElem_cons_zero, List.setIfInBounds_toArray, List.set_cons_succ, List.set_cons_zero]
  refine wpAnyH_ready (rs := [10]) (by kernel_rfl) (by simp) ?_
  refine AllReadyH.cons (o := _) rfl (fun K hK => ?_) AllReadyH.nil
  go_simp
  refine (HAN.out _).mono ?_
  rintro en z1 ⟨rfl, hb⟩
  obtain ⟨a1, v1, H1⟩ := hHeld
  refine hK.out _ _ ⟨a1, v1, H1.keep hb⟩ (fun hHeld => ?_)
  clear hK K H1 hb
  try simp only [Act.put, List.getElem_toArray, List.getElem_cons_succ, List.getElem_cons_zero, List.setIfInBounds_toArray, List.set_cons_succ, List.set_cons_zero]
  refine wpAnyH_ready (rs := [11]) (by kernel_rfl) (by simp) ?_
  refine AllReadyH.cons (o := _) rfl (fun K hK => ?_) AllReadyH.nil
  go_simp
  obtain ⟨a1, v1, H1⟩ := hHeld
  refine (load_any H1.M hm _).mono ?_
  rintro en z2 ⟨rfl, M2, T2⟩
  have H2 := H1.mem M2 T2
  refine hK.out _ _ ⟨_, v1, H2⟩ (fun hHeld => ?_)
  clear hK K H1 M2 T2
  obtain ⟨lj, hlj⟩ : ∃ v, v = ldV L (aSlab c s.p.j) := ⟨_, rfl⟩
  simp only [← hlj]
  rw [← hlj] at hv HR
  have HV := Lib.hid hlj
  clear hlj
  try simp only [Act.put, List.getElem_toArray, List.getElem_cons_succ, List.getElem_cons_zero, List.setIfInBounds_toArray, List.set_cons_succ, List.set_cons_zero]
  refine wpAnyH_take (i := 12) (oi := _) (v := .pointer (some ⟨gx, 0, none⟩)) rfl (by kernel_rfl) (by kernel_rfl) (by kernel_rfl) (fun _ _ _ h => h) (Or.inl ⟨by rfl, fun w' hSw => by go_simp⟩) hHeld ?_
  try simp only [Act.put, List.getElem_toArray, List.getElem_cons_succ, List.getElem_cons_zero, List.setIfInBounds_toArray, List.set_cons_succ, List.set_cons_zero]
  refine wpAnyH_take (i := 13) (oi := _) (v := .pointer (some ⟨gx, 25, none⟩)) rfl (by kernel_rfl) (by kernel_rfl) (by kernel_rfl) (fun _ _ _ h => h) (Or.inl ⟨by rfl, fun w' hSw => by go_simp⟩) hHeld ?_
  try simp only [Act.put, List.getElem_toArray, List.getElem_cons_succ, List.getElem_cons_zero, List.setIfInBounds_toArray, List.set_cons_succ, List.set_cons_zero]
  refine wpAnyH_ready (rs := [14]) (by kernel_rfl) (by simp) ?_
  refine AllReadyH.cons (o := _) rfl (fun K hK => ?_) AllReadyH.nil
  have x2 := H2.X.cells
  have z2f := H2.X.frozen
  have e25 : (z2.cell? ⟨gx, 25, none⟩).isSome = true := by rw [x2, f25]; rfl
  have H3 := H2.set (s' := { s with p := { s.p with v := lj } }) 25 (.int .u64 lj) rfl
  go_simp
  refine hK.out _ _ ⟨_, lj, H3⟩ (fun hHeld => ?_)
  clear hK K H2 x2 z2f e25
  try simp only [Act.put, List.getElem_toArray, List.getElem_cons_succ, List.getElem_cons_zero, List.setIfInBounds_toArray, List.set_cons_succ, List.set_cons_zero]
  refine wpAnyH_done (by kernel_rfl) ?_ _
  clear hHeld
  obtain ⟨z3, hz3⟩ : ∃ u, u = z2.setCell ⟨gx, 25, none⟩ (.int .u64 lj) := ⟨_, rfl⟩
  rw [← hz3] at H3 ⊢
  clear hz3
  have x3 := H3.X.cells
  have l3 := H3.lt
  have HRD := Lib.hid (fun w => HR.out ▸ ready lj s.p.ep hv.1 hv.2 HEP.out w)
  clear hv
  go_wp2
  refine wp_region_grown (by kernel_rfl) (by kernel_rfl) ?_
  have hg := @gcell
  repeat (go_big_quiet_step (exact grown_of (HRD.out _)))
  refine wpQuiet_nil ?_
  rintro w5 ⟨⟨_, hb5⟩, rfl⟩
  clear hg
  have H5 := H3.keep hb5
  clear x3 l3 H3 hb5
  have H6 := H5.set (s' := { s with p := { s.p with v := lj, ln := 34 } }) 0 (.int .i64 34) rfl
  have xw5 := H5.X.cells
  have zw5 := H5.X.frozen
  have ew5_0 : (w5.cell? ⟨gx, 0, none⟩).isSome = true := by rw [xw5, f0]; rfl
  go_wp2
  go_ret
  have e1 := HV.out
  subst e1
  exact ⟨rfl, H6⟩
set_option maxRecDepth 10000 in
set_option maxHeartbeats 4000000 in
theorem sll33r {B : Nat} {w0 w : World} {g gl cap gx : Nat} {c : Cfg} {a : Acc} {L : List Int} {s : Wk} (h : MX B w0 g gl cap gx c a L s w) (hm : L.length ≤ 1000) (hL : WR L) (hf : c.Wf) (he : s.p.ep < 18446744073709551616) (hl : s.p.ln = 33) (hr : rdyB (ldV L (aSlab c s.p.j)) s.p.ep = true) : Calls Tryz.prog 157 #[.pointer (some ⟨g, 0, none⟩), .pointer (some ⟨gx, 0, none⟩)] w (LP B w0 g gl cap gx c ⟨acc L 1 (aSlab c s.p.j) 0 0, L, { s.p with v := ldV L (aSlab c s.p.j), ln := 34 }, 0, true⟩ s) := by
  have HC := Lib.hid (slLookr h hm hL hf he hr)
  clear hr
  have f0 : ∀ s : Wk, (wc s)[0]? = some (.int .i64 s.p.ln) := fun _ => rfl
  have t30 : (s.p.ln == 30) = false := by simp [hl]
  have t31 : (s.p.ln == 31) = false := by simp [hl]
  have t32 : (s.p.ln == 32) = false := by simp [hl]
  have t33 : (s.p.ln == 33) = true := by simp [hl]
  have x0 := h.X.cells
  clear hl
  go_enter Tryz.func157, Tryz.ntmps157
  go_wp2_with fail
  refine HC.out.mono ?_
  rintro en w1 ⟨rfl, H1⟩
  go_wp2
  go_ret2
  exact ⟨rfl, H1⟩
set_option maxRecDepth 10000 in
set_option maxHeartbeats 4000000 in
theorem slLookg {B : Nat} {w0 w : World} {g gl cap gx : Nat} {c : Cfg} {a : Acc} {L : List Int} {s : Wk} (h : MX B w0 g gl cap gx c a L s w) (hm : L.length ≤ 1000) (hL : WR L) (hf : c.Wf) (he : s.p.ep < 18446744073709551616) (hr : rdyB (ldV L (aSlab c s.p.j)) s.p.ep = false) (hj : c.sl ≤ wrap64 (s.p.j + 1)) : Calls Tryz.prog 185 #[.pointer (some ⟨g, 0, none⟩), .pointer (some ⟨gx, 0, none⟩)] w fun e w' => e = .returned (.int .i64 2) ∧ MX B w0 g gl cap gx c (acc L 1 (aSlab c s.p.j) 0 0) (L) { s with p := { s.p with v := ldV L (aSlab c s.p.j), j := wrap64 (s.p.j + 1) } } w' := by
  have f0 : ∀ s : Wk, (wc s)[0]? = some (.int .i64 s.p.ln) := fun _ => rfl
  have f9 : ∀ s : Wk, (wc s)[9]? = some (.int .u64 s.p.ep) := fun _ => rfl
  have f25 : ∀ s : Wk, (wc s)[25]? = some (.int .u64 s.p.v) := fun _ => rfl
  have f28 : ∀ s : Wk, (wc s)[28]? = some (.int .i64 s.p.j) := fun _ => rfl
  have hv := ldV_wr hL (aSlab c s.p.j)
  have HR := Lib.hid hr
  have HEP := Lib.hid he
  have HAN := Lib.hid (fun w => Pl.slab c hf s.p.j w)
  clear hr he
  have hd : decide (c.sl ≤ wrap64 (s.p.j + 1)) = true := by simp [hj]
  clear hj
  have x0 := h.X.cells
  go_enter Tryz.func185, Tryz.ntmps185
  go_wp2
  have hS0 : ∃ a' v', MX B w0 g gl cap gx c a' L { s with p := { s.p with v := v' } } w.drew := ⟨a, s.p.v, h.keep (Below.drew (Below.refl _ _))⟩
  refine wp_region_held_drew (S := fun w' => ∃ a' v', MX B w0 g gl cap gx c a' L { s with p := { s.p with v := v' } } w') (by kernel_rfl) hS0 (fun hHeld => ?_)
  clear h hS0 x0
  generalize w.drew = vv at *
  refine wpAnyH_take (i := 0) (oi := _) (v := .pointer (some ⟨gx, 0, none⟩)) rfl (by kernel_rfl) (by kernel_rfl) (by kernel_rfl) (fun _ _ _ h => h) (Or.inl ⟨by rfl, fun w' hSw => by go_simp⟩) hHeld ?_
  try simp only [Act.put, List.getElem_toArray, List.getElem_cons_succ, List.getElem_cons_zero, List.setIfInBounds_toArray, List.set_cons_succ, List.set_cons_zero]
  refine wpAnyH_take (i := 1) (oi := _) (v := .pointer (some ⟨g, 0, none⟩)) rfl (by kernel_rfl) (by kernel_rfl) (by kernel_rfl) (fun _ _ _ h => h) (Or.inl ⟨by rfl, fun w' hSw => by go_simp⟩) hHeld ?_
  try simp only [Act.put, List.getElem_toArray, List.getElem_cons_succ, List.getElem_cons_zero, List.setIfInBounds_toArray, List.set_cons_succ, List.set_cons_zero]
  refine wpAnyH_take (i := 2) (oi := _) (v := .pointer (some ⟨g, 0, none⟩)) rfl (by kernel_rfl) (by kernel_rfl) (by kernel_rfl) (fun _ _ _ h => h) (Or.inl ⟨by rfl, fun w' hSw => by go_simp⟩) hHeld ?_
  try simp only [Act.put, List.getElem_toArray, List.getElem_cons_succ, List.getElem_cons_zero, List.setIfInBounds_toArray, List.set_cons_succ, List.set_cons_zero]
  refine wpAnyH_take (i := 3) (oi := _) (v := .pointer (some ⟨g, 0, none⟩)) rfl (by kernel_rfl) (by kernel_rfl) (by kernel_rfl) (fun _ _ _ h => h) (Or.inl ⟨by rfl, fun w' hSw => by go_simp⟩) hHeld ?_
  try simp only [Act.put, List.getElem_toArray, List.getElem_cons_succ, List.getElem_cons_zero, List.setIfInBounds_toArray, List.set_cons_succ, List.set_cons_zero]
  refine wpAnyH_take (i := 4) (oi := _) (v := .pointer (some ⟨g, 0, none⟩)) rfl (by kernel_rfl) (by kernel_rfl) (by kernel_rfl) (fun _ _ _ h => h) (Or.inl ⟨by rfl, fun w' hSw => by go_simp⟩) hHeld ?_
  try simp only [Act.put, List.getElem_toArray, List.getElem_cons_succ, List.getElem_cons_zero, List.setIfInBounds_toArray, List.set_cons_succ, List.set_cons_zero]
  refine wpAnyH_take (i := 5) (oi := _) (v := cv c) rfl (by kernel_rfl) (by kernel_rfl) (by kernel_rfl) (fun _ _ _ h => h) (Or.inl ⟨by rfl, fun w' hSw => by obtain ⟨a', v', HS⟩ := hSw; have xx := HS.M.B.cells; go_simp⟩) hHeld ?_
  try simp only [Act.put, List.getElem_toArray, List.getElem_cons_succ, List.getElem_cons_zero, List.setIfInBounds_toArray, List.set_cons_succ, List.set_cons_zero]
  refine wpAnyH_take (i := 6) (oi := _) (v := .pointer (some ⟨gx, 0, none⟩)) rfl (by kernel_rfl) (by kernel_rfl) (by kernel_rfl) (fun _ _ _ h => h) (Or.inl ⟨by rfl, fun w' hSw => by go_simp⟩) hHeld ?_
  try simp only [Act.put, List.getElem_toArray, List.getElem_cons_succ, List.getElem_cons_zero, List.setIfInBounds_toArray, List.set_cons_succ, List.set_cons_zero]
  refine wpAnyH_take (i := 7) (oi := _) (v := .pointer (some ⟨gx, 0, none⟩)) rfl (by kernel_rfl) (by kernel_rfl) (by kernel_rfl) (fun _ _ _ h => h) (Or.inl ⟨by rfl, fun w' hSw => by go_simp⟩) hHeld ?_
  try simp only [Act.put, List.getElem_toArray, List.getElem_cons_succ, List.getElem_cons_zero, List.setIfInBounds_toArray, List.set_cons_succ, List.set_cons_zero]
  refine wpAnyH_take (i := 8) (oi := _) (v := .pointer (some ⟨gx, 28, none⟩)) rfl (by kernel_rfl) (by kernel_rfl) (by kernel_rfl) (fun _ _ _ h => h) (Or.inl ⟨by rfl, fun w' hSw => by go_simp⟩) hHeld ?_
  try simp only [Act.put, List.getElem_toArray, List.getElem_cons_succ, List.getElem_cons_zero, List.setIfInBounds_toArray, List.set_cons_succ, List.set_cons_zero]
  refine wpAnyH_take (i := 9) (oi := _) (v := .int .i64 s.p.j) rfl (by kernel_rfl) (by kernel_rfl) (by kernel_rfl) (fun _ _ _ h => h) (Or.inl ⟨by rfl, fun w' hSw => by obtain ⟨a', v', HS⟩ := hSw; have xx := HS.X.cells; go_simp⟩) hHeld ?_
  try simp only [Act.put, List.getElem_toArray, List.getElem_cons_succ, List.getElem_cons_zero, List.setIfInBounds_toArray, List.set_cons_succ, List.set_cons_zero]
  refine wpAnyH_ready (rs := [10]) (by kernel_rfl) (by simp) ?_
  refine AllReadyH.cons (o := _) rfl (fun K hK => ?_) AllReadyH.nil
  go_simp
  refine (HAN.out _).mono ?_
  rintro en z1 ⟨rfl, hb⟩
  obtain ⟨a1, v1, H1⟩ := hHeld
  refine hK.out _ _ ⟨a1, v1, H1.keep hb⟩ (fun hHeld => ?_)
  clear hK K H1 hb
  try simp only [Act.put, List.getElem_toArray, List.getElem_cons_succ, List.getElem_cons_zero, List.setIfInBounds_toArray, List.set_cons_succ, List.set_cons_zero]
  refine wpAnyH_ready (rs := [11]) (by kernel_rfl) (by simp) ?_
  refine AllReadyH.cons (o := _) rfl (fun K hK => ?_) AllReadyH.nil
  go_simp
  obtain ⟨a1, v1, H1⟩ := hHeld
  refine (load_any H1.M hm _).mono ?_
  rintro en z2 ⟨rfl, M2, T2⟩
  have H2 := H1.mem M2 T2
  refine hK.out _ _ ⟨_, v1, H2⟩ (fun hHeld => ?_)
  clear hK K H1 M2 T2
  obtain ⟨lj, hlj⟩ : ∃ v, v = ldV L (aSlab c s.p.j) := ⟨_, rfl⟩
  simp only [← hlj]
  rw [← hlj] at hv HR
  have HV := Lib.hid hlj
  clear hlj
  try simp only [Act.put, List.getElem_toArray, List.getElem_cons_succ, List.getElem_cons_zero, List.setIfInBounds_toArray, List.set_cons_succ, List.set_cons_zero]
  refine wpAnyH_take (i := 12) (oi := _) (v := .pointer (some ⟨gx, 0, none⟩)) rfl (by kernel_rfl) (by kernel_rfl) (by kernel_rfl) (fun _ _ _ h => h) (Or.inl ⟨by rfl, fun w' hSw => by go_simp⟩) hHeld ?_
  try simp only [Act.put, List.getElem_toArray, List.getElem_cons_succ, List.getElem_cons_zero, List.setIfInBounds_toArray, List.set_cons_succ, List.set_cons_zero]
  refine wpAnyH_take (i := 13) (oi := _) (v := .pointer (some ⟨gx, 25, none⟩)) rfl (by kernel_rfl) (by kernel_rfl) (by kernel_rfl) (fun _ _ _ h => h) (Or.inl ⟨by rfl, fun w' hSw => by go_simp⟩) hHeld ?_
  try simp only [Act.put, List.getElem_toArray, List.getElem_cons_succ, List.getElem_cons_zero, List.setIfInBounds_toArray, List.set_cons_succ, List.set_cons_zero]
  refine wpAnyH_ready (rs := [14]) (by kernel_rfl) (by simp) ?_
  refine AllReadyH.cons (o := _) rfl (fun K hK => ?_) AllReadyH.nil
  have x2 := H2.X.cells
  have z2f := H2.X.frozen
  have e25 : (z2.cell? ⟨gx, 25, none⟩).isSome = true := by rw [x2, f25]; rfl
  have H3 := H2.set (s' := { s with p := { s.p with v := lj } }) 25 (.int .u64 lj) rfl
  go_simp
  refine hK.out _ _ ⟨_, lj, H3⟩ (fun hHeld => ?_)
  clear hK K H2 x2 z2f e25
  try simp only [Act.put, List.getElem_toArray, List.getElem_cons_succ, List.getElem_cons_zero, List.setIfInBounds_toArray, List.set_cons_succ, List.set_cons_zero]
  refine wpAnyH_done (by kernel_rfl) ?_ _
  clear hHeld
  obtain ⟨z3, hz3⟩ : ∃ u, u = z2.setCell ⟨gx, 25, none⟩ (.int .u64 lj) := ⟨_, rfl⟩
  rw [← hz3] at H3 ⊢
  clear hz3
  have x3 := H3.X.cells
  have l3 := H3.lt
  have HRD := Lib.hid (fun w => HR.out ▸ ready lj s.p.ep hv.1 hv.2 HEP.out w)
  clear hv
  go_wp2
  refine wp_region_grown (by kernel_rfl) (by kernel_rfl) ?_
  have hg := @gcell
  repeat (go_big_quiet_step (exact grown_of (HRD.out _)))
  refine wpQuiet_nil ?_
  rintro w5 ⟨⟨_, hb5⟩, rfl⟩
  clear hg
  have H5 := H3.keep hb5
  clear x3 l3 H3 hb5
  have H6 := H5.set (s' := { s with p := { s.p with v := lj, j := wrap64 (s.p.j + 1) } }) 28 (.int .i64 (wrap64 (s.p.j + 1))) rfl
  have xw5 := H5.X.cells
  have zw5 := H5.X.frozen
  have ew5_28 : (w5.cell? ⟨gx, 28, none⟩).isSome = true := by rw [xw5, f28]; rfl
  go_wp2
  generalize w5.setCell ⟨gx, 28, none⟩ (.int .i64 (wrap64 (s.p.j + 1))) = w6 at *
  clear xw5 zw5 ew5_28 H5
  have x6 := H6.X.cells
  have m6 := H6.M.B.cells
  have lx6 := H6.lt
  have lg6 := H6.M.lt.1
  refine wp_region_grown (by kernel_rfl) (by kernel_rfl) ?_
  have hg := @gcell
  repeat (go_big_quiet_step (fail))
  refine wpQuiet_nil ?_
  rintro w7 ⟨⟨_, hb7⟩, rfl⟩
  clear hg
  have H7 := H6.keep hb7
  clear x6 m6 lx6 lg6 H6 hb7
  go_wp2
  go_ret
  have e1 := HV.out
  subst e1
  exact ⟨rfl, H7⟩
set_option maxRecDepth 10000 in
set_option maxHeartbeats 4000000 in
theorem sll33g {B : Nat} {w0 w : World} {g gl cap gx : Nat} {c : Cfg} {a : Acc} {L : List Int} {s : Wk} (h : MX B w0 g gl cap gx c a L s w) (hm : L.length ≤ 1000) (hL : WR L) (hf : c.Wf) (he : s.p.ep < 18446744073709551616) (hl : s.p.ln = 33) (hr : rdyB (ldV L (aSlab c s.p.j)) s.p.ep = false) (hj : c.sl ≤ wrap64 (s.p.j + 1)) : Calls Tryz.prog 157 #[.pointer (some ⟨g, 0, none⟩), .pointer (some ⟨gx, 0, none⟩)] w (LP B w0 g gl cap gx c ⟨acc L 1 (aSlab c s.p.j) 0 0, L, { s.p with v := ldV L (aSlab c s.p.j), j := wrap64 (s.p.j + 1) }, 2, true⟩ s) := by
  have HC := Lib.hid (slLookg h hm hL hf he hr hj)
  clear hr hj
  have f0 : ∀ s : Wk, (wc s)[0]? = some (.int .i64 s.p.ln) := fun _ => rfl
  have t30 : (s.p.ln == 30) = false := by simp [hl]
  have t31 : (s.p.ln == 31) = false := by simp [hl]
  have t32 : (s.p.ln == 32) = false := by simp [hl]
  have t33 : (s.p.ln == 33) = true := by simp [hl]
  have x0 := h.X.cells
  clear hl
  go_enter Tryz.func157, Tryz.ntmps157
  go_wp2_with fail
  refine HC.out.mono ?_
  rintro en w1 ⟨rfl, H1⟩
  go_wp2
  go_ret2
  exact ⟨rfl, H1⟩
set_option maxRecDepth 10000 in
set_option maxHeartbeats 4000000 in
theorem slLookn {B : Nat} {w0 w : World} {g gl cap gx : Nat} {c : Cfg} {a : Acc} {L : List Int} {s : Wk} (h : MX B w0 g gl cap gx c a L s w) (hm : L.length ≤ 1000) (hL : WR L) (hf : c.Wf) (he : s.p.ep < 18446744073709551616) (hr : rdyB (ldV L (aSlab c s.p.j)) s.p.ep = false) (hj : ¬ c.sl ≤ wrap64 (s.p.j + 1)) : Calls Tryz.prog 185 #[.pointer (some ⟨g, 0, none⟩), .pointer (some ⟨gx, 0, none⟩)] w fun e w' => e = .returned (.int .i64 0) ∧ MX B w0 g gl cap gx c (acc L 1 (aSlab c s.p.j) 0 0) (L) { s with p := { s.p with v := ldV L (aSlab c s.p.j), j := wrap64 (s.p.j + 1) } } w' := by
  have f0 : ∀ s : Wk, (wc s)[0]? = some (.int .i64 s.p.ln) := fun _ => rfl
  have f9 : ∀ s : Wk, (wc s)[9]? = some (.int .u64 s.p.ep) := fun _ => rfl
  have f25 : ∀ s : Wk, (wc s)[25]? = some (.int .u64 s.p.v) := fun _ => rfl
  have f28 : ∀ s : Wk, (wc s)[28]? = some (.int .i64 s.p.j) := fun _ => rfl
  have hv := ldV_wr hL (aSlab c s.p.j)
  have HR := Lib.hid hr
  have HEP := Lib.hid he
  have HAN := Lib.hid (fun w => Pl.slab c hf s.p.j w)
  clear hr he
  have hd : decide (c.sl ≤ wrap64 (s.p.j + 1)) = false := by simp; omega
  clear hj
  have x0 := h.X.cells
  go_enter Tryz.func185, Tryz.ntmps185
  go_wp2
  have hS0 : ∃ a' v', MX B w0 g gl cap gx c a' L { s with p := { s.p with v := v' } } w.drew := ⟨a, s.p.v, h.keep (Below.drew (Below.refl _ _))⟩
  refine wp_region_held_drew (S := fun w' => ∃ a' v', MX B w0 g gl cap gx c a' L { s with p := { s.p with v := v' } } w') (by kernel_rfl) hS0 (fun hHeld => ?_)
  clear h hS0 x0
  generalize w.drew = vv at *
  refine wpAnyH_take (i := 0) (oi := _) (v := .pointer (some ⟨gx, 0, none⟩)) rfl (by kernel_rfl) (by kernel_rfl) (by kernel_rfl) (fun _ _ _ h => h) (Or.inl ⟨by rfl, fun w' hSw => by go_simp⟩) hHeld ?_
  try simp only [Act.put, List.getElem_toArray, List.getElem_cons_succ, List.getElem_cons_zero, List.setIfInBounds_toArray, List.set_cons_succ, List.set_cons_zero]
  refine wpAnyH_take (i := 1) (oi := _) (v := .pointer (some ⟨g, 0, none⟩)) rfl (by kernel_rfl) (by kernel_rfl) (by kernel_rfl) (fun _ _ _ h => h) (Or.inl ⟨by rfl, fun w' hSw => by go_simp⟩) hHeld ?_
  try simp only [Act.put, List.getElem_toArray, List.getElem_cons_succ, List.getElem_cons_zero, List.setIfInBounds_toArray, List.set_cons_succ, List.set_cons_zero]
  refine wpAnyH_take (i := 2) (oi := _) (v := .pointer (some ⟨g, 0, none⟩)) rfl (by kernel_rfl) (by kernel_rfl) (by kernel_rfl) (fun _ _ _ h => h) (Or.inl ⟨by rfl, fun w' hSw => by go_simp⟩) hHeld ?_
  try simp only [Act.put, List.getElem_toArray, List.getElem_cons_succ, List.getElem_cons_zero, List.setIfInBounds_toArray, List.set_cons_succ, List.set_cons_zero]
  refine wpAnyH_take (i := 3) (oi := _) (v := .pointer (some ⟨g, 0, none⟩)) rfl (by kernel_rfl) (by kernel_rfl) (by kernel_rfl) (fun _ _ _ h => h) (Or.inl ⟨by rfl, fun w' hSw => by go_simp⟩) hHeld ?_
  try simp only [Act.put, List.getElem_toArray, List.getElem_cons_succ, List.getElem_cons_zero, List.setIfInBounds_toArray, List.set_cons_succ, List.set_cons_zero]
  refine wpAnyH_take (i := 4) (oi := _) (v := .pointer (some ⟨g, 0, none⟩)) rfl (by kernel_rfl) (by kernel_rfl) (by kernel_rfl) (fun _ _ _ h => h) (Or.inl ⟨by rfl, fun w' hSw => by go_simp⟩) hHeld ?_
  try simp only [Act.put, List.getElem_toArray, List.getElem_cons_succ, List.getElem_cons_zero, List.setIfInBounds_toArray, List.set_cons_succ, List.set_cons_zero]
  refine wpAnyH_take (i := 5) (oi := _) (v := cv c) rfl (by kernel_rfl) (by kernel_rfl) (by kernel_rfl) (fun _ _ _ h => h) (Or.inl ⟨by rfl, fun w' hSw => by obtain ⟨a', v', HS⟩ := hSw; have xx := HS.M.B.cells; go_simp⟩) hHeld ?_
  try simp only [Act.put, List.getElem_toArray, List.getElem_cons_succ, List.getElem_cons_zero, List.setIfInBounds_toArray, List.set_cons_succ, List.set_cons_zero]
  refine wpAnyH_take (i := 6) (oi := _) (v := .pointer (some ⟨gx, 0, none⟩)) rfl (by kernel_rfl) (by kernel_rfl) (by kernel_rfl) (fun _ _ _ h => h) (Or.inl ⟨by rfl, fun w' hSw => by go_simp⟩) hHeld ?_
  try simp only [Act.put, List.getElem_toArray, List.getElem_cons_succ, List.getElem_cons_zero, List.setIfInBounds_toArray, List.set_cons_succ, List.set_cons_zero]
  refine wpAnyH_take (i := 7) (oi := _) (v := .pointer (some ⟨gx, 0, none⟩)) rfl (by kernel_rfl) (by kernel_rfl) (by kernel_rfl) (fun _ _ _ h => h) (Or.inl ⟨by rfl, fun w' hSw => by go_simp⟩) hHeld ?_
  try simp only [Act.put, List.getElem_toArray, List.getElem_cons_succ, List.getElem_cons_zero, List.setIfInBounds_toArray, List.set_cons_succ, List.set_cons_zero]
  refine wpAnyH_take (i := 8) (oi := _) (v := .pointer (some ⟨gx, 28, none⟩)) rfl (by kernel_rfl) (by kernel_rfl) (by kernel_rfl) (fun _ _ _ h => h) (Or.inl ⟨by rfl, fun w' hSw => by go_simp⟩) hHeld ?_
  try simp only [Act.put, List.getElem_toArray, List.getElem_cons_succ, List.getElem_cons_zero, List.setIfInBounds_toArray, List.set_cons_succ, List.set_cons_zero]
  refine wpAnyH_take (i := 9) (oi := _) (v := .int .i64 s.p.j) rfl (by kernel_rfl) (by kernel_rfl) (by kernel_rfl) (fun _ _ _ h => h) (Or.inl ⟨by rfl, fun w' hSw => by obtain ⟨a', v', HS⟩ := hSw; have xx := HS.X.cells; go_simp⟩) hHeld ?_
  try simp only [Act.put, List.getElem_toArray, List.getElem_cons_succ, List.getElem_cons_zero, List.setIfInBounds_toArray, List.set_cons_succ, List.set_cons_zero]
  refine wpAnyH_ready (rs := [10]) (by kernel_rfl) (by simp) ?_
  refine AllReadyH.cons (o := _) rfl (fun K hK => ?_) AllReadyH.nil
  go_simp
  refine (HAN.out _).mono ?_
  rintro en z1 ⟨rfl, hb⟩
  obtain ⟨a1, v1, H1⟩ := hHeld
  refine hK.out _ _ ⟨a1, v1, H1.keep hb⟩ (fun hHeld => ?_)
  clear hK K H1 hb
  try simp only [Act.put, List.getElem_toArray, List.getElem_cons_succ, List.getElem_cons_zero, List.setIfInBounds_toArray, List.set_cons_succ, List.set_cons_zero]
  refine wpAnyH_ready (rs := [11]) (by kernel_rfl) (by simp) ?_
  refine AllReadyH.cons (o := _) rfl (fun K hK => ?_) AllReadyH.nil
  go_simp
  obtain ⟨a1, v1, H1⟩ := hHeld
  refine (load_any H1.M hm _).mono ?_
  rintro en z2 ⟨rfl, M2, T2⟩
  have H2 := H1.mem M2 T2
  refine hK.out _ _ ⟨_, v1, H2⟩ (fun hHeld => ?_)
  clear hK K H1 M2 T2
  obtain ⟨lj, hlj⟩ : ∃ v, v = ldV L (aSlab c s.p.j) := ⟨_, rfl⟩
  simp only [← hlj]
  rw [← hlj] at hv HR
  have HV := Lib.hid hlj
  clear hlj
  try simp only [Act.put, List.getElem_toArray, List.getElem_cons_succ, List.getElem_cons_zero, List.setIfInBounds_toArray, List.set_cons_succ, List.set_cons_zero]
  refine wpAnyH_take (i := 12) (oi := _) (v := .pointer (some ⟨gx, 0, none⟩)) rfl (by kernel_rfl) (by kernel_rfl) (by kernel_rfl) (fun _ _ _ h => h) (Or.inl ⟨by rfl, fun w' hSw => by go_simp⟩) hHeld ?_
  try simp only [Act.put, List.getElem_toArray, List.getElem_cons_succ, List.getElem_cons_zero, List.setIfInBounds_toArray, List.set_cons_succ, List.set_cons_zero]
  refine wpAnyH_take (i := 13) (oi := _) (v := .pointer (some ⟨gx, 25, none⟩)) rfl (by kernel_rfl) (by kernel_rfl) (by kernel_rfl) (fun _ _ _ h => h) (Or.inl ⟨by rfl, fun w' hSw => by go_simp⟩) hHeld ?_
  try simp only [Act.put, List.getElem_toArray, List.getElem_cons_succ, List.getElem_cons_zero, List.setIfInBounds_toArray, List.set_cons_succ, List.set_cons_zero]
  refine wpAnyH_ready (rs := [14]) (by kernel_rfl) (by simp) ?_
  refine AllReadyH.cons (o := _) rfl (fun K hK => ?_) AllReadyH.nil
  have x2 := H2.X.cells
  have z2f := H2.X.frozen
  have e25 : (z2.cell? ⟨gx, 25, none⟩).isSome = true := by rw [x2, f25]; rfl
  have H3 := H2.set (s' := { s with p := { s.p with v := lj } }) 25 (.int .u64 lj) rfl
  go_simp
  refine hK.out _ _ ⟨_, lj, H3⟩ (fun hHeld => ?_)
  clear hK K H2 x2 z2f e25
  try simp only [Act.put, List.getElem_toArray, List.getElem_cons_succ, List.getElem_cons_zero, List.setIfInBounds_toArray, List.set_cons_succ, List.set_cons_zero]
  refine wpAnyH_done (by kernel_rfl) ?_ _
  clear hHeld
  obtain ⟨z3, hz3⟩ : ∃ u, u = z2.setCell ⟨gx, 25, none⟩ (.int .u64 lj) := ⟨_, rfl⟩
  rw [← hz3] at H3 ⊢
  clear hz3
  have x3 := H3.X.cells
  have l3 := H3.lt
  have HRD := Lib.hid (fun w => HR.out ▸ ready lj s.p.ep hv.1 hv.2 HEP.out w)
  clear hv
  go_wp2
  refine wp_region_grown (by kernel_rfl) (by kernel_rfl) ?_
  have hg := @gcell
  repeat (go_big_quiet_step (exact grown_of (HRD.out _)))
  refine wpQuiet_nil ?_
  rintro w5 ⟨⟨_, hb5⟩, rfl⟩
  clear hg
  have H5 := H3.keep hb5
  clear x3 l3 H3 hb5
  have H6 := H5.set (s' := { s with p := { s.p with v := lj, j := wrap64 (s.p.j + 1) } }) 28 (.int .i64 (wrap64 (s.p.j + 1))) rfl
  have xw5 := H5.X.cells
  have zw5 := H5.X.frozen
  have ew5_28 : (w5.cell? ⟨gx, 28, none⟩).isSome = true := by rw [xw5, f28]; rfl
  go_wp2
  generalize w5.setCell ⟨gx, 28, none⟩ (.int .i64 (wrap64 (s.p.j + 1))) = w6 at *
  clear xw5 zw5 ew5_28 H5
  have x6 := H6.X.cells
  have m6 := H6.M.B.cells
  have lx6 := H6.lt
  have lg6 := H6.M.lt.1
  refine wp_region_grown (by kernel_rfl) (by kernel_rfl) ?_
  have hg := @gcell
  repeat (go_big_quiet_step (fail))
  refine wpQuiet_nil ?_
  rintro w7 ⟨⟨_, hb7⟩, rfl⟩
  clear hg
  have H7 := H6.keep hb7
  clear x6 m6 lx6 lg6 H6 hb7
  go_wp2
  go_ret
  have e1 := HV.out
  subst e1
  exact ⟨rfl, H7⟩
set_option maxRecDepth 10000 in
set_option maxHeartbeats 4000000 in
theorem sll33n {B : Nat} {w0 w : World} {g gl cap gx : Nat} {c : Cfg} {a : Acc} {L : List Int} {s : Wk} (h : MX B w0 g gl cap gx c a L s w) (hm : L.length ≤ 1000) (hL : WR L) (hf : c.Wf) (he : s.p.ep < 18446744073709551616) (hl : s.p.ln = 33) (hr : rdyB (ldV L (aSlab c s.p.j)) s.p.ep = false) (hj : ¬ c.sl ≤ wrap64 (s.p.j + 1)) : Calls Tryz.prog 157 #[.pointer (some ⟨g, 0, none⟩), .pointer (some ⟨gx, 0, none⟩)] w (LP B w0 g gl cap gx c ⟨acc L 1 (aSlab c s.p.j) 0 0, L, { s.p with v := ldV L (aSlab c s.p.j), j := wrap64 (s.p.j + 1) }, 0, true⟩ s) := by
  have HC := Lib.hid (slLookn h hm hL hf he hr hj)
  clear hr hj
  have f0 : ∀ s : Wk, (wc s)[0]? = some (.int .i64 s.p.ln) := fun _ => rfl
  have t30 : (s.p.ln == 30) = false := by simp [hl]
  have t31 : (s.p.ln == 31) = false := by simp [hl]
  have t32 : (s.p.ln == 32) = false := by simp [hl]
  have t33 : (s.p.ln == 33) = true := by simp [hl]
  have x0 := h.X.cells
  clear hl
  go_enter Tryz.func157, Tryz.ntmps157
  go_wp2_with fail
  refine HC.out.mono ?_
  rintro en w1 ⟨rfl, H1⟩
  go_wp2
  go_ret2
  exact ⟨rfl, H1⟩
set_option maxRecDepth 10000 in
set_option maxHeartbeats 4000000 in
theorem slChangeY {B : Nat} {w0 w : World} {g gl cap gx : Nat} {c : Cfg} {a : Acc} {L : List Int} {s : Wk} (h : MX B w0 g gl cap gx c a L s w) (hm : L.length ≤ 1000) (hL : WR L) (hf : c.Wf) (jj st : Int) (hst : Pk.sl st 0 0 = st) (hb : csB L (aSlab c jj) s.p.v = true) : Calls Tryz.prog 186 #[.pointer (some ⟨g, 0, none⟩), .pointer (some ⟨gx, 0, none⟩), .int .i64 jj, .int .i64 st] w fun e w' => e = .returned (.int .i64 1) ∧ MX B w0 g gl cap gx c (acc L 3 (aSlab c jj) s.p.v st) (csL L (aSlab c jj) s.p.v st) s w' := by
  have f25 : ∀ s : Wk, (wc s)[25]? = some (.int .u64 s.p.v) := fun _ => rfl
  have HB := Lib.hid hb
  have HST := Lib.hid hst
  have HAN := Lib.hid (fun w => Pl.slab c hf jj w)
  have x0 := h.X.cells
  have m0 := h.M.B.cells
  have lx := h.lt
  have lg := h.M.lt.1
  clear hb hst
  go_enter Tryz.func186, Tryz.ntmps186
  go_wp2
  refine wp_region_grown_tail 13 (by kernel_rfl) (by kernel_rfl) ?_
  simp only [List.take_succ_cons, List.take_zero, List.drop_succ_cons, List.drop_zero]
  have hg := @gcell
  repeat (go_big_quiet_step (first | exact grown_of (HAN.out _) | exact grown_same (Pk.slab st 0 0 _)))
  refine wpQuiet_nil ?_
  rintro w1 ⟨⟨_, hb1⟩, rfl⟩
  clear hg
  rw [HST.out]
  have H1 := h.keep hb1
  have hcas := cas_any H1.M hm (aSlab c jj) s.p.v st
  rw [HB.out] at hcas
  have HCA := Lib.hid hcas
  clear hcas x0 m0 lx lg h hb1
  go_wp2_with fail
  refine HCA.out.mono ?_
  rintro en w2 ⟨rfl, M2, T2⟩
  have H2 := H1.mem M2 T2
  go_wp2
  go_ret
  exact ⟨rfl, H2⟩
set_option maxRecDepth 10000 in
set_option maxHeartbeats 4000000 in
theorem sll34y {B : Nat} {w0 w : World} {g gl cap gx : Nat} {c : Cfg} {a : Acc} {L : List Int} {s : Wk} (h : MX B w0 g gl cap gx c a L s w) (hm : L.length ≤ 1000) (hL : WR L) (hf : c.Wf) (hl : s.p.ln = 34) (hb : csB L (aSlab c s.p.j) s.p.v = true) : Calls Tryz.prog 157 #[.pointer (some ⟨g, 0, none⟩), .pointer (some ⟨gx, 0, none⟩)] w (LP B w0 g gl cap gx c ⟨acc L 3 (aSlab c s.p.j) s.p.v 1, csL L (aSlab c s.p.j) s.p.v 1, s.p, 1, true⟩ s) := by
  have HC := Lib.hid (slChangeY h hm hL hf s.p.j 1 (by decide) hb)
  clear hb
  have f0 : ∀ s : Wk, (wc s)[0]? = some (.int .i64 s.p.ln) := fun _ => rfl
  have f28 : ∀ s : Wk, (wc s)[28]? = some (.int .i64 s.p.j) := fun _ => rfl
  have t30 : (s.p.ln == 30) = false := by simp [hl]
  have t31 : (s.p.ln == 31) = false := by simp [hl]
  have t32 : (s.p.ln == 32) = false := by simp [hl]
  have t33 : (s.p.ln == 33) = false := by simp [hl]
  have t34 : (s.p.ln == 34) = true := by simp [hl]
  have x0 := h.X.cells
  clear hl
  go_enter Tryz.func157, Tryz.ntmps157
  go_wp2_with fail
  refine HC.out.mono ?_
  rintro en w1 ⟨rfl, H1⟩
  go_wp2
  go_ret2
  exact ⟨rfl, H1⟩
set_option maxRecDepth 10000 in
set_option maxHeartbeats 4000000 in
theorem sll37y {B : Nat} {w0 w : World} {g gl cap gx : Nat} {c : Cfg} {a : Acc} {L : List Int} {s : Wk} (h : MX B w0 g gl cap gx c a L s w) (hm : L.length ≤ 1000) (hL : WR L) (hf : c.Wf) (hl : s.p.ln = 37) (hb : csB L (aSlab c s.p.o3) s.p.v = true) : Calls Tryz.prog 157 #[.pointer (some ⟨g, 0, none⟩), .pointer (some ⟨gx, 0, none⟩)] w (LP B w0 g gl cap gx c ⟨acc L 3 (aSlab c s.p.o3) s.p.v 2, csL L (aSlab c s.p.o3) s.p.v 2, s.p, 1, true⟩ s) := by
  have HC := Lib.hid (slChangeY h hm hL hf s.p.o3 2 (by decide) hb)
  clear hb
  have f0 : ∀ s : Wk, (wc s)[0]? = some (.int .i64 s.p.ln) := fun _ => rfl
  have f4 : ∀ s : Wk, (wc s)[4]? = some (.int .i64 s.p.o3) := fun _ => rfl
  have t30 : (s.p.ln == 30) = false := by simp [hl]
  have t31 : (s.p.ln == 31) = false := by simp [hl]
  have t32 : (s.p.ln == 32) = false := by simp [hl]
  have t33 : (s.p.ln == 33) = false := by simp [hl]
  have t34 : (s.p.ln == 34) = false := by simp [hl]
  have t35 : (s.p.ln == 35) = false := by simp [hl]
  have t36 : (s.p.ln == 36) = false := by simp [hl]
  have t37 : (s.p.ln == 37) = true := by simp [hl]
  have x0 := h.X.cells
  clear hl
  go_enter Tryz.func157, Tryz.ntmps157
  go_wp2_with fail
  refine HC.out.mono ?_
  rintro en w1 ⟨rfl, H1⟩
  go_wp2
  go_ret2
  exact ⟨rfl, H1⟩
set_option maxRecDepth 10000 in
set_option maxHeartbeats 4000000 in
theorem slChangeN {B : Nat} {w0 w : World} {g gl cap gx : Nat} {c : Cfg} {a : Acc} {L : List Int} {s : Wk} (h : MX B w0 g gl cap gx c a L s w) (hm : L.length ≤ 1000) (hL : WR L) (hf : c.Wf) (jj st : Int) (hst : Pk.sl st 0 0 = st) (hb : csB L (aSlab c jj) s.p.v = false) : Calls Tryz.prog 186 #[.pointer (some ⟨g, 0, none⟩), .pointer (some ⟨gx, 0, none⟩), .int .i64 jj, .int .i64 st] w fun e w' => e = .returned (.int .i64 0) ∧ MX B w0 g gl cap gx c (acc L 3 (aSlab c jj) s.p.v st) (csL L (aSlab c jj) s.p.v st) { s with p := { s.p with ln := wrap64 (s.p.ln - 1) } } w' := by
  have f25 : ∀ s : Wk, (wc s)[25]? = some (.int .u64 s.p.v) := fun _ => rfl
  have f0 : ∀ s : Wk, (wc s)[0]? = some (.int .i64 s.p.ln) := fun _ => rfl
  have HB := Lib.hid hb
  have HST := Lib.hid hst
  have HAN := Lib.hid (fun w => Pl.slab c hf jj w)
  have x0 := h.X.cells
  have m0 := h.M.B.cells
  have lx := h.lt
  have lg := h.M.lt.1
  clear hb hst
  go_enter Tryz.func186, Tryz.ntmps186
  go_wp2
  refine wp_region_grown_tail 13 (by kernel_rfl) (by kernel_rfl) ?_
  simp only [List.take_succ_cons, List.take_zero, List.drop_succ_cons, List.drop_zero]
  have hg := @gcell
  repeat (go_big_quiet_step (first | exact grown_of (HAN.out _) | exact grown_same (Pk.slab st 0 0 _)))
  refine wpQuiet_nil ?_
  rintro w1 ⟨⟨_, hb1⟩, rfl⟩
  clear hg
  rw [HST.out]
  have H1 := h.keep hb1
  have hcas := cas_any H1.M hm (aSlab c jj) s.p.v st
  rw [HB.out] at hcas
  have HCA := Lib.hid hcas
  clear hcas x0 m0 lx lg h hb1
  go_wp2_with fail
  refine HCA.out.mono ?_
  rintro en w2 ⟨rfl, M2, T2⟩
  have H2 := H1.mem M2 T2
  have H3 := H2.set (s' := { s with p := { s.p with ln := wrap64 (s.p.ln - 1) } }) 0 (.int .i64 (wrap64 (s.p.ln - 1))) rfl
  have xw2 := H2.X.cells
  have zw2 := H2.X.frozen
  have ew2_0 : (w2.cell? ⟨gx, 0, none⟩).isSome = true := by rw [xw2, f0]; rfl
  go_wp2
  go_ret
  exact ⟨rfl, H3⟩
set_option maxRecDepth 10000 in
set_option maxHeartbeats 4000000 in
theorem sll34n {B : Nat} {w0 w : World} {g gl cap gx : Nat} {c : Cfg} {a : Acc} {L : List Int} {s : Wk} (h : MX B w0 g gl cap gx c a L s w) (hm : L.length ≤ 1000) (hL : WR L) (hf : c.Wf) (hl : s.p.ln = 34) (hb : csB L (aSlab c s.p.j) s.p.v = false) : Calls Tryz.prog 157 #[.pointer (some ⟨g, 0, none⟩), .pointer (some ⟨gx, 0, none⟩)] w (LP B w0 g gl cap gx c ⟨acc L 3 (aSlab c s.p.j) s.p.v 1, csL L (aSlab c s.p.j) s.p.v 1, { s.p with ln := 33 }, 0, true⟩ s) := by
  have HC := Lib.hid (slChangeN h hm hL hf s.p.j 1 (by decide) hb)
  clear hb
  have HW := Lib.hid (show wrap64 (s.p.ln - 1) = 33 by rw [hl]; exact IntWalk.wrap64_in _ (by omega))
  have f0 : ∀ s : Wk, (wc s)[0]? = some (.int .i64 s.p.ln) := fun _ => rfl
  have f28 : ∀ s : Wk, (wc s)[28]? = some (.int .i64 s.p.j) := fun _ => rfl
  have t30 : (s.p.ln == 30) = false := by simp [hl]
  have t31 : (s.p.ln == 31) = false := by simp [hl]
  have t32 : (s.p.ln == 32) = false := by simp [hl]
  have t33 : (s.p.ln == 33) = false := by simp [hl]
  have t34 : (s.p.ln == 34) = true := by simp [hl]
  have x0 := h.X.cells
  clear hl
  go_enter Tryz.func157, Tryz.ntmps157
  go_wp2_with fail
  refine HC.out.mono ?_
  rintro en w1 ⟨rfl, H1⟩
  rw [HW.out] at H1
  go_wp2
  go_ret2
  exact ⟨rfl, H1⟩
set_option maxRecDepth 10000 in
set_option maxHeartbeats 4000000 in
theorem sll37n {B : Nat} {w0 w : World} {g gl cap gx : Nat} {c : Cfg} {a : Acc} {L : List Int} {s : Wk} (h : MX B w0 g gl cap gx c a L s w) (hm : L.length ≤ 1000) (hL : WR L) (hf : c.Wf) (hl : s.p.ln = 37) (hb : csB L (aSlab c s.p.o3) s.p.v = false) : Calls Tryz.prog 157 #[.pointer (some ⟨g, 0, none⟩), .pointer (some ⟨gx, 0, none⟩)] w (LP B w0 g gl cap gx c ⟨acc L 3 (aSlab c s.p.o3) s.p.v 2, csL L (aSlab c s.p.o3) s.p.v 2, { s.p with ln := 36 }, 0, true⟩ s) := by
  have HC := Lib.hid (slChangeN h hm hL hf s.p.o3 2 (by decide) hb)
  clear hb
  have HW := Lib.hid (show wrap64 (s.p.ln - 1) = 36 by rw [hl]; exact IntWalk.wrap64_in _ (by omega))
  have f0 : ∀ s : Wk, (wc s)[0]? = some (.int .i64 s.p.ln) := fun _ => rfl
  have f4 : ∀ s : Wk, (wc s)[4]? = some (.int .i64 s.p.o3) := fun _ => rfl
  have t30 : (s.p.ln == 30) = false := by simp [hl]
  have t31 : (s.p.ln == 31) = false := by simp [hl]
  have t32 : (s.p.ln == 32) = false := by simp [hl]
  have t33 : (s.p.ln == 33) = false := by simp [hl]
  have t34 : (s.p.ln == 34) = false := by simp [hl]
  have t35 : (s.p.ln == 35) = false := by simp [hl]
  have t36 : (s.p.ln == 36) = false := by simp [hl]
  have t37 : (s.p.ln == 37) = true := by simp [hl]
  have x0 := h.X.cells
  clear hl
  go_enter Tryz.func157, Tryz.ntmps157
  go_wp2_with fail
  refine HC.out.mono ?_
  rintro en w1 ⟨rfl, H1⟩
  rw [HW.out] at H1
  go_wp2
  go_ret2
  exact ⟨rfl, H1⟩
set_option maxRecDepth 10000 in
set_option maxHeartbeats 4000000 in
theorem slRefuseY {B : Nat} {w0 w : World} {g gl cap gx : Nat} {c : Cfg} {a : Acc} {L : List Int} {s : Wk} (h : MX B w0 g gl cap gx c a L s w) (hm : L.length ≤ 1000) (hL : WR L) (hf : c.Wf) (k : Int) (hs : ldV L (slHome c k) % 16 = 2) : Calls Tryz.prog 187 #[.pointer (some ⟨g, 0, none⟩), .int .i64 k] w fun e w' => e = .returned (.int .i64 2) ∧ MX B w0 g gl cap gx c (acc L 1 (slHome c k) 0 0) (L) s w' := by
  have HS := Lib.hid hs
  have hv := ldV_wr hL (slHome c k)
  have HHO := Lib.hid (slHomeC h.M hf k)
  clear hs
  go_enter Tryz.func187, Tryz.ntmps187
  go_wp2_with fail
  refine HHO.out.mono ?_
  rintro en w1 ⟨rfl, hb1⟩
  have H1 := h.keep hb1
  clear HHO hb1
  go_wp2_with fail
  refine (load_any H1.M hm _).mono ?_
  rintro en w2 ⟨rfl, M2, T2⟩
  have H2 := H1.mem M2 T2
  obtain ⟨v0, hv0⟩ : ∃ v, v = ldV L (slHome c k) := ⟨_, rfl⟩
  rw [← hv0] at HS hv
  simp only [← hv0]
  clear hv0 H1 M2 T2
  go_wp2_with fail
  refine (stateOf v0 hv.1 hv.2 _).mono ?_
  rintro en w3 ⟨rfl, hb3⟩
  have H3 := H2.keep hb3
  have te : (v0 % 16 == 2) = true := by have := HS.out; simp [this]
  clear hv
  go_wp2
  go_ret
  exact ⟨rfl, H3⟩
set_option maxRecDepth 10000 in
set_option maxHeartbeats 4000000 in
theorem sll35y {B : Nat} {w0 w : World} {g gl cap gx : Nat} {c : Cfg} {a : Acc} {L : List Int} {s : Wk} (h : MX B w0 g gl cap gx c a L s w) (hm : L.length ≤ 1000) (hL : WR L) (hf : c.Wf) (hl : s.p.ln = 35) (hs : ldV L (slHome c s.p.b) % 16 = 2) : Calls Tryz.prog 157 #[.pointer (some ⟨g, 0, none⟩), .pointer (some ⟨gx, 0, none⟩)] w (LP B w0 g gl cap gx c ⟨acc L 1 (slHome c s.p.b) 0 0, L, s.p, 2, true⟩ s) := by
  have HC := Lib.hid (slRefuseY h hm hL hf s.p.b hs)
  clear hs
  have f0 : ∀ s : Wk, (wc s)[0]? = some (.int .i64 s.p.ln) := fun _ => rfl
  have f18 : ∀ s : Wk, (wc s)[18]? = some (.int .i64 s.p.b) := fun _ => rfl
  have t30 : (s.p.ln == 30) = false := by simp [hl]
  have t31 : (s.p.ln == 31) = false := by simp [hl]
  have t32 : (s.p.ln == 32) = false := by simp [hl]
  have t33 : (s.p.ln == 33) = false := by simp [hl]
  have t34 : (s.p.ln == 34) = false := by simp [hl]
  have t35 : (s.p.ln == 35) = true := by simp [hl]
  have x0 := h.X.cells
  clear hl
  go_enter Tryz.func157, Tryz.ntmps157
  go_wp2_with fail
  refine HC.out.mono ?_
  rintro en w1 ⟨rfl, H1⟩
  go_wp2
  go_ret2
  exact ⟨rfl, H1⟩
set_option maxRecDepth 10000 in
set_option maxHeartbeats 4000000 in
theorem sll39y {B : Nat} {w0 w : World} {g gl cap gx : Nat} {c : Cfg} {a : Acc} {L : List Int} {s : Wk} (h : MX B w0 g gl cap gx c a L s w) (hm : L.length ≤ 1000) (hL : WR L) (hf : c.Wf) (hl : s.p.ln = 39) (hs : ldV L (slHome c s.p.k) % 16 = 2) : Calls Tryz.prog 157 #[.pointer (some ⟨g, 0, none⟩), .pointer (some ⟨gx, 0, none⟩)] w (LP B w0 g gl cap gx c ⟨acc L 1 (slHome c s.p.k) 0 0, L, s.p, 2, true⟩ s) := by
  have HC := Lib.hid (slRefuseY h hm hL hf s.p.k hs)
  clear hs
  have f0 : ∀ s : Wk, (wc s)[0]? = some (.int .i64 s.p.ln) := fun _ => rfl
  have f19 : ∀ s : Wk, (wc s)[19]? = some (.int .i64 s.p.k) := fun _ => rfl
  have t30 : (s.p.ln == 30) = false := by simp [hl]
  have t31 : (s.p.ln == 31) = false := by simp [hl]
  have t32 : (s.p.ln == 32) = false := by simp [hl]
  have t33 : (s.p.ln == 33) = false := by simp [hl]
  have t34 : (s.p.ln == 34) = false := by simp [hl]
  have t35 : (s.p.ln == 35) = false := by simp [hl]
  have t36 : (s.p.ln == 36) = false := by simp [hl]
  have t37 : (s.p.ln == 37) = false := by simp [hl]
  have t39 : (s.p.ln == 39) = true := by simp [hl]
  have x0 := h.X.cells
  clear hl
  go_enter Tryz.func157, Tryz.ntmps157
  go_wp2_with fail
  refine HC.out.mono ?_
  rintro en w1 ⟨rfl, H1⟩
  go_wp2
  go_ret2
  exact ⟨rfl, H1⟩
set_option maxRecDepth 10000 in
set_option maxHeartbeats 4000000 in
theorem slRefuseN {B : Nat} {w0 w : World} {g gl cap gx : Nat} {c : Cfg} {a : Acc} {L : List Int} {s : Wk} (h : MX B w0 g gl cap gx c a L s w) (hm : L.length ≤ 1000) (hL : WR L) (hf : c.Wf) (k : Int) (hs : ldV L (slHome c k) % 16 ≠ 2) : Calls Tryz.prog 187 #[.pointer (some ⟨g, 0, none⟩), .int .i64 k] w fun e w' => e = .returned (.int .i64 1) ∧ MX B w0 g gl cap gx c (acc L 1 (slHome c k) 0 0) (L) s w' := by
  have HS := Lib.hid hs
  have hv := ldV_wr hL (slHome c k)
  have HHO := Lib.hid (slHomeC h.M hf k)
  clear hs
  go_enter Tryz.func187, Tryz.ntmps187
  go_wp2_with fail
  refine HHO.out.mono ?_
  rintro en w1 ⟨rfl, hb1⟩
  have H1 := h.keep hb1
  clear HHO hb1
  go_wp2_with fail
  refine (load_any H1.M hm _).mono ?_
  rintro en w2 ⟨rfl, M2, T2⟩
  have H2 := H1.mem M2 T2
  obtain ⟨v0, hv0⟩ : ∃ v, v = ldV L (slHome c k) := ⟨_, rfl⟩
  rw [← hv0] at HS hv
  simp only [← hv0]
  clear hv0 H1 M2 T2
  go_wp2_with fail
  refine (stateOf v0 hv.1 hv.2 _).mono ?_
  rintro en w3 ⟨rfl, hb3⟩
  have H3 := H2.keep hb3
  have te : (v0 % 16 == 2) = false := by have := HS.out; simp [this]
  clear hv
  go_wp2
  go_ret
  exact ⟨rfl, H3⟩
set_option maxRecDepth 10000 in
set_option maxHeartbeats 4000000 in
theorem sll35n {B : Nat} {w0 w : World} {g gl cap gx : Nat} {c : Cfg} {a : Acc} {L : List Int} {s : Wk} (h : MX B w0 g gl cap gx c a L s w) (hm : L.length ≤ 1000) (hL : WR L) (hf : c.Wf) (hl : s.p.ln = 35) (hs : ldV L (slHome c s.p.b) % 16 ≠ 2) : Calls Tryz.prog 157 #[.pointer (some ⟨g, 0, none⟩), .pointer (some ⟨gx, 0, none⟩)] w (LP B w0 g gl cap gx c ⟨acc L 1 (slHome c s.p.b) 0 0, L, s.p, 1, true⟩ s) := by
  have HC := Lib.hid (slRefuseN h hm hL hf s.p.b hs)
  clear hs
  have f0 : ∀ s : Wk, (wc s)[0]? = some (.int .i64 s.p.ln) := fun _ => rfl
  have f18 : ∀ s : Wk, (wc s)[18]? = some (.int .i64 s.p.b) := fun _ => rfl
  have t30 : (s.p.ln == 30) = false := by simp [hl]
  have t31 : (s.p.ln == 31) = false := by simp [hl]
  have t32 : (s.p.ln == 32) = false := by simp [hl]
  have t33 : (s.p.ln == 33) = false := by simp [hl]
  have t34 : (s.p.ln == 34) = false := by simp [hl]
  have t35 : (s.p.ln == 35) = true := by simp [hl]
  have x0 := h.X.cells
  clear hl
  go_enter Tryz.func157, Tryz.ntmps157
  go_wp2_with fail
  refine HC.out.mono ?_
  rintro en w1 ⟨rfl, H1⟩
  go_wp2
  go_ret2
  exact ⟨rfl, H1⟩
set_option maxRecDepth 10000 in
set_option maxHeartbeats 4000000 in
theorem sll39n {B : Nat} {w0 w : World} {g gl cap gx : Nat} {c : Cfg} {a : Acc} {L : List Int} {s : Wk} (h : MX B w0 g gl cap gx c a L s w) (hm : L.length ≤ 1000) (hL : WR L) (hf : c.Wf) (hl : s.p.ln = 39) (hs : ldV L (slHome c s.p.k) % 16 ≠ 2) : Calls Tryz.prog 157 #[.pointer (some ⟨g, 0, none⟩), .pointer (some ⟨gx, 0, none⟩)] w (LP B w0 g gl cap gx c ⟨acc L 1 (slHome c s.p.k) 0 0, L, s.p, 1, true⟩ s) := by
  have HC := Lib.hid (slRefuseN h hm hL hf s.p.k hs)
  clear hs
  have f0 : ∀ s : Wk, (wc s)[0]? = some (.int .i64 s.p.ln) := fun _ => rfl
  have f19 : ∀ s : Wk, (wc s)[19]? = some (.int .i64 s.p.k) := fun _ => rfl
  have t30 : (s.p.ln == 30) = false := by simp [hl]
  have t31 : (s.p.ln == 31) = false := by simp [hl]
  have t32 : (s.p.ln == 32) = false := by simp [hl]
  have t33 : (s.p.ln == 33) = false := by simp [hl]
  have t34 : (s.p.ln == 34) = false := by simp [hl]
  have t35 : (s.p.ln == 35) = false := by simp [hl]
  have t36 : (s.p.ln == 36) = false := by simp [hl]
  have t37 : (s.p.ln == 37) = false := by simp [hl]
  have t39 : (s.p.ln == 39) = true := by simp [hl]
  have x0 := h.X.cells
  clear hl
  go_enter Tryz.func157, Tryz.ntmps157
  go_wp2_with fail
  refine HC.out.mono ?_
  rintro en w1 ⟨rfl, H1⟩
  go_wp2
  go_ret2
  exact ⟨rfl, H1⟩
set_option maxRecDepth 10000 in
set_option maxHeartbeats 4000000 in
theorem sll36y {B : Nat} {w0 w : World} {g gl cap gx : Nat} {c : Cfg} {a : Acc} {L : List Int} {s : Wk} (h : MX B w0 g gl cap gx c a L s w) (hm : L.length ≤ 1000) (hL : WR L) (hf : c.Wf) (hl : s.p.ln = 36) (hr : ldV L (aSlab c s.p.o3) % 16 = 1) : Calls Tryz.prog 157 #[.pointer (some ⟨g, 0, none⟩), .pointer (some ⟨gx, 0, none⟩)] w (LP B w0 g gl cap gx c ⟨acc L 1 (aSlab c s.p.o3) 0 0, L, { s.p with v := ldV L (aSlab c s.p.o3), ln := 37 }, 0, true⟩ s) := by
  have hv := ldV_wr hL (aSlab c s.p.o3)
  have HR := Lib.hid hr
  have HAN := Lib.hid (fun w => Pl.slab c hf s.p.o3 w)
  clear hr
  have f0 : ∀ s : Wk, (wc s)[0]? = some (.int .i64 s.p.ln) := fun _ => rfl
  have f1 : ∀ s : Wk, (wc s)[1]? = some (.int .i64 s.p.o0) := fun _ => rfl
  have f4 : ∀ s : Wk, (wc s)[4]? = some (.int .i64 s.p.o3) := fun _ => rfl
  have f25 : ∀ s : Wk, (wc s)[25]? = some (.int .u64 s.p.v) := fun _ => rfl
  have t30 : (s.p.ln == 30) = false := by simp [hl]
  have t31 : (s.p.ln == 31) = false := by simp [hl]
  have t32 : (s.p.ln == 32) = false := by simp [hl]
  have t33 : (s.p.ln == 33) = false := by simp [hl]
  have t34 : (s.p.ln == 34) = false := by simp [hl]
  have t35 : (s.p.ln == 35) = false := by simp [hl]
  have t36 : (s.p.ln == 36) = true := by simp [hl]
  have x0 := h.X.cells
  clear hl
  go_enter Tryz.func157, Tryz.ntmps157
  go_wp2
  have hS0 : ∃ a' v', MX B w0 g gl cap gx c a' L { s with p := { s.p with v := v' } } w.drew := ⟨a, s.p.v, h.keep (Below.drew (Below.refl _ _))⟩
  refine wp_region_held_drew (S := fun w' => ∃ a' v', MX B w0 g gl cap gx c a' L { s with p := { s.p with v := v' } } w') (by kernel_rfl) hS0 (fun hHeld => ?_)
  clear h hS0 x0
  generalize w.drew = vv at *
  refine wpAnyH_take (i := 0) (oi := _) (v := .pointer (some ⟨gx, 0, none⟩)) rfl (by kernel_rfl) (by kernel_rfl) (by kernel_rfl) (fun _ _ _ h => h) (Or.inl ⟨by rfl, fun w' hSw => by go_simp⟩) hHeld ?_
  try simp only [Act.put, List.getElem_toArray, List.getElem_cons_succ, List.getElem_cons_zero, List.setIfInBounds_toArray, List.set_cons_succ, List.set_cons_zero]
  refine wpAnyH_take (i := 1) (oi := _) (v := .pointer (some ⟨g, 0, none⟩)) rfl (by kernel_rfl) (by kernel_rfl) (by kernel_rfl) (fun _ _ _ h => h) (Or.inl ⟨by rfl, fun w' hSw => by go_simp⟩) hHeld ?_
  try simp only [Act.put, List.getElem_toArray, List.getElem_cons_succ, List.getElem_cons_zero, List.setIfInBounds_toArray, List.set_cons_succ, List.set_cons_zero]
  refine wpAnyH_take (i := 2) (oi := _) (v := .pointer (some ⟨g, 0, none⟩)) rfl (by kernel_rfl) (by kernel_rfl) (by kernel_rfl) (fun _ _ _ h => h) (Or.inl ⟨by rfl, fun w' hSw => by go_simp⟩) hHeld ?_
  try simp only [Act.put, List.getElem_toArray, List.getElem_cons_succ, List.getElem_cons_zero, List.setIfInBounds_toArray, List.set_cons_succ, List.set_cons_zero]
  refine wpAnyH_take (i := 3) (oi := _) (v := .pointer (some ⟨g, 0, none⟩)) rfl (by kernel_rfl) (by kernel_rfl) (by kernel_rfl) (fun _ _ _ h => h) (Or.inl ⟨by rfl, fun w' hSw => by go_simp⟩) hHeld ?_
  try simp only [Act.put, List.getElem_toArray, List.getElem_cons_succ, List.getElem_cons_zero, List.setIfInBounds_toArray, List.set_cons_succ, List.set_cons_zero]
  refine wpAnyH_take (i := 4) (oi := _) (v := .pointer (some ⟨g, 0, none⟩)) rfl (by kernel_rfl) (by kernel_rfl) (by kernel_rfl) (fun _ _ _ h => h) (Or.inl ⟨by rfl, fun w' hSw => by go_simp⟩) hHeld ?_
  try simp only [Act.put, List.getElem_toArray, List.getElem_cons_succ, List.getElem_cons_zero, List.setIfInBounds_toArray, List.set_cons_succ, List.set_cons_zero]
  refine wpAnyH_take (i := 5) (oi := _) (v := cv c) rfl (by kernel_rfl) (by kernel_rfl) (by kernel_rfl) (fun _ _ _ h => h) (Or.inl ⟨by rfl, fun w' hSw => by obtain ⟨a', v', HS⟩ := hSw; have xx := HS.M.B.cells; go_simp⟩) hHeld ?_
  try simp only [Act.put, List.getElem_toArray, List.getElem_cons_succ, List.getElem_cons_zero, List.setIfInBounds_toArray, List.set_cons_succ, List.set_cons_zero]
  refine wpAnyH_take (i := 6) (oi := _) (v := .pointer (some ⟨gx, 0, none⟩)) rfl (by kernel_rfl) (by kernel_rfl) (by kernel_rfl) (fun _ _ _ h => h) (Or.inl ⟨by rfl, fun w' hSw => by go_simp⟩) hHeld ?_
  try simp only [Act.put, List.getElem_toArray, List.getElem_cons_succ, List.getElem_cons_zero, List.setIfInBounds_toArray, List.set_cons_succ, List.set_cons_zero]
  refine wpAnyH_take (i := 7) (oi := _) (v := .pointer (some ⟨gx, 0, none⟩)) rfl (by kernel_rfl) (by kernel_rfl) (by kernel_rfl) (fun _ _ _ h => h) (Or.inl ⟨by rfl, fun w' hSw => by go_simp⟩) hHeld ?_
  try simp only [Act.put, List.getElem_toArray, List.getElem_cons_succ, List.getElem_cons_zero, List.setIfInBounds_toArray, List.set_cons_succ, List.set_cons_zero]
  refine wpAnyH_take (i := 8) (oi := _) (v := .pointer (some ⟨gx, 1, none⟩)) rfl (by kernel_rfl) (by kernel_rfl) (by kernel_rfl) (fun _ _ _ h => h) (Or.inl ⟨by rfl, fun w' hSw => by go_simp⟩) hHeld ?_
  try simp only [Act.put, List.getElem_toArray, List.getElem_cons_succ, List.getElem_cons_zero, List.setIfInBounds_toArray, List.set_cons_succ, List.set_cons_zero]
  refine wpAnyH_take (i := 9) (oi := _) (v := .pointer (some ⟨gx, 4, none⟩)) rfl (by kernel_rfl) (by kernel_rfl) (by kernel_rfl) (fun _ _ _ h => h) (Or.inl ⟨by rfl, fun w' hSw => by go_simp⟩) hHeld ?_
  try simp only [Act.put, List.getElem_toArray, List.getElem_cons_succ, List.getElem_cons_zero, List.setIfInBounds_toArray, List.set_cons_succ, List.set_cons_zero]
  refine wpAnyH_take (i := 10) (oi := _) (v := .int .i64 s.p.o3) rfl (by kernel_rfl) (by kernel_rfl) (by kernel_rfl) (fun _ _ _ h => h) (Or.inl ⟨by rfl, fun w' hSw => by obtain ⟨a', v', HS⟩ := hSw; have xx := HS.X.cells; go_simp⟩) hHeld ?_
  try simp only [Act.put, List.getElem_toArray, List.getElem_cons_succ, List.getElem_cons_zero, List.setIfInBounds_toArray, List.set_cons_succ, List.set_cons_zero]
  refine wpAnyH_ready (rs := [11]) (by kernel_rfl) (by simp) ?_
  refine AllReadyH.cons (o := _) rfl (fun K hK => ?_) AllReadyH.nil
  go_simp
  refine (HAN.out _).mono ?_
  rintro en z1 ⟨rfl, hb⟩
  obtain ⟨a1, v1, H1⟩ := hHeld
  refine hK.out _ _ ⟨a1, v1, H1.keep hb⟩ (fun hHeld => ?_)
  clear hK K H1 hb
  try simp only [Act.put, List.getElem_toArray, List.getElem_cons_succ, List.getElem_cons_zero, List.setIfInBounds_toArray, List.set_cons_succ, List.set_cons_zero]
  refine wpAnyH_ready (rs := [12]) (by kernel_rfl) (by simp) ?_
  refine AllReadyH.cons (o := _) rfl (fun K hK => ?_) AllReadyH.nil
  go_simp
  obtain ⟨a1, v1, H1⟩ := hHeld
  refine (load_any H1.M hm _).mono ?_
  rintro en z2 ⟨rfl, M2, T2⟩
  have H2 := H1.mem M2 T2
  refine hK.out _ _ ⟨_, v1, H2⟩ (fun hHeld => ?_)
  clear hK K H1 M2 T2
  obtain ⟨lj, hlj⟩ : ∃ v, v = ldV L (aSlab c s.p.o3) := ⟨_, rfl⟩
  simp only [← hlj]
  rw [← hlj] at hv HR
  have HV := Lib.hid hlj
  clear hlj
  try simp only [Act.put, List.getElem_toArray, List.getElem_cons_succ, List.getElem_cons_zero, List.setIfInBounds_toArray, List.set_cons_succ, List.set_cons_zero]
  refine wpAnyH_take (i := 13) (oi := _) (v := .pointer (some ⟨gx, 0, none⟩)) rfl (by kernel_rfl) (by kernel_rfl) (by kernel_rfl) (fun _ _ _ h => h) (Or.inl ⟨by rfl, fun w' hSw => by go_simp⟩) hHeld ?_
  try simp only [Act.put, List.getElem_toArray, List.getElem_cons_succ, List.getElem_cons_zero, List.setIfInBounds_toArray, List.set_cons_succ, List.set_cons_zero]
  refine wpAnyH_take (i := 14) (oi := _) (v := .pointer (some ⟨gx, 25, none⟩)) rfl (by kernel_rfl) (by kernel_rfl) (by kernel_rfl) (fun _ _ _ h => h) (Or.inl ⟨by rfl, fun w' hSw => by go_simp⟩) hHeld ?_
  try simp only [Act.put, List.getElem_toArray, List.getElem_cons_succ, List.getElem_cons_zero, List.setIfInBounds_toArray, List.set_cons_succ, List.set_cons_zero]
  refine wpAnyH_ready (rs := [15]) (by kernel_rfl) (by simp) ?_
  refine AllReadyH.cons (o := _) rfl (fun K hK => ?_) AllReadyH.nil
  have x2 := H2.X.cells
  have z2f := H2.X.frozen
  have e25 : (z2.cell? ⟨gx, 25, none⟩).isSome = true := by rw [x2, f25]; rfl
  have H3 := H2.set (s' := { s with p := { s.p with v := lj } }) 25 (.int .u64 lj) rfl
  go_simp
  refine hK.out _ _ ⟨_, lj, H3⟩ (fun hHeld => ?_)
  clear hK K H2 x2 z2f e25
  try simp only [Act.put, List.getElem_toArray, List.getElem_cons_succ, List.getElem_cons_zero, List.setIfInBounds_toArray, List.set_cons_succ, List.set_cons_zero]
  refine wpAnyH_done (by kernel_rfl) ?_ _
  clear hHeld
  obtain ⟨z3, hz3⟩ : ∃ u, u = z2.setCell ⟨gx, 25, none⟩ (.int .u64 lj) := ⟨_, rfl⟩
  rw [← hz3] at H3 ⊢
  clear hz3
  have x3 := H3.X.cells
  have l3 := H3.lt
  go_wp2_with fail
  refine (stateOf lj hv.1 hv.2 _).mono ?_
  rintro en w5 ⟨rfl, hb5⟩
  have H5 := H3.keep hb5
  have te : (lj % 16 != 1) = false := by have := HR.out; simp [this]
  clear x3 l3 H3 hb5 hv
  have H6 := H5.set (s' := { s with p := { s.p with v := lj, ln := 37 } }) 0 (.int .i64 37) rfl
  have xw5 := H5.X.cells
  have zw5 := H5.X.frozen
  have ew5_0 : (w5.cell? ⟨gx, 0, none⟩).isSome = true := by rw [xw5, f0]; rfl
  go_wp2
  go_ret2
  have e1 := HV.out
  subst e1
  exact ⟨rfl, H6⟩
set_option maxRecDepth 10000 in
set_option maxHeartbeats 4000000 in
theorem sll36n {B : Nat} {w0 w : World} {g gl cap gx : Nat} {c : Cfg} {a : Acc} {L : List Int} {s : Wk} (h : MX B w0 g gl cap gx c a L s w) (hm : L.length ≤ 1000) (hL : WR L) (hf : c.Wf) (hl : s.p.ln = 36) (hr : ldV L (aSlab c s.p.o3) % 16 ≠ 1) : Calls Tryz.prog 157 #[.pointer (some ⟨g, 0, none⟩), .pointer (some ⟨gx, 0, none⟩)] w (LP B w0 g gl cap gx c ⟨acc L 1 (aSlab c s.p.o3) 0 0, L, { s.p with v := ldV L (aSlab c s.p.o3) }, 2, true⟩ s) := by
  have hv := ldV_wr hL (aSlab c s.p.o3)
  have HR := Lib.hid hr
  have HAN := Lib.hid (fun w => Pl.slab c hf s.p.o3 w)
  clear hr
  have f0 : ∀ s : Wk, (wc s)[0]? = some (.int .i64 s.p.ln) := fun _ => rfl
  have f1 : ∀ s : Wk, (wc s)[1]? = some (.int .i64 s.p.o0) := fun _ => rfl
  have f4 : ∀ s : Wk, (wc s)[4]? = some (.int .i64 s.p.o3) := fun _ => rfl
  have f25 : ∀ s : Wk, (wc s)[25]? = some (.int .u64 s.p.v) := fun _ => rfl
  have t30 : (s.p.ln == 30) = false := by simp [hl]
  have t31 : (s.p.ln == 31) = false := by simp [hl]
  have t32 : (s.p.ln == 32) = false := by simp [hl]
  have t33 : (s.p.ln == 33) = false := by simp [hl]
  have t34 : (s.p.ln == 34) = false := by simp [hl]
  have t35 : (s.p.ln == 35) = false := by simp [hl]
  have t36 : (s.p.ln == 36) = true := by simp [hl]
  have x0 := h.X.cells
  clear hl
  go_enter Tryz.func157, Tryz.ntmps157
  go_wp2
  have hS0 : ∃ a' v', MX B w0 g gl cap gx c a' L { s with p := { s.p with v := v' } } w.drew := ⟨a, s.p.v, h.keep (Below.drew (Below.refl _ _))⟩
  refine wp_region_held_drew (S := fun w' => ∃ a' v', MX B w0 g gl cap gx c a' L { s with p := { s.p with v := v' } } w') (by kernel_rfl) hS0 (fun hHeld => ?_)
  clear h hS0 x0
  generalize w.drew = vv at *
  refine wpAnyH_take (i := 0) (oi := _) (v := .pointer (some ⟨gx, 0, none⟩)) rfl (by kernel_rfl) (by kernel_rfl) (by kernel_rfl) (fun _ _ _ h => h) (Or.inl ⟨by rfl, fun w' hSw => by go_simp⟩) hHeld ?_
  try simp only [Act.put, List.getElem_toArray, List.getElem_cons_succ, List.getElem_cons_zero, List.setIfInBounds_toArray, List.set_cons_succ, List.set_cons_zero]
  refine wpAnyH_take (i := 1) (oi := _) (v := .pointer (some ⟨g, 0, none⟩)) rfl (by kernel_rfl) (by kernel_rfl) (by kernel_rfl) (fun _ _ _ h => h) (Or.inl ⟨by rfl, fun w' hSw => by go_simp⟩) hHeld ?_
  try simp only [Act.put, List.getElem_toArray, List.getElem_cons_succ, List.getElem_cons_zero, List.setIfInBounds_toArray, List.set_cons_succ, List.set_cons_zero]
  refine wpAnyH_take (i := 2) (oi := _) (v := .pointer (some ⟨g, 0, none⟩)) rfl (by kernel_rfl) (by kernel_rfl) (by kernel_rfl) (fun _ _ _ h => h) (Or.inl ⟨by rfl, fun w' hSw => by go_simp⟩) hHeld ?_
  try simp only [Act.put, List.getElem_toArray, List.getElem_cons_succ, List.getElem_cons_zero, List.setIfInBounds_toArray, List.set_cons_succ, List.set_cons_zero]
  refine wpAnyH_take (i := 3) (oi := _) (v := .pointer (some ⟨g, 0, none⟩)) rfl (by kernel_rfl) (by kernel_rfl) (by kernel_rfl) (fun _ _ _ h => h) (Or.inl ⟨by rfl, fun w' hSw => by go_simp⟩) hHeld ?_
  try simp only [Act.put, List.getElem_toArray, List.getElem_cons_succ, List.getElem_cons_zero, List.setIfInBounds_toArray, List.set_cons_succ, List.set_cons_zero]
  refine wpAnyH_take (i := 4) (oi := _) (v := .pointer (some ⟨g, 0, none⟩)) rfl (by kernel_rfl) (by kernel_rfl) (by kernel_rfl) (fun _ _ _ h => h) (Or.inl ⟨by rfl, fun w' hSw => by go_simp⟩) hHeld ?_
  try simp only [Act.put, List.getElem_toArray, List.getElem_cons_succ, List.getElem_cons_zero, List.setIfInBounds_toArray, List.set_cons_succ, List.set_cons_zero]
  refine wpAnyH_take (i := 5) (oi := _) (v := cv c) rfl (by kernel_rfl) (by kernel_rfl) (by kernel_rfl) (fun _ _ _ h => h) (Or.inl ⟨by rfl, fun w' hSw => by obtain ⟨a', v', HS⟩ := hSw; have xx := HS.M.B.cells; go_simp⟩) hHeld ?_
  try simp only [Act.put, List.getElem_toArray, List.getElem_cons_succ, List.getElem_cons_zero, List.setIfInBounds_toArray, List.set_cons_succ, List.set_cons_zero]
  refine wpAnyH_take (i := 6) (oi := _) (v := .pointer (some ⟨gx, 0, none⟩)) rfl (by kernel_rfl) (by kernel_rfl) (by kernel_rfl) (fun _ _ _ h => h) (Or.inl ⟨by rfl, fun w' hSw => by go_simp⟩) hHeld ?_
  try simp only [Act.put, List.getElem_toArray, List.getElem_cons_succ, List.getElem_cons_zero, List.setIfInBounds_toArray, List.set_cons_succ, List.set_cons_zero]
  refine wpAnyH_take (i := 7) (oi := _) (v := .pointer (some ⟨gx, 0, none⟩)) rfl (by kernel_rfl) (by kernel_rfl) (by kernel_rfl) (fun _ _ _ h => h) (Or.inl ⟨by rfl, fun w' hSw => by go_simp⟩) hHeld ?_
  try simp only [Act.put, List.getElem_toArray, List.getElem_cons_succ, List.getElem_cons_zero, List.setIfInBounds_toArray, List.set_cons_succ, List.set_cons_zero]
  refine wpAnyH_take (i := 8) (oi := _) (v := .pointer (some ⟨gx, 1, none⟩)) rfl (by kernel_rfl) (by kernel_rfl) (by kernel_rfl) (fun _ _ _ h => h) (Or.inl ⟨by rfl, fun w' hSw => by go_simp⟩) hHeld ?_
  try simp only [Act.put, List.getElem_toArray, List.getElem_cons_succ, List.getElem_cons_zero, List.setIfInBounds_toArray, List.set_cons_succ, List.set_cons_zero]
  refine wpAnyH_take (i := 9) (oi := _) (v := .pointer (some ⟨gx, 4, none⟩)) rfl (by kernel_rfl) (by kernel_rfl) (by kernel_rfl) (fun _ _ _ h => h) (Or.inl ⟨by rfl, fun w' hSw => by go_simp⟩) hHeld ?_
  try simp only [Act.put, List.getElem_toArray, List.getElem_cons_succ, List.getElem_cons_zero, List.setIfInBounds_toArray, List.set_cons_succ, List.set_cons_zero]
  refine wpAnyH_take (i := 10) (oi := _) (v := .int .i64 s.p.o3) rfl (by kernel_rfl) (by kernel_rfl) (by kernel_rfl) (fun _ _ _ h => h) (Or.inl ⟨by rfl, fun w' hSw => by obtain ⟨a', v', HS⟩ := hSw; have xx := HS.X.cells; go_simp⟩) hHeld ?_
  try simp only [Act.put, List.getElem_toArray, List.getElem_cons_succ, List.getElem_cons_zero, List.setIfInBounds_toArray, List.set_cons_succ, List.set_cons_zero]
  refine wpAnyH_ready (rs := [11]) (by kernel_rfl) (by simp) ?_
  refine AllReadyH.cons (o := _) rfl (fun K hK => ?_) AllReadyH.nil
  go_simp
  refine (HAN.out _).mono ?_
  rintro en z1 ⟨rfl, hb⟩
  obtain ⟨a1, v1, H1⟩ := hHeld
  refine hK.out _ _ ⟨a1, v1, H1.keep hb⟩ (fun hHeld => ?_)
  clear hK K H1 hb
  try simp only [Act.put, List.getElem_toArray, List.getElem_cons_succ, List.getElem_cons_zero, List.setIfInBounds_toArray, List.set_cons_succ, List.set_cons_zero]
  refine wpAnyH_ready (rs := [12]) (by kernel_rfl) (by simp) ?_
  refine AllReadyH.cons (o := _) rfl (fun K hK => ?_) AllReadyH.nil
  go_simp
  obtain ⟨a1, v1, H1⟩ := hHeld
  refine (load_any H1.M hm _).mono ?_
  rintro en z2 ⟨rfl, M2, T2⟩
  have H2 := H1.mem M2 T2
  refine hK.out _ _ ⟨_, v1, H2⟩ (fun hHeld => ?_)
  clear hK K H1 M2 T2
  obtain ⟨lj, hlj⟩ : ∃ v, v = ldV L (aSlab c s.p.o3) := ⟨_, rfl⟩
  simp only [← hlj]
  rw [← hlj] at hv HR
  have HV := Lib.hid hlj
  clear hlj
  try simp only [Act.put, List.getElem_toArray, List.getElem_cons_succ, List.getElem_cons_zero, List.setIfInBounds_toArray, List.set_cons_succ, List.set_cons_zero]
  refine wpAnyH_take (i := 13) (oi := _) (v := .pointer (some ⟨gx, 0, none⟩)) rfl (by kernel_rfl) (by kernel_rfl) (by kernel_rfl) (fun _ _ _ h => h) (Or.inl ⟨by rfl, fun w' hSw => by go_simp⟩) hHeld ?_
  try simp only [Act.put, List.getElem_toArray, List.getElem_cons_succ, List.getElem_cons_zero, List.setIfInBounds_toArray, List.set_cons_succ, List.set_cons_zero]
  refine wpAnyH_take (i := 14) (oi := _) (v := .pointer (some ⟨gx, 25, none⟩)) rfl (by kernel_rfl) (by kernel_rfl) (by kernel_rfl) (fun _ _ _ h => h) (Or.inl ⟨by rfl, fun w' hSw => by go_simp⟩) hHeld ?_
  try simp only [Act.put, List.getElem_toArray, List.getElem_cons_succ, List.getElem_cons_zero, List.setIfInBounds_toArray, List.set_cons_succ, List.set_cons_zero]
  refine wpAnyH_ready (rs := [15]) (by kernel_rfl) (by simp) ?_
  refine AllReadyH.cons (o := _) rfl (fun K hK => ?_) AllReadyH.nil
  have x2 := H2.X.cells
  have z2f := H2.X.frozen
  have e25 : (z2.cell? ⟨gx, 25, none⟩).isSome = true := by rw [x2, f25]; rfl
  have H3 := H2.set (s' := { s with p := { s.p with v := lj } }) 25 (.int .u64 lj) rfl
  go_simp
  refine hK.out _ _ ⟨_, lj, H3⟩ (fun hHeld => ?_)
  clear hK K H2 x2 z2f e25
  try simp only [Act.put, List.getElem_toArray, List.getElem_cons_succ, List.getElem_cons_zero, List.setIfInBounds_toArray, List.set_cons_succ, List.set_cons_zero]
  refine wpAnyH_done (by kernel_rfl) ?_ _
  clear hHeld
  obtain ⟨z3, hz3⟩ : ∃ u, u = z2.setCell ⟨gx, 25, none⟩ (.int .u64 lj) := ⟨_, rfl⟩
  rw [← hz3] at H3 ⊢
  clear hz3
  have x3 := H3.X.cells
  have l3 := H3.lt
  go_wp2_with fail
  refine (stateOf lj hv.1 hv.2 _).mono ?_
  rintro en w5 ⟨rfl, hb5⟩
  have H5 := H3.keep hb5
  have te : (lj % 16 != 1) = true := by have := HR.out; simp [this]
  clear x3 l3 H3 hb5 hv
  go_wp2
  go_ret2
  have e1 := HV.out
  subst e1
  exact ⟨rfl, H5⟩
set_option maxRecDepth 10000 in
set_option maxHeartbeats 4000000 in
theorem sllNone {B : Nat} {w0 w : World} {g gl cap gx : Nat} {c : Cfg} {a : Acc} {L : List Int} {s : Wk} (h : MX B w0 g gl cap gx c a L s w) (hm : L.length ≤ 1000) (hL : WR L) (hf : c.Wf) (hl : s.p.ln ≠ 30 ∧ s.p.ln ≠ 31 ∧ s.p.ln ≠ 32 ∧ s.p.ln ≠ 33 ∧ s.p.ln ≠ 34 ∧ s.p.ln ≠ 35 ∧ s.p.ln ≠ 36 ∧ s.p.ln ≠ 37 ∧ s.p.ln ≠ 39) : Calls Tryz.prog 157 #[.pointer (some ⟨g, 0, none⟩), .pointer (some ⟨gx, 0, none⟩)] w (LP B w0 g gl cap gx c ⟨a, L, s.p, 0, false⟩ s) := by
  have f0 : ∀ s : Wk, (wc s)[0]? = some (.int .i64 s.p.ln) := fun _ => rfl
  have t30 : (s.p.ln == 30) = false := by simp; omega
  have t31 : (s.p.ln == 31) = false := by simp; omega
  have t32 : (s.p.ln == 32) = false := by simp; omega
  have t33 : (s.p.ln == 33) = false := by simp; omega
  have t34 : (s.p.ln == 34) = false := by simp; omega
  have t35 : (s.p.ln == 35) = false := by simp; omega
  have t36 : (s.p.ln == 36) = false := by simp; omega
  have t37 : (s.p.ln == 37) = false := by simp; omega
  have t39 : (s.p.ln == 39) = false := by simp; omega
  have x0 := h.X.cells
  clear hl
  go_enter Tryz.func157, Tryz.ntmps157
  go_wp2
  go_ret2
  exact ⟨rfl, h⟩
/-- A line, whichever. -/
theorem slabLine {B : Nat} {w0 w : World} {g gl cap gx : Nat} {c : Cfg} {a : Acc} {L : List Int} {s : Wk} (h : MX B w0 g gl cap gx c a L s w) (hm : L.length ≤ 1000) (hL : WR L) (hf : c.Wf) (he : s.p.ep < 18446744073709551616) : Calls Tryz.prog 157 #[.pointer (some ⟨g, 0, none⟩), .pointer (some ⟨gx, 0, none⟩)] w (LP B w0 g gl cap gx c (slabLn c a L s.p) s) := by
  unfold slabLn
  by_cases h30 : s.p.ln = 30
  · rw [if_pos h30]
    unfold sl30
    split
    · rename_i hq; exact sll30y h hm hL hf h30 hq
    · rename_i hq; exact sll30n h hm hL hf h30 hq
  rw [if_neg h30]
  by_cases h31 : s.p.ln = 31
  · rw [if_pos h31]
    exact sll31 h hm hL hf h31
  rw [if_neg h31]
  by_cases h32 : s.p.ln = 32
  · rw [if_pos h32]
    exact sll32 h hm hL hf h32
  rw [if_neg h32]
  by_cases h33 : s.p.ln = 33
  · rw [if_pos h33]
    unfold sl33
    cases hr : rdyB (ldV L (aSlab c s.p.j)) s.p.ep with
    | true => rw [if_pos rfl]; exact sll33r h hm hL hf he h33 hr
    | false =>
      rw [if_neg (by simp)]
      by_cases hj : c.sl ≤ wrap64 (s.p.j + 1)
      · rw [if_pos hj]; exact sll33g h hm hL hf he h33 hr hj
      · rw [if_neg hj]; exact sll33n h hm hL hf he h33 hr hj
  rw [if_neg h33]
  by_cases h34 : s.p.ln = 34
  · rw [if_pos h34]
    unfold slSwap
    cases hb : csB L (aSlab c s.p.j) s.p.v with
    | true => rw [if_pos rfl]; exact sll34y h hm hL hf h34 hb
    | false => rw [if_neg (by simp)]; exact sll34n h hm hL hf h34 hb
  rw [if_neg h34]
  by_cases h35 : s.p.ln = 35
  · rw [if_pos h35]
    unfold slTake
    by_cases hs : ldV L (slHome c s.p.b) % 16 = 2
    · rw [if_pos hs]; exact sll35y h hm hL hf h35 hs
    · rw [if_neg hs]; exact sll35n h hm hL hf h35 hs
  rw [if_neg h35]
  by_cases h36 : s.p.ln = 36
  · rw [if_pos h36]
    unfold sl36
    split
    · rename_i hq; exact sll36y h hm hL hf h36 hq
    · rename_i hq; exact sll36n h hm hL hf h36 hq
  rw [if_neg h36]
  by_cases h37 : s.p.ln = 37
  · rw [if_pos h37]
    unfold slSwap
    cases hb : csB L (aSlab c s.p.o3) s.p.v with
    | true => rw [if_pos rfl]; exact sll37y h hm hL hf h37 hb
    | false => rw [if_neg (by simp)]; exact sll37n h hm hL hf h37 hb
  rw [if_neg h37]
  by_cases h39 : s.p.ln = 39
  · rw [if_pos h39]
    unfold slTake
    by_cases hs : ldV L (slHome c s.p.k) % 16 = 2
    · rw [if_pos hs]; exact sll39y h hm hL hf h39 hs
    · rw [if_neg hs]; exact sll39n h hm hL hf h39 hs
  rw [if_neg h39]
  exact sllNone h hm hL hf ⟨h30, h31, h32, h33, h34, h35, h36, h37, h39⟩
theorem slabStepAny {B : Nat} {w : World} {g gl cap : Nat} {c : Cfg} {a : Acc} {L : List Int} (M : MemAt B w g c a gl cap L) (hf : c.Wf) (hm : L.length ≤ 1000) (hL : WR L) (s : Wk) (x : St) (hx : Few 1000 x) (h : Lies w s x) (hp : PR x.p) :
    Calls Tryz.prog 132 #[.pointer (some ⟨g, 0, none⟩), wv s] w (GPost B g gl cap c (slabLn c a L x.p).fin x w) :=
  slabStep M s x hx h _ fun gx s1 w1 H e => by
    have := slabLine H hm hL hf (by rw [e]; exact hp.ep.2)
    rwa [e] at this
end Go.Proofs.YtgpdkagmacpghaaGreat.Me

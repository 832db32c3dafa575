/- Part EntryLine. -/
import Derived.Test.YtaiodbcnbcdokaaGreatKEntryLines
import Derived.Test.YtaiodbcnbcdokaaGreatKEntryPop
set_option linter.unusedVariables false
set_option linter.unusedSimpArgs false
set_option linter.unusedSectionVars false
set_option maxRecDepth 100000
set_option maxHeartbeats 16000000
namespace Go.Proofs.YtaiodbcnbcdokaaGreat.Me
open Go Go.RowKit Gro Own Wd Ap Go.Proofs.YtaiodbcnbcdokaaGreat.Pl Wo
def enPop (c : Cfg) (a : Acc) (L : List Int) (p : Pl) : Res :=
 if (aT c a L p).fin.way = 1 then ⟨(aT c a L p).fin.a, (aT c a L p).fin.L, { (aT c a L p).fin.p with i := wrap64 (aT c a L p).fin.p.h, ln := 40 }, 0, true⟩
 else ⟨(aT c a L p).fin.a, (aT c a L p).fin.L, (aT c a L p).fin.p, (aT c a L p).fin.way, true⟩
def iK (c : Cfg) (a : Acc) (L : List Int) (p : Pl) : Res :=
 if (aT c a L p).fin.way = 1 then ⟨(aT c a L p).fin.a, (aT c a L p).fin.L, { (aT c a L p).fin.p with i := 0 }, 1, true⟩
 else ⟨(aT c a L p).fin.a, (aT c a L p).fin.L, (aT c a L p).fin.p, (aT c a L p).fin.way, true⟩
def aU (c : Cfg) (a : Acc) (L : List Int) (p : Pl) : Res :=
 if p.ln = 20 ∨ p.ln = 21 ∨ p.ln = 22 then enPop c a L p else if p.ln = 23 ∨ p.ln = 24 ∨ p.ln = 25 then iK c a L p
 else if p.ln = 40 then en40 c L p else if p.ln = 41 then en41 c L p else if p.ln = 42 ∨ p.ln = 44 ∨ p.ln = 46 ∨ p.ln = 60 then enFind c L p
 else if p.ln = 43 then en43 c L p else if p.ln = 45 then en45 c L p else ⟨a, L, p, 0, false⟩
theorem enNone {B : Nat} {w0 w : World} {g gl cap gx : Nat} {c : Cfg} {a : Acc} {L : List Int} {s : Wk} (h : MX B w0 g gl cap gx c a L s w) (hm : L.length ≤ 1000) (hL : WR L) (hf : c.Wf) (ht : 0 ≤ s.p.t ∧ s.p.t < 18446744073709551616) (hl : s.p.ln ≠ 20 ∧ s.p.ln ≠ 21 ∧ s.p.ln ≠ 22 ∧ s.p.ln ≠ 23 ∧ s.p.ln ≠ 24 ∧ s.p.ln ≠ 25 ∧ s.p.ln ≠ 40 ∧ s.p.ln ≠ 41 ∧ s.p.ln ≠ 42 ∧ s.p.ln ≠ 44 ∧ s.p.ln ≠ 46 ∧ s.p.ln ≠ 60 ∧ s.p.ln ≠ 43 ∧ s.p.ln ≠ 45) : Calls Tryz.prog 172 #[.pointer (some ⟨g, 0, none⟩), .pointer (some ⟨gx, 0, none⟩)] w (LP B w0 g gl cap gx c ⟨a, L, s.p, 0, false⟩ s) := by
 have f0 : ∀ s : Wk, (wc s)[0]? = some (.int .i64 s.p.ln) := fun _ => rfl
 have t20 : (s.p.ln == 20) = false := bq
 have t21 : (s.p.ln == 21) = false := bq
 have t22 : (s.p.ln == 22) = false := bq
 have t23 : (s.p.ln == 23) = false := bq
 have t24 : (s.p.ln == 24) = false := bq
 have t25 : (s.p.ln == 25) = false := bq
 have t40 : (s.p.ln == 40) = false := bq
 have t41 : (s.p.ln == 41) = false := bq
 have t42 : (s.p.ln == 42) = false := bq
 have t44 : (s.p.ln == 44) = false := bq
 have t46 : (s.p.ln == 46) = false := bq
 have t60 : (s.p.ln == 60) = false := bq
 have t43 : (s.p.ln == 43) = false := bq
 have t45 : (s.p.ln == 45) = false := bq
 have x0 := h.X.cells
 clear hl
 go_enter Tryz.func172, Tryz.ntmps172
 go_wp2
 go_ret2
 exact ⟨rfl, h⟩
theorem enq20 {B n : Nat} {w0 w : World} {g gl cap gx : Nat} {c : Cfg} {a : Acc} {L : List Int} {s : Wk} (h : MX B w0 g gl cap gx c a L s w) (hm : L.length ≤ 1000) (hL : WR L) (hf : c.Wf) (x : St) (hx : Few 1000 x) (A : dI n w s x) (hp : PR x.p) (hn : n ≤ w.heap.size) (hg : gx < n) (hl : s.p.ln = 20) : Calls Tryz.prog 172 #[.pointer (some ⟨g, 0, none⟩), .pointer (some ⟨gx, 0, none⟩)] w (LQ B w0 g gl cap gx c n (enPop c a L x.p) x) := by
 by_cases ho : (aT c a L x.p).fin.way = 1
 unfold enPop
 rw [if_pos ho]
 have HC := Lib.hid (enPopY h hm hL hf x hx A hp hn hg _ rfl ho)
 rotate_left
 unfold enPop
 rw [if_neg ho]
 have HC := Lib.hid (enPopN h hm hL hf x hx A hp hn hg _ rfl ho)
 rotate_left
 all_goals
  clear ho
  generalize (aT c a L x.p).fin = r at *
  have f0 : ∀ s : Wk, (wc s)[0]? = some (.int .i64 s.p.ln) := fun _ => rfl
  have t20 : (s.p.ln == 20) = true := jB hl
  have x0 := h.X.cells
  clear hl
  go_enter Tryz.func172, Tryz.ntmps172
  go_wp2_with fail
  refine HC.out.mono ?_
  rintro en w1 ⟨s3, rfl, H1, A1⟩
  go_wp2
  go_ret2
  exact ⟨s3, rfl, H1, A1⟩
theorem enq21 {B n : Nat} {w0 w : World} {g gl cap gx : Nat} {c : Cfg} {a : Acc} {L : List Int} {s : Wk} (h : MX B w0 g gl cap gx c a L s w) (hm : L.length ≤ 1000) (hL : WR L) (hf : c.Wf) (x : St) (hx : Few 1000 x) (A : dI n w s x) (hp : PR x.p) (hn : n ≤ w.heap.size) (hg : gx < n) (hl : s.p.ln = 21) : Calls Tryz.prog 172 #[.pointer (some ⟨g, 0, none⟩), .pointer (some ⟨gx, 0, none⟩)] w (LQ B w0 g gl cap gx c n (enPop c a L x.p) x) := by
 by_cases ho : (aT c a L x.p).fin.way = 1
 unfold enPop
 rw [if_pos ho]
 have HC := Lib.hid (enPopY h hm hL hf x hx A hp hn hg _ rfl ho)
 rotate_left
 unfold enPop
 rw [if_neg ho]
 have HC := Lib.hid (enPopN h hm hL hf x hx A hp hn hg _ rfl ho)
 rotate_left
 all_goals
  clear ho
  generalize (aT c a L x.p).fin = r at *
  have f0 : ∀ s : Wk, (wc s)[0]? = some (.int .i64 s.p.ln) := fun _ => rfl
  have t20 : (s.p.ln == 20) = false := jB hl
  have t21 : (s.p.ln == 21) = true := jB hl
  have x0 := h.X.cells
  clear hl
  go_enter Tryz.func172, Tryz.ntmps172
  go_wp2_with fail
  refine HC.out.mono ?_
  rintro en w1 ⟨s3, rfl, H1, A1⟩
  go_wp2
  go_ret2
  exact ⟨s3, rfl, H1, A1⟩
theorem enq22 {B n : Nat} {w0 w : World} {g gl cap gx : Nat} {c : Cfg} {a : Acc} {L : List Int} {s : Wk} (h : MX B w0 g gl cap gx c a L s w) (hm : L.length ≤ 1000) (hL : WR L) (hf : c.Wf) (x : St) (hx : Few 1000 x) (A : dI n w s x) (hp : PR x.p) (hn : n ≤ w.heap.size) (hg : gx < n) (hl : s.p.ln = 22) : Calls Tryz.prog 172 #[.pointer (some ⟨g, 0, none⟩), .pointer (some ⟨gx, 0, none⟩)] w (LQ B w0 g gl cap gx c n (enPop c a L x.p) x) := by
 by_cases ho : (aT c a L x.p).fin.way = 1
 unfold enPop
 rw [if_pos ho]
 have HC := Lib.hid (enPopY h hm hL hf x hx A hp hn hg _ rfl ho)
 rotate_left
 unfold enPop
 rw [if_neg ho]
 have HC := Lib.hid (enPopN h hm hL hf x hx A hp hn hg _ rfl ho)
 rotate_left
 all_goals
  clear ho
  generalize (aT c a L x.p).fin = r at *
  have f0 : ∀ s : Wk, (wc s)[0]? = some (.int .i64 s.p.ln) := fun _ => rfl
  have t20 : (s.p.ln == 20) = false := jB hl
  have t21 : (s.p.ln == 21) = false := jB hl
  have t22 : (s.p.ln == 22) = true := jB hl
  have x0 := h.X.cells
  clear hl
  go_enter Tryz.func172, Tryz.ntmps172
  go_wp2_with fail
  refine HC.out.mono ?_
  rintro en w1 ⟨s3, rfl, H1, A1⟩
  go_wp2
  go_ret2
  exact ⟨s3, rfl, H1, A1⟩
theorem enq23 {B n : Nat} {w0 w : World} {g gl cap gx : Nat} {c : Cfg} {a : Acc} {L : List Int} {s : Wk} (h : MX B w0 g gl cap gx c a L s w) (hm : L.length ≤ 1000) (hL : WR L) (hf : c.Wf) (x : St) (hx : Few 1000 x) (A : dI n w s x) (hp : PR x.p) (hn : n ≤ w.heap.size) (hg : gx < n) (hl : s.p.ln = 23) : Calls Tryz.prog 172 #[.pointer (some ⟨g, 0, none⟩), .pointer (some ⟨gx, 0, none⟩)] w (LQ B w0 g gl cap gx c n (iK c a L x.p) x) := by
 by_cases ho : (aT c a L x.p).fin.way = 1
 unfold iK
 rw [if_pos ho]
 have HC := Lib.hid (enPushY h hm hL hf x hx A hp hn hg _ rfl ho)
 rotate_left
 unfold iK
 rw [if_neg ho]
 have HC := Lib.hid (enPushN h hm hL hf x hx A hp hn hg _ rfl ho)
 rotate_left
 all_goals
  clear ho
  generalize (aT c a L x.p).fin = r at *
  have f0 : ∀ s : Wk, (wc s)[0]? = some (.int .i64 s.p.ln) := fun _ => rfl
  have t20 : (s.p.ln == 20) = false := jB hl
  have t21 : (s.p.ln == 21) = false := jB hl
  have t22 : (s.p.ln == 22) = false := jB hl
  have t23 : (s.p.ln == 23) = true := jB hl
  have x0 := h.X.cells
  clear hl
  go_enter Tryz.func172, Tryz.ntmps172
  go_wp2_with fail
  refine HC.out.mono ?_
  rintro en w1 ⟨s3, rfl, H1, A1⟩
  go_wp2
  go_ret2
  exact ⟨s3, rfl, H1, A1⟩
theorem enq24 {B n : Nat} {w0 w : World} {g gl cap gx : Nat} {c : Cfg} {a : Acc} {L : List Int} {s : Wk} (h : MX B w0 g gl cap gx c a L s w) (hm : L.length ≤ 1000) (hL : WR L) (hf : c.Wf) (x : St) (hx : Few 1000 x) (A : dI n w s x) (hp : PR x.p) (hn : n ≤ w.heap.size) (hg : gx < n) (hl : s.p.ln = 24) : Calls Tryz.prog 172 #[.pointer (some ⟨g, 0, none⟩), .pointer (some ⟨gx, 0, none⟩)] w (LQ B w0 g gl cap gx c n (iK c a L x.p) x) := by
 by_cases ho : (aT c a L x.p).fin.way = 1
 unfold iK
 rw [if_pos ho]
 have HC := Lib.hid (enPushY h hm hL hf x hx A hp hn hg _ rfl ho)
 rotate_left
 unfold iK
 rw [if_neg ho]
 have HC := Lib.hid (enPushN h hm hL hf x hx A hp hn hg _ rfl ho)
 rotate_left
 all_goals
  clear ho
  generalize (aT c a L x.p).fin = r at *
  have f0 : ∀ s : Wk, (wc s)[0]? = some (.int .i64 s.p.ln) := fun _ => rfl
  have t20 : (s.p.ln == 20) = false := jB hl
  have t21 : (s.p.ln == 21) = false := jB hl
  have t22 : (s.p.ln == 22) = false := jB hl
  have t23 : (s.p.ln == 23) = false := jB hl
  have t24 : (s.p.ln == 24) = true := jB hl
  have x0 := h.X.cells
  clear hl
  go_enter Tryz.func172, Tryz.ntmps172
  go_wp2_with fail
  refine HC.out.mono ?_
  rintro en w1 ⟨s3, rfl, H1, A1⟩
  go_wp2
  go_ret2
  exact ⟨s3, rfl, H1, A1⟩
theorem enq25 {B n : Nat} {w0 w : World} {g gl cap gx : Nat} {c : Cfg} {a : Acc} {L : List Int} {s : Wk} (h : MX B w0 g gl cap gx c a L s w) (hm : L.length ≤ 1000) (hL : WR L) (hf : c.Wf) (x : St) (hx : Few 1000 x) (A : dI n w s x) (hp : PR x.p) (hn : n ≤ w.heap.size) (hg : gx < n) (hl : s.p.ln = 25) : Calls Tryz.prog 172 #[.pointer (some ⟨g, 0, none⟩), .pointer (some ⟨gx, 0, none⟩)] w (LQ B w0 g gl cap gx c n (iK c a L x.p) x) := by
 by_cases ho : (aT c a L x.p).fin.way = 1
 unfold iK
 rw [if_pos ho]
 have HC := Lib.hid (enPushY h hm hL hf x hx A hp hn hg _ rfl ho)
 rotate_left
 unfold iK
 rw [if_neg ho]
 have HC := Lib.hid (enPushN h hm hL hf x hx A hp hn hg _ rfl ho)
 rotate_left
 all_goals
  clear ho
  generalize (aT c a L x.p).fin = r at *
  have f0 : ∀ s : Wk, (wc s)[0]? = some (.int .i64 s.p.ln) := fun _ => rfl
  have t20 : (s.p.ln == 20) = false := jB hl
  have t21 : (s.p.ln == 21) = false := jB hl
  have t22 : (s.p.ln == 22) = false := jB hl
  have t23 : (s.p.ln == 23) = false := jB hl
  have t24 : (s.p.ln == 24) = false := jB hl
  have t25 : (s.p.ln == 25) = true := jB hl
  have x0 := h.X.cells
  clear hl
  go_enter Tryz.func172, Tryz.ntmps172
  go_wp2_with fail
  refine HC.out.mono ?_
  rintro en w1 ⟨s3, rfl, H1, A1⟩
  go_wp2
  go_ret2
  exact ⟨s3, rfl, H1, A1⟩
theorem entryLine {B n : Nat} {w : World} {g gl cap gx : Nat} {c : Cfg} {a : Acc} {L : List Int} {s : Wk} (h : MX B w g gl cap gx c a L s w) (hm : L.length ≤ 1000) (hL : WR L) (hf : c.Wf) (x : St) (hx : Few 1000 x) (A : dI n w s x) (hp : PR x.p) (hn : n ≤ w.heap.size) (hg : gx < n) (h1 : g < n) (h2 : gl < n) : Calls Tryz.prog 172 #[.pointer (some ⟨g, 0, none⟩), .pointer (some ⟨gx, 0, none⟩)] w (LQ B w g gl cap gx c n (aU c a L x.p) x) := by
 have ep : s.p = x.p := A.p
 have ht : 0 ≤ s.p.t ∧ s.p.t < 18446744073709551616 := ep ▸ hp.t
 unfold aU
 by_cases h20 : x.p.ln = 20 ∨ x.p.ln = 21 ∨ x.p.ln = 22
 ·rw [if_pos h20]
  rcases h20 with e | e | e
  ·exact enq20 h hm hL hf x hx A hp hn hg qa6i
  ·exact enq21 h hm hL hf x hx A hp hn hg qa6i
  ·exact enq22 h hm hL hf x hx A hp hn hg qa6i
 rw [if_neg h20]
 by_cases h23 : x.p.ln = 23 ∨ x.p.ln = 24 ∨ x.p.ln = 25
 ·rw [if_pos h23]
  rcases h23 with e | e | e
  ·exact enq23 h hm hL hf x hx A hp hn hg qa6i
  ·exact enq24 h hm hL hf x hx A hp hn hg qa6i
  ·exact enq25 h hm hL hf x hx A hp hn hg qa6i
 rw [if_neg h23]
 suffices hs : Calls Tryz.prog 172 #[.pointer (some ⟨g, 0, none⟩), .pointer (some ⟨gx, 0, none⟩)] w (LP B w g gl cap gx c (if s.p.ln = 40 then en40 c L s.p else if s.p.ln = 41 then en41 c L s.p else if s.p.ln = 42 ∨ s.p.ln = 44 ∨ s.p.ln = 46 ∨ s.p.ln = 60 then enFind c L s.p else if s.p.ln = 43 then en43 c L s.p else if s.p.ln = 45 then en45 c L s.p else ⟨a, L, s.p, 0, false⟩) s) from hs.mono (fun e w' k => by rw [ep] at k; exact LQ.of k A h1 h2 hg)
 rw [← ep] at h20 h23
 by_cases h40 : s.p.ln = 40
 ·rw [if_pos h40]; exact enl40 h hm hL hf ht h40
 rw [if_neg h40]
 by_cases h41 : s.p.ln = 41
 ·rw [if_pos h41]; exact enl41 h hm hL hf ht h41
 rw [if_neg h41]
 by_cases hq : s.p.ln = 42 ∨ s.p.ln = 44 ∨ s.p.ln = 46 ∨ s.p.ln = 60
 ·rw [if_pos hq]
  unfold enFind
  split
  ·rename_i hb
   rcases hq with e | e | e | e
   ·exact enl42y h hm hL hf ht e hb
   ·exact enl44y h hm hL hf ht e hb
   ·exact enl46y h hm hL hf ht e hb
   ·exact enl60y h hm hL hf ht e hb
  ·rename_i hb
   have hb := eq_false_of_ne_true hb
   rcases hq with e | e | e | e
   ·exact enl42n h hm hL hf ht e hb
   ·exact enl44n h hm hL hf ht e hb
   ·exact enl46n h hm hL hf ht e hb
   ·exact enl60n h hm hL hf ht e hb
 rw [if_neg hq]
 by_cases h43 : s.p.ln = 43
 ·rw [if_pos h43]
  unfold en43 enNext enHand
  by_cases hla : c.la ≤ s.p.t / 65536
  ·simp only [if_pos hla]
   split
   ·rename_i hb; exact enl431y h hm hL hf ht h43 hla hb
   ·rename_i hb; exact enl431n h hm hL hf ht h43 hla (eq_false_of_ne_true hb)
  ·simp only [if_neg hla]
   split
   ·rename_i hb; exact enl430y h hm hL hf ht h43 hla hb
   ·rename_i hb; exact enl430n h hm hL hf ht h43 hla (eq_false_of_ne_true hb)
 rw [if_neg h43]
 by_cases h45 : s.p.ln = 45
 ·rw [if_pos h45]
  unfold en45
  split
  ·rename_i hb; exact enl45y h hm hL hf ht h45 hb
  ·rename_i hb; exact enl45n h hm hL hf ht h45 (eq_false_of_ne_true hb)
 rw [if_neg h45]
 exact enNone h hm hL hf ht aj
theorem entryStepAny {B : Nat} {w : World} {g gl cap : Nat} {c : Cfg} {a : Acc} {L : List Int} (M : aC B w g c a gl cap L) (hf : c.Wf) (hm : L.length ≤ 1000) (hL : WR L) (s : Wk) (x : St) (hx : Few 1000 x) (h : aP w s x) (hp : PR x.p) :
  Calls Tryz.prog 148 #[.pointer (some ⟨g, 0, none⟩), wv s] w (iI B g gl cap c (aU c a L x.p).fin x w) :=
 entryStep M s x hx h _ fun gx s1 w1 H e A hg hs => entryLine H hm hL hf x hx A hp hs hg (Nat.lt_add_right 2 M.lt.1) (Nat.lt_add_right 2 M.lt.2)
end Go.Proofs.YtaiodbcnbcdokaaGreat.Me

/- The reference's Great, and Same on equal states (made by gensame.py). -/
import Derived.Test.YtgpdkagmacpghaaGreatWorks
import Derived.Laws.StructEq
namespace Go.Proofs.YtgpdkagmacpghaaGreat.Wo
open Go Go.RowKit Go.Proofs.YtgpdkagmacpghaaGreat.Gro Go.Proofs.YtgpdkagmacpghaaGreat.Own Go.Proofs.YtgpdkagmacpghaaGreat.Wd Go.Proofs.YtgpdkagmacpghaaGreat.Ap Go.Proofs.YtgpdkagmacpghaaGreat.Pl
set_option linter.unusedVariables false
set_option linter.unusedSimpArgs false

theorem ints_true {w : World} {v1 v2 : Value} {l : List Int} (h1 : Reads w .i64 v1 l) (h2 : Reads w .i64 v2 l) : Calls Tryz.prog 41 #[v1, v2] w fun e w' => e = .returned (.bool true) ∧ Below w.heap.size w w' := by
  have h := ints h1 h2
  rwa [decide_eq_true rfl] at h
theorem words_true {w : World} {v1 v2 : Value} {l : List Int} (h1 : Reads w .u64 v1 l) (h2 : Reads w .u64 v2 l) : Calls Tryz.prog 26 #[v1, v2] w fun e w' => e = .returned (.bool true) ∧ Below w.heap.size w w' := by
  have h := same h1 h2
  rwa [decide_eq_true rfl] at h
theorem ints_grown {w : World} {v1 v2 : Value} {l : List Int} (h1 : Reads w .i64 v1 l) (h2 : Reads w .i64 v2 l) (n : Gr w) : Calls Tryz.prog 41 #[v1, v2] n.1 fun e w'' => e = .returned (.bool true) ∧ ∃ m : Gr w, w'' = m.1 :=
  grown_of (ints_true (h1.keep n.2) (h2.keep n.2))
theorem dec_self (l : List Int) : decide (l = l) = true := by simp
set_option maxRecDepth 10000 in
theorem great_no (s : Wk) (x : St) (w : World) (h : Lies w s x) (hx : Few 40 x) : Calls Tryz.prog 9 #[wv s] w fun e w' => e = .returned (.bool false) ∧ Below w.heap.size w w' := by
  have e10 : ∀ s : Wk, (wc s)[10]? = some (.slice s.rk.ad s.rk.len s.rk.cap) := fun _ => rfl
  have e17 : ∀ s : Wk, (wc s)[17]? = some (.slice s.hl.ad s.hl.len s.hl.cap) := fun _ => rfl
  have e29 : ∀ s : Wk, (wc s)[29]? = some (.slice s.rd.ad s.rd.len s.rd.cap) := fun _ => rfl
  have e12 : ∀ s : Wk, (wc s)[12]? = some (.slice s.l0.ad s.l0.len s.l0.cap) := fun _ => rfl
  have e14 : ∀ s : Wk, (wc s)[14]? = some (.slice s.l1.ad s.l1.len s.l1.cap) := fun _ => rfl
  have e16 : ∀ s : Wk, (wc s)[16]? = some (.slice s.l2.ad s.l2.len s.l2.cap) := fun _ => rfl
  have nrk := reads_len h.rk
  have nhl := reads_len h.hl
  have nrd := reads_len h.rd
  have nl0 := reads_len h.l0
  have nl1 := reads_len h.l1
  have nl2 := reads_len h.l2
  have mrk := (reads_le h.rk).1
  have qrk := (reads_le h.rk).2
  have mhl := (reads_le h.hl).1
  have qhl := (reads_le h.hl).2
  have mrd := (reads_le h.rd).1
  have qrd := (reads_le h.rd).2
  have ml0 := (reads_le h.l0).1
  have ql0 := (reads_le h.l0).2
  have ml1 := (reads_le h.l1).1
  have ql1 := (reads_le h.l1).2
  have ml2 := (reads_le h.l2).1
  have ql2 := (reads_le h.l2).2
  unfold maxLen at qrk qhl qrd ql0 ql1 ql2
  have crk := hx.rk
  have drk : decide ((40 : Int) < (s.rk.len : Int)) = false := by simp; omega
  have chl := hx.hl
  have dhl : decide ((40 : Int) < (s.hl.len : Int)) = false := by simp; omega
  have crd := hx.rd
  have drd : decide ((40 : Int) < (s.rd.len : Int)) = false := by simp; omega
  have cl0 := hx.l0
  have dl0 : decide ((40 : Int) < (s.l0.len : Int)) = false := by simp; omega
  have cl1 := hx.l1
  have dl1 : decide ((40 : Int) < (s.l1.len : Int)) = false := by simp; omega
  have cl2 := hx.l2
  have dl2 : decide ((40 : Int) < (s.l2.len : Int)) = false := by simp; omega
  clear nrk nhl nrd nl0 nl1 nl2
  go_enter Tryz.func9, Tryz.ntmps9
  go_wp2
  go_ret
  exact ⟨rfl, (Below.refl _ _).alloc (Nat.le_refl _) _⟩
set_option maxRecDepth 10000 in
theorem great_rk (s : Wk) (x : St) (w : World) (h : Lies w s x)  (hrk : 40 < x.rk.length) : Calls Tryz.prog 9 #[wv s] w fun e w' => e = .returned (.bool true) ∧ Below w.heap.size w w' := by
  have e10 : ∀ s : Wk, (wc s)[10]? = some (.slice s.rk.ad s.rk.len s.rk.cap) := fun _ => rfl
  have e17 : ∀ s : Wk, (wc s)[17]? = some (.slice s.hl.ad s.hl.len s.hl.cap) := fun _ => rfl
  have e29 : ∀ s : Wk, (wc s)[29]? = some (.slice s.rd.ad s.rd.len s.rd.cap) := fun _ => rfl
  have e12 : ∀ s : Wk, (wc s)[12]? = some (.slice s.l0.ad s.l0.len s.l0.cap) := fun _ => rfl
  have e14 : ∀ s : Wk, (wc s)[14]? = some (.slice s.l1.ad s.l1.len s.l1.cap) := fun _ => rfl
  have e16 : ∀ s : Wk, (wc s)[16]? = some (.slice s.l2.ad s.l2.len s.l2.cap) := fun _ => rfl
  have nrk := reads_len h.rk
  have nhl := reads_len h.hl
  have nrd := reads_len h.rd
  have nl0 := reads_len h.l0
  have nl1 := reads_len h.l1
  have nl2 := reads_len h.l2
  have mrk := (reads_le h.rk).1
  have qrk := (reads_le h.rk).2
  have mhl := (reads_le h.hl).1
  have qhl := (reads_le h.hl).2
  have mrd := (reads_le h.rd).1
  have qrd := (reads_le h.rd).2
  have ml0 := (reads_le h.l0).1
  have ql0 := (reads_le h.l0).2
  have ml1 := (reads_le h.l1).1
  have ql1 := (reads_le h.l1).2
  have ml2 := (reads_le h.l2).1
  have ql2 := (reads_le h.l2).2
  unfold maxLen at qrk qhl qrd ql0 ql1 ql2
  have drk : decide ((40 : Int) < (s.rk.len : Int)) = true := by simp; omega
  clear nrk nhl nrd nl0 nl1 nl2
  go_enter Tryz.func9, Tryz.ntmps9
  go_wp2
  go_ret
  exact ⟨rfl, (Below.refl _ _).alloc (Nat.le_refl _) _⟩
set_option maxRecDepth 10000 in
theorem great_hl (s : Wk) (x : St) (w : World) (h : Lies w s x) (hrk : x.rk.length ≤ 40) (hhl : 40 < x.hl.length) : Calls Tryz.prog 9 #[wv s] w fun e w' => e = .returned (.bool true) ∧ Below w.heap.size w w' := by
  have e10 : ∀ s : Wk, (wc s)[10]? = some (.slice s.rk.ad s.rk.len s.rk.cap) := fun _ => rfl
  have e17 : ∀ s : Wk, (wc s)[17]? = some (.slice s.hl.ad s.hl.len s.hl.cap) := fun _ => rfl
  have e29 : ∀ s : Wk, (wc s)[29]? = some (.slice s.rd.ad s.rd.len s.rd.cap) := fun _ => rfl
  have e12 : ∀ s : Wk, (wc s)[12]? = some (.slice s.l0.ad s.l0.len s.l0.cap) := fun _ => rfl
  have e14 : ∀ s : Wk, (wc s)[14]? = some (.slice s.l1.ad s.l1.len s.l1.cap) := fun _ => rfl
  have e16 : ∀ s : Wk, (wc s)[16]? = some (.slice s.l2.ad s.l2.len s.l2.cap) := fun _ => rfl
  have nrk := reads_len h.rk
  have nhl := reads_len h.hl
  have nrd := reads_len h.rd
  have nl0 := reads_len h.l0
  have nl1 := reads_len h.l1
  have nl2 := reads_len h.l2
  have mrk := (reads_le h.rk).1
  have qrk := (reads_le h.rk).2
  have mhl := (reads_le h.hl).1
  have qhl := (reads_le h.hl).2
  have mrd := (reads_le h.rd).1
  have qrd := (reads_le h.rd).2
  have ml0 := (reads_le h.l0).1
  have ql0 := (reads_le h.l0).2
  have ml1 := (reads_le h.l1).1
  have ql1 := (reads_le h.l1).2
  have ml2 := (reads_le h.l2).1
  have ql2 := (reads_le h.l2).2
  unfold maxLen at qrk qhl qrd ql0 ql1 ql2
  have drk : decide ((40 : Int) < (s.rk.len : Int)) = false := by simp; omega
  have dhl : decide ((40 : Int) < (s.hl.len : Int)) = true := by simp; omega
  clear nrk nhl nrd nl0 nl1 nl2
  go_enter Tryz.func9, Tryz.ntmps9
  go_wp2
  go_ret
  exact ⟨rfl, (Below.refl _ _).alloc (Nat.le_refl _) _⟩
set_option maxRecDepth 10000 in
theorem great_rd (s : Wk) (x : St) (w : World) (h : Lies w s x) (hrk : x.rk.length ≤ 40) (hhl : x.hl.length ≤ 40) (hrd : 40 < x.rd.length) : Calls Tryz.prog 9 #[wv s] w fun e w' => e = .returned (.bool true) ∧ Below w.heap.size w w' := by
  have e10 : ∀ s : Wk, (wc s)[10]? = some (.slice s.rk.ad s.rk.len s.rk.cap) := fun _ => rfl
  have e17 : ∀ s : Wk, (wc s)[17]? = some (.slice s.hl.ad s.hl.len s.hl.cap) := fun _ => rfl
  have e29 : ∀ s : Wk, (wc s)[29]? = some (.slice s.rd.ad s.rd.len s.rd.cap) := fun _ => rfl
  have e12 : ∀ s : Wk, (wc s)[12]? = some (.slice s.l0.ad s.l0.len s.l0.cap) := fun _ => rfl
  have e14 : ∀ s : Wk, (wc s)[14]? = some (.slice s.l1.ad s.l1.len s.l1.cap) := fun _ => rfl
  have e16 : ∀ s : Wk, (wc s)[16]? = some (.slice s.l2.ad s.l2.len s.l2.cap) := fun _ => rfl
  have nrk := reads_len h.rk
  have nhl := reads_len h.hl
  have nrd := reads_len h.rd
  have nl0 := reads_len h.l0
  have nl1 := reads_len h.l1
  have nl2 := reads_len h.l2
  have mrk := (reads_le h.rk).1
  have qrk := (reads_le h.rk).2
  have mhl := (reads_le h.hl).1
  have qhl := (reads_le h.hl).2
  have mrd := (reads_le h.rd).1
  have qrd := (reads_le h.rd).2
  have ml0 := (reads_le h.l0).1
  have ql0 := (reads_le h.l0).2
  have ml1 := (reads_le h.l1).1
  have ql1 := (reads_le h.l1).2
  have ml2 := (reads_le h.l2).1
  have ql2 := (reads_le h.l2).2
  unfold maxLen at qrk qhl qrd ql0 ql1 ql2
  have drk : decide ((40 : Int) < (s.rk.len : Int)) = false := by simp; omega
  have dhl : decide ((40 : Int) < (s.hl.len : Int)) = false := by simp; omega
  have drd : decide ((40 : Int) < (s.rd.len : Int)) = true := by simp; omega
  clear nrk nhl nrd nl0 nl1 nl2
  go_enter Tryz.func9, Tryz.ntmps9
  go_wp2
  go_ret
  exact ⟨rfl, (Below.refl _ _).alloc (Nat.le_refl _) _⟩
set_option maxRecDepth 10000 in
theorem great_l0 (s : Wk) (x : St) (w : World) (h : Lies w s x) (hrk : x.rk.length ≤ 40) (hhl : x.hl.length ≤ 40) (hrd : x.rd.length ≤ 40) (hl0 : 40 < x.l0.length) : Calls Tryz.prog 9 #[wv s] w fun e w' => e = .returned (.bool true) ∧ Below w.heap.size w w' := by
  have e10 : ∀ s : Wk, (wc s)[10]? = some (.slice s.rk.ad s.rk.len s.rk.cap) := fun _ => rfl
  have e17 : ∀ s : Wk, (wc s)[17]? = some (.slice s.hl.ad s.hl.len s.hl.cap) := fun _ => rfl
  have e29 : ∀ s : Wk, (wc s)[29]? = some (.slice s.rd.ad s.rd.len s.rd.cap) := fun _ => rfl
  have e12 : ∀ s : Wk, (wc s)[12]? = some (.slice s.l0.ad s.l0.len s.l0.cap) := fun _ => rfl
  have e14 : ∀ s : Wk, (wc s)[14]? = some (.slice s.l1.ad s.l1.len s.l1.cap) := fun _ => rfl
  have e16 : ∀ s : Wk, (wc s)[16]? = some (.slice s.l2.ad s.l2.len s.l2.cap) := fun _ => rfl
  have nrk := reads_len h.rk
  have nhl := reads_len h.hl
  have nrd := reads_len h.rd
  have nl0 := reads_len h.l0
  have nl1 := reads_len h.l1
  have nl2 := reads_len h.l2
  have mrk := (reads_le h.rk).1
  have qrk := (reads_le h.rk).2
  have mhl := (reads_le h.hl).1
  have qhl := (reads_le h.hl).2
  have mrd := (reads_le h.rd).1
  have qrd := (reads_le h.rd).2
  have ml0 := (reads_le h.l0).1
  have ql0 := (reads_le h.l0).2
  have ml1 := (reads_le h.l1).1
  have ql1 := (reads_le h.l1).2
  have ml2 := (reads_le h.l2).1
  have ql2 := (reads_le h.l2).2
  unfold maxLen at qrk qhl qrd ql0 ql1 ql2
  have drk : decide ((40 : Int) < (s.rk.len : Int)) = false := by simp; omega
  have dhl : decide ((40 : Int) < (s.hl.len : Int)) = false := by simp; omega
  have drd : decide ((40 : Int) < (s.rd.len : Int)) = false := by simp; omega
  have dl0 : decide ((40 : Int) < (s.l0.len : Int)) = true := by simp; omega
  clear nrk nhl nrd nl0 nl1 nl2
  go_enter Tryz.func9, Tryz.ntmps9
  go_wp2
  go_ret
  exact ⟨rfl, (Below.refl _ _).alloc (Nat.le_refl _) _⟩
set_option maxRecDepth 10000 in
theorem great_l1 (s : Wk) (x : St) (w : World) (h : Lies w s x) (hrk : x.rk.length ≤ 40) (hhl : x.hl.length ≤ 40) (hrd : x.rd.length ≤ 40) (hl0 : x.l0.length ≤ 40) (hl1 : 40 < x.l1.length) : Calls Tryz.prog 9 #[wv s] w fun e w' => e = .returned (.bool true) ∧ Below w.heap.size w w' := by
  have e10 : ∀ s : Wk, (wc s)[10]? = some (.slice s.rk.ad s.rk.len s.rk.cap) := fun _ => rfl
  have e17 : ∀ s : Wk, (wc s)[17]? = some (.slice s.hl.ad s.hl.len s.hl.cap) := fun _ => rfl
  have e29 : ∀ s : Wk, (wc s)[29]? = some (.slice s.rd.ad s.rd.len s.rd.cap) := fun _ => rfl
  have e12 : ∀ s : Wk, (wc s)[12]? = some (.slice s.l0.ad s.l0.len s.l0.cap) := fun _ => rfl
  have e14 : ∀ s : Wk, (wc s)[14]? = some (.slice s.l1.ad s.l1.len s.l1.cap) := fun _ => rfl
  have e16 : ∀ s : Wk, (wc s)[16]? = some (.slice s.l2.ad s.l2.len s.l2.cap) := fun _ => rfl
  have nrk := reads_len h.rk
  have nhl := reads_len h.hl
  have nrd := reads_len h.rd
  have nl0 := reads_len h.l0
  have nl1 := reads_len h.l1
  have nl2 := reads_len h.l2
  have mrk := (reads_le h.rk).1
  have qrk := (reads_le h.rk).2
  have mhl := (reads_le h.hl).1
  have qhl := (reads_le h.hl).2
  have mrd := (reads_le h.rd).1
  have qrd := (reads_le h.rd).2
  have ml0 := (reads_le h.l0).1
  have ql0 := (reads_le h.l0).2
  have ml1 := (reads_le h.l1).1
  have ql1 := (reads_le h.l1).2
  have ml2 := (reads_le h.l2).1
  have ql2 := (reads_le h.l2).2
  unfold maxLen at qrk qhl qrd ql0 ql1 ql2
  have drk : decide ((40 : Int) < (s.rk.len : Int)) = false := by simp; omega
  have dhl : decide ((40 : Int) < (s.hl.len : Int)) = false := by simp; omega
  have drd : decide ((40 : Int) < (s.rd.len : Int)) = false := by simp; omega
  have dl0 : decide ((40 : Int) < (s.l0.len : Int)) = false := by simp; omega
  have dl1 : decide ((40 : Int) < (s.l1.len : Int)) = true := by simp; omega
  clear nrk nhl nrd nl0 nl1 nl2
  go_enter Tryz.func9, Tryz.ntmps9
  go_wp2
  go_ret
  exact ⟨rfl, (Below.refl _ _).alloc (Nat.le_refl _) _⟩
set_option maxRecDepth 10000 in
theorem great_l2 (s : Wk) (x : St) (w : World) (h : Lies w s x) (hrk : x.rk.length ≤ 40) (hhl : x.hl.length ≤ 40) (hrd : x.rd.length ≤ 40) (hl0 : x.l0.length ≤ 40) (hl1 : x.l1.length ≤ 40) (hl2 : 40 < x.l2.length) : Calls Tryz.prog 9 #[wv s] w fun e w' => e = .returned (.bool true) ∧ Below w.heap.size w w' := by
  have e10 : ∀ s : Wk, (wc s)[10]? = some (.slice s.rk.ad s.rk.len s.rk.cap) := fun _ => rfl
  have e17 : ∀ s : Wk, (wc s)[17]? = some (.slice s.hl.ad s.hl.len s.hl.cap) := fun _ => rfl
  have e29 : ∀ s : Wk, (wc s)[29]? = some (.slice s.rd.ad s.rd.len s.rd.cap) := fun _ => rfl
  have e12 : ∀ s : Wk, (wc s)[12]? = some (.slice s.l0.ad s.l0.len s.l0.cap) := fun _ => rfl
  have e14 : ∀ s : Wk, (wc s)[14]? = some (.slice s.l1.ad s.l1.len s.l1.cap) := fun _ => rfl
  have e16 : ∀ s : Wk, (wc s)[16]? = some (.slice s.l2.ad s.l2.len s.l2.cap) := fun _ => rfl
  have nrk := reads_len h.rk
  have nhl := reads_len h.hl
  have nrd := reads_len h.rd
  have nl0 := reads_len h.l0
  have nl1 := reads_len h.l1
  have nl2 := reads_len h.l2
  have mrk := (reads_le h.rk).1
  have qrk := (reads_le h.rk).2
  have mhl := (reads_le h.hl).1
  have qhl := (reads_le h.hl).2
  have mrd := (reads_le h.rd).1
  have qrd := (reads_le h.rd).2
  have ml0 := (reads_le h.l0).1
  have ql0 := (reads_le h.l0).2
  have ml1 := (reads_le h.l1).1
  have ql1 := (reads_le h.l1).2
  have ml2 := (reads_le h.l2).1
  have ql2 := (reads_le h.l2).2
  unfold maxLen at qrk qhl qrd ql0 ql1 ql2
  have drk : decide ((40 : Int) < (s.rk.len : Int)) = false := by simp; omega
  have dhl : decide ((40 : Int) < (s.hl.len : Int)) = false := by simp; omega
  have drd : decide ((40 : Int) < (s.rd.len : Int)) = false := by simp; omega
  have dl0 : decide ((40 : Int) < (s.l0.len : Int)) = false := by simp; omega
  have dl1 : decide ((40 : Int) < (s.l1.len : Int)) = false := by simp; omega
  have dl2 : decide ((40 : Int) < (s.l2.len : Int)) = true := by simp; omega
  clear nrk nhl nrd nl0 nl1 nl2
  go_enter Tryz.func9, Tryz.ntmps9
  go_wp2
  go_ret
  exact ⟨rfl, (Below.refl _ _).alloc (Nat.le_refl _) _⟩
theorem great_yes (s : Wk) (x : St) (w : World) (h : Lies w s x) (hx : ¬ Few 40 x) : Calls Tryz.prog 9 #[wv s] w fun e w' => e = .returned (.bool true) ∧ Below w.heap.size w w' := by
  by_cases hrk : x.rk.length ≤ 40
  rotate_left
  · exact great_rk s x w h  (by omega)
  by_cases hhl : x.hl.length ≤ 40
  rotate_left
  · exact great_hl s x w h hrk (by omega)
  by_cases hrd : x.rd.length ≤ 40
  rotate_left
  · exact great_rd s x w h hrk hhl (by omega)
  by_cases hl0 : x.l0.length ≤ 40
  rotate_left
  · exact great_l0 s x w h hrk hhl hrd (by omega)
  by_cases hl1 : x.l1.length ≤ 40
  rotate_left
  · exact great_l1 s x w h hrk hhl hrd hl0 (by omega)
  by_cases hl2 : x.l2.length ≤ 40
  rotate_left
  · exact great_l2 s x w h hrk hhl hrd hl0 hl1 (by omega)
  exact absurd ⟨hrk, hl0, hl1, hl2, hhl, hrd⟩ hx
end Go.Proofs.YtgpdkagmacpghaaGreat.Wo

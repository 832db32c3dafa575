/- The contract of ideal.ruleOf. -/
import Derived.Test.YtgpdkagmacpghaaIdealRules
import Derived.Deep.RegionWith
import Derived.Deep.RegionHeld3
import Derived.RegionCalls
import Derived.Deep.QuietTactic
import Derived.BigQuiet
namespace Go.Proofs.Ytgpdkagmacpghaa.Idl
open Go Go.RowKit Go.Proofs.Ytgpdkagmacpghaa.Mr Go.ChangeMaps
set_option linter.unusedVariables false
set_option linter.unusedSimpArgs false

/-- The cells of an api.Answer. -/
structure Ans where
  (kind ot x slab by_ nth t ret : Int)
  use : Bool
  read : Value
def Ans.val (a : Ans) : Value := .agg #[.int .i64 a.kind, .int .u64 a.ot, .int .u64 a.x, .int .i64 a.slab, .bool a.use, .int .i64 a.by_, .int .i64 a.nth, .int .u64 a.t, .int .i64 a.ret, a.read]

/-- A fact of a look-up in a list that is a permutation. -/
theorem look_perm {L L' : List ((Int × Int) × Value)} (h : L.Perm L') (hn : (L'.map (·.1)).Nodup) (k : Int × Int) : Mr.look k L = Mr.look k L' := by
  induction h with
  | nil => rfl
  | cons x _ ih =>
    simp only [List.map_cons, List.nodup_cons] at hn
    simp only [Mr.look, ih hn.2]
  | swap x y l =>
    simp only [List.map_cons, List.nodup_cons, List.mem_cons, not_or] at hn
    simp only [Mr.look]
    by_cases h1 : k = x.1
    · by_cases h2 : k = y.1
      · exact absurd (h1.symm.trans h2) hn.1.1
      · rw [if_neg h2, if_pos h1, if_pos h1]
    · rw [if_neg h1, if_neg h1]
  | trans h1 h2 ih1 ih2 => rw [ih1 (((h2.map _).nodup_iff).2 hn), ih2 hn]

/-- The table with plain numbers: (kind, Ret) to (needs, does). -/
def tblI : List ((Int × Int) × (Int × Int)) := [((3, 0), (1, 1)), ((3, 5), (0, 0)), ((4, 0), (2, 2)), ((4, 6), (2, 0)), ((4, 7), (4, 0)), ((4, 8), (4, 0)), ((5, 0), (2, 3)), ((5, 5), (0, 0)), ((5, 6), (2, 0)), ((5, 7), (4, 0)), ((5, 8), (4, 0)), ((6, 0), (3, 0)), ((6, 7), (4, 0)), ((6, 8), (4, 0))]
def lookI (k : Int × Int) : List ((Int × Int) × (Int × Int)) → Option (Int × Int)
  | [] => none
  | p :: r => if k = p.1 then some p.2 else lookI k r
theorem look_map (k : Int × Int) : ∀ l : List ((Int × Int) × (Int × Int)), Mr.look k (l.map fun p => (p.1, rv p.2.1 p.2.2)) = (lookI k l).map fun q => rv q.1 q.2
  | [] => rfl
  | p :: r => by
    simp only [List.map_cons, Mr.look, lookI, look_map k r]
    split <;> rfl
theorem tbl_eq : tbl = tblI.map fun p => (p.1, rv p.2.1 p.2.2) := rfl
def tn (k r : Int) : Int := ((lookI (k, r) tblI).getD (0, 0)).1
def td (k r : Int) : Int := ((lookI (k, r) tblI).getD (0, 0)).2
def tok (k r : Int) : Bool := (lookI (k, r) tblI).isSome
theorem look_tbl (k r : Int) : (Mr.look (k, r) tbl).getD (rv 0 0) = .agg #[.int .i64 (tn k r), .int .i64 (td k r)] ∧ (Mr.look (k, r) tbl).isSome = tok k r := by
  rw [tbl_eq, look_map]
  unfold tn td tok
  cases lookI (k, r) tblI <;> exact ⟨rfl, rfl⟩
theorem tbl_nodup : (tbl.map (·.1)).Nodup := by decide
theorem zero_rule (w : World) : (zeroValue 162).run Try.prog w = .ok (rv 0 0) w := by kernel_rfl
theorem mapAt_alloc {κ : Type} {val : κ → Value} {L : List (κ × Value)} {w : World} {b : Nat} (h : MapAt w b val L) (o : Obj) : MapAt (w.alloc o) b val L := by
  obtain ⟨es, c, hb, hL⟩ := h
  refine ⟨es, c, ?_, hL⟩
  have hlt : b < w.heap.size := (Array.getElem?_eq_some_iff.1 hb).1
  show (w.heap.push o)[b]? = _
  rw [Array.getElem?_push_lt hlt]; rw [Array.getElem?_eq_getElem hlt] at hb; exact hb
theorem look_facts {L : List ((Int × Int) × Value)} {w : World} {b : Nat} (hp : L.Perm tbl) (hm : MapAt w b pairV L) (k r : Int) :
    ((Instr.lookup 180 (.map (some b)) (.agg #[.int .i64 k, .int .i64 r]) true).run Try.prog w = .ok (.tuple #[.agg #[.int .i64 (tn k r), .int .i64 (td k r)], .bool (tok k r)]) w) ∧
    ∀ o, ((Instr.lookup 180 (.map (some b)) (.agg #[.int .i64 k, .int .i64 r]) true).run Try.prog (w.alloc o) = .ok (.tuple #[.agg #[.int .i64 (tn k r), .int .i64 (td k r)], .bool (tok k r)]) (w.alloc o)) := by
  have h1 := run_look ruleKeys Try.underlying180 (zero_rule w) hm (k, r) true
  rw [look_perm hp tbl_nodup, (look_tbl k r).1, (look_tbl k r).2] at h1
  refine ⟨h1, fun o => ?_⟩
  have h2 := run_look ruleKeys Try.underlying180 (zero_rule _) (mapAt_alloc hm o) (k, r) true
  rw [look_perm hp tbl_nodup, (look_tbl k r).1, (look_tbl k r).2] at h2
  exact h2
theorem bcell {W w1 : World} (hb : Below W.heap.size W w1) : (∀ b o, b < W.heap.size → w1.cell? ⟨b, o, none⟩ = W.cell? ⟨b, o, none⟩) ∧ (∀ b o, b < W.heap.size → w1.frozen? ⟨b, o, none⟩ = W.frozen? ⟨b, o, none⟩) :=
  ⟨fun b o h => hb.cell (p := ⟨b, o, none⟩) h, fun b o h => hb.frozen (p := ⟨b, o, none⟩) h⟩

theorem far1 {w : World} {b b' i j : Nat} {v : Value} {x : Option Value} (h : b' ≠ b) (hc : w.cell? ⟨b, j, none⟩ = x) : (w.setCell ⟨b', i, none⟩ v).cell? ⟨b, j, none⟩ = x := by
  rw [World.cell?_setCell_other _ _ _ _ (by intro e; injection e; contradiction)]; exact hc
theorem far2 {w : World} {b b' i i' j : Nat} {v v' : Value} {x : Option Value} (h : b' ≠ b) (hc : w.cell? ⟨b, j, none⟩ = x) : ((w.setCell ⟨b', i, none⟩ v).setCell ⟨b', i', none⟩ v').cell? ⟨b, j, none⟩ = x := far1 h (far1 h hc)
def quietKind (k : Int) : Bool := k == 1 || k == 2 || k == 7 || k == 8 || k == 9
def rn (k r : Int) : Int := if quietKind k then 0 else tn k r
def rd (k r : Int) : Int := if quietKind k then 0 else td k r
def rok (k r : Int) : Bool := quietKind k || tok k r

set_option maxRecDepth 100000 in
set_option maxHeartbeats 1000000 in
theorem ruleOf_table (a : Ans) (w : World) (h : quietKind a.kind = false) : Calls Try.prog 114 #[a.val] w fun e w' => e = .returned (.tuple #[.agg #[.int .i64 (tn a.kind a.ret), .int .i64 (td a.kind a.ret)], .bool (tok a.kind a.ret)]) ∧ Below w.heap.size w w' := by
  obtain ⟨k, ot, x, sl, by_, nth, t, r, use, rd⟩ := a
  unfold Ans.val
  simp only at h ⊢
  have hq := h
  simp only [quietKind, Bool.or_eq_false_iff] at hq
  obtain ⟨⟨⟨⟨h1, h2⟩, h3⟩, h4⟩, h5⟩ := hq
  have H := Lib.hid h
  clear h
  go_enter Try.func114, Try.ntmps114
  go_wp2
  go_region_held3 (fun w' => w'.cell? ⟨w.heap.size, 0, none⟩ = some (.int .i64 k) ∧ w'.cell? ⟨w.heap.size, 8, none⟩ = some (.int .i64 r)) (first | go_keep | exact ⟨far2 (by omega) hk0, far2 (by omega) hk8⟩) ((go_at_call 130; refine (rules _).mono ?_; rintro e w1 ⟨L, hp, rfl, hm, hb⟩; have hl := look_facts hp hm k r; simp only [World.size_alloc, World.size_drew] at hl; obtain ⟨hl1, hl2⟩ := hl; obtain ⟨hc, hf⟩ := bcell hb; have hsz := hb.size; simp only [World.size_alloc, World.size_drew] at hc hf hsz; have hz0 : w.heap.size < w1.heap.size := (by omega); have hz1 : w.heap.size + 1 < w1.heap.size := (by omega); have hk0 : w1.cell? ⟨w.heap.size, 0, none⟩ = some (.int .i64 k) := (by rw [hc _ _ (by omega)]; go_simp); have hk8 : w1.cell? ⟨w.heap.size, 8, none⟩ = some (.int .i64 r) := (by rw [hc _ _ (by omega)]; go_simp); have hk10 : w1.cell? ⟨w.heap.size + 1, 0, none⟩ = some (.int .i64 0) := (by rw [hc _ _ (by omega)]; go_simp); have hk11 : w1.cell? ⟨w.heap.size + 1, 1, none⟩ = some (.int .i64 0) := (by rw [hc _ _ (by omega)]; go_simp); have HB := Lib.hid hb; clear hp hm hb))
  all_goals
    go_wp2
    refine bodyPost_ret (v := .tuple #[.agg #[.int .i64 (tn k r), .int .i64 (td k r)], .bool (tok k r)]) ?_ rfl ⟨rfl, ?_⟩
    · simp [results, Try.results114, go_sem, hz0, hz1, hk10, hk11]
    · have hb := HB.out
      have hb1 : Below w.heap.size w w1 := by
        refine Below.trans ?_ (hb.mono (by simp; omega))
        repeat (first | exact Below.refl _ _ | refine Below.drew ?_ | refine Below.alloc ?_ (by simp; try omega) _)
      repeat (first | exact hb1 | refine Below.drew ?_ | refine Below.alloc ?_ (by simp; try omega) _ | refine Below.setCell ?_ (by simp; try omega) _)
theorem ruleOf_quiet (a : Ans) (w : World) (h : quietKind a.kind = true) : Calls Try.prog 114 #[a.val] w fun e w' => e = .returned (.tuple #[.agg #[.int .i64 0, .int .i64 0], .bool true]) ∧ Below w.heap.size w w' := by
  obtain ⟨k, ot, x, sl, by_, nth, t, r, use, rd⟩ := a
  unfold Ans.val
  simp only [quietKind, Bool.or_eq_true, beq_iff_eq] at h ⊢
  rcases h with (((rfl | rfl) | rfl) | rfl) | rfl
  all_goals
    go_enter Try.func114, Try.ntmps114
    go_wp2
    refine bodyPost_ret (v := .tuple #[.agg #[.int .i64 0, .int .i64 0], .bool true]) ?_ rfl ⟨rfl, ?_⟩
    · simp [results, Try.results114, go_sem]
    · repeat (first | exact Below.refl _ _ | refine Below.drew ?_ | refine Below.alloc ?_ (by simp; try omega) _ | refine Below.setCell ?_ (by simp; try omega) _)
theorem ruleOf (a : Ans) (w : World) : Calls Try.prog 114 #[a.val] w fun e w' => e = .returned (.tuple #[.agg #[.int .i64 (rn a.kind a.ret), .int .i64 (rd a.kind a.ret)], .bool (rok a.kind a.ret)]) ∧ Below w.heap.size w w' := by
  cases h : quietKind a.kind
  · simpa [rn, rd, rok, h] using ruleOf_table a w h
  · simpa [rn, rd, rok, h] using ruleOf_quiet a w h
end Go.Proofs.Ytgpdkagmacpghaa.Idl

/- Layer 12: a map that is made once and ranged over; oper.shapes (made by genopmap.py). -/
import Derived.Test.YtpmcedfeiconfaaGreatDoorMapWalk
import Derived.Test.YtpmcedfeiconfaaGreatDoorOwn
import Derived.Test.YtpmcedfeiconfaaGreatDoorOpNum
import Derived.Test.YtpmcedfeiconfaaGreatDoorRows
import Derived.Deep.RegionHeld3
import Derived.Deep.CutRange
import Derived.Deep.WholeRow
import Derived.WalkLawsBesides
import Derived.WalkSpells
import Derived.LoopTactic
import Derived.Lib.Hide
import Derived.Maps.RangeRun
import Derived.Maps.Range
namespace Go.Proofs.YtpmcedfeiconfaaGreatDoor.Opw
open Go Go.RowKit Go.ChangeMaps Go.Proofs.YtpmcedfeiconfaaGreatDoor.Gro Go.Proofs.YtpmcedfeiconfaaGreatDoor.Own Go.Proofs.YtpmcedfeiconfaaGreatDoor.Mr Go.Proofs.YtpmcedfeiconfaaGreatDoor.Opn
set_option linter.unusedVariables false
set_option linter.unusedSimpArgs false
set_option linter.unusedSectionVars false
section
variable {P : Program} {ops : Array Oper} {S : World → Prop} {a : Act} {o : Oper} {w : World} {K : Act → World → Prop} {Q : Exit → Act → World → Prop} {E : Prop} {rest : List Oper}
theorem yieldsIf_row (hgd : o.guard = none) (ty : TypeId) (x : Operand) (ho : o.op = .load ty x) (g : Nat) (hx : a.eval x = .pointer (some ⟨g, 0, none⟩)) (cs : Array Value) (t : TypeId) (d : TypeDesc)
    (hC : ∀ w, S w → Bk w g cs t) (hu : P.underlying ty = some d) (hd : (match d with | .struct _ | .array _ _ => true | _ => false) = true) (hi : (P.info? ty).map (·.size) = some cs.size) : YieldsIf P ops S o (.agg cs) a := by
  refine Or.inl ⟨by simp [Region.wanted, hgd], fun w hw => ?_⟩
  unfold execOp
  simp only [ho, hx, Instr.loadAt, Instr.sureAddr, Sem.run_bind, Sem.run_pure, Result.andThen_ok, run_loadVar_row w g t ty cs (0, 0) d (hC w hw) hu hd hi]
theorem step_row (hgd : o.guard = none) (ty : TypeId) (x y : Operand) (ho : o.op = .store ty x y) (g : Nat) (cells : Array Value) (hx : a.eval x = .pointer (some ⟨g, 0, none⟩)) (hy : a.eval y = .agg cells)
    (t : TypeId) (old : Array Value) (hg : w.heap[g]? = some (.cells old t (0, 0))) (hi : (P.info? ty).map (·.size) = some cells.size) (hold : old.size = cells.size) (h1 : cells.all (·.oneCell') = true)
    (h : K (a.put o.dst undef) (w.setRow g cells)) : if Region.wanted o (yielded ops a.tmps) = true then Oper.wp P o a w K Q else E := by
  rw [if_pos (by simp [Region.wanted, hgd])]
  exact wp_store_row ty x y ho g cells hx hy t old hg hi hold h1 h
theorem wpList_load_row_w (hw : Region.wanted o (yielded ops a.tmps) = true) (ty : TypeId) (x : Operand) (ho : o.op = .load ty x)
    (g : Nat) (hx : a.eval x = .pointer (some ⟨g, 0, none⟩)) (t : TypeId) (cs : Array Value) (fr : Nat × Nat) (d : TypeDesc) (hg : w.heap[g]? = some (.cells cs t fr))
    (hu : P.underlying ty = some d) (hd : (match d with | .struct _ | .array _ _ => true | _ => false) = true) (hi : (P.info? ty).map (·.size) = some cs.size)
    (h : wpList P ops Q rest (a.put o.dst (.agg cs)) w) : wpList P ops Q (o :: rest) a w :=
  wpList_step fun K hK => by rw [if_pos hw]; exact wp_load_row ty x ho g hx t cs fr d hg hu hd hi (hK _ _ h)
end
section
variable {κ : Type} [DecidableEq κ]
variable {P : Program} {ops : Array Oper} {rest : List Oper} {o : Oper} {a : Act} {w : World} {Q : Exit → Act → World → Prop} {t kt et : TypeId} {val : κ → Value} {b : Nat} {L : List (κ × Value)}
theorem run_insB (K : Keys P kt val) (ht : P.underlying t = some (.map kt et)) (h : MapB w b val L) (k : κ) (hk : idx k L 0 = none) (v : Value) :
    ∃ es' c', (Instr.mapUpdate t (.map (some b)) (val k) v).run P w = .ok () (setBlock w b (.map es' c')) ∧ es'.toList.map kv = (L ++ [(k, v)]).map (pr val) ∧ Born es' c' := by
  obtain ⟨es, clock, hb, hL, hB1, hB2⟩ := h
  have h1 := K.find w k L es.toList hL
  rw [hk] at h1
  refine ⟨es.push ⟨val k, v, clock⟩, clock + 1, ?_, ?_, ?_, ?_⟩
  · simp [Instr.mapUpdate, run_underlying ht, MapKept.run_getObj_map hb, K.check w false k, h1, MapKept.run_setObj_map _ hb, Result.andThen, setBlock]
  · rw [Array.toList_push, List.map_append, List.map_append, hL]; rfl
  · intro x hx
    rw [Array.toList_push] at hx
    rcases List.mem_append.1 hx with hx | hx
    · exact Nat.lt_succ_of_lt (hB1 x hx)
    · simp only [List.mem_singleton] at hx
      rw [hx]
      exact Nat.lt_succ_self _
  · simp only [Array.toList_push, List.map_append, List.map_cons, List.map_nil]
    refine List.nodup_append.2 ⟨hB2, by simp, fun a ha c hc e1 => ?_⟩
    obtain ⟨x, hx, rfl⟩ := List.mem_map.1 ha
    have := hB1 x hx
    simp only [List.mem_singleton] at hc
    omega
theorem wpList_insB (hw : Region.wanted o (yielded ops a.tmps) = true) (m x v : Operand) (ho : o.op = .insert t m x v) (K : Keys P kt val) (ht : P.underlying t = some (.map kt et))
    (b : Nat) (L : List (κ × Value)) (hm : a.eval m = .map (some b)) (k : κ) (hx : a.eval x = val k) (y : Value) (hv : a.eval v = y) (h : MapB w b val L) (hk : idx k L 0 = none)
    (hn : ∀ w', MapB w' b val (L ++ [(k, y)]) → Only b w w' → wpList P ops Q rest (a.put o.dst undef) w') : wpList P ops Q (o :: rest) a w :=
  wpList_step fun Kc hK => by
    rw [if_pos hw]
    obtain ⟨es', c', hr, hL, hB⟩ := run_insB K ht h k hk y
    unfold Oper.wp
    simp [execOp, ho, hm, hx, hv, hr, Result.andThen]
    obtain ⟨es, clock, hb, _⟩ := h
    exact hK _ _ (hn _ ⟨es', c', heap_setBlock_same hb _, hL, hB⟩ (Only.of_set hb _))
/-! ### a range under way -/
/-- The map in block b is being ranged over, the iterator in block r; of what has come out N holds; cnt entries are left. -/
def Rg (w : World) (b r : Nat) (val : κ → Value) (L : List (κ × Value)) (N : κ → Value → Prop) (cnt : Nat) : Prop :=
  ∃ es clock seen c0, w.heap[b]? = some (.map es clock) ∧ es.toList.map kv = L.map (pr val) ∧ Born es clock ∧ w.heap[r]? = some (.mapIter (some b) clock seen c0) ∧ clock ≤ c0 ∧
    (∀ x ∈ es.toList, seen.contains x.born = true → ∃ k, x.key = val k ∧ (k, x.val) ∈ L ∧ N k x.val) ∧ (leftOf es seen).size = cnt
theorem Rg.keep {w' : World} {r cnt B : Nat} {N : κ → Value → Prop} (h : Rg w b r val L N cnt) (hb : Below B w w') (h1 : b < B) (h2 : r < B) : Rg w' b r val L N cnt := by
  obtain ⟨es, clock, seen, c0, e1, e2, e3, e4, rest⟩ := h
  exact ⟨es, clock, seen, c0, (hb.block b h1).trans e1, e2, e3, (hb.block r h2).trans e4, rest⟩
theorem Rg.left_eq {r cnt : Nat} {N : κ → Value → Prop} (h : Rg w b r val L N cnt) : w.rangeLeft b r = cnt := by
  obtain ⟨es, clock, seen, c0, e1, e2, e3, e4, _, _, hc⟩ := h
  simp only [World.rangeLeft, e1, e4]
  exact hc
theorem Rg.lt {r cnt : Nat} {N : κ → Value → Prop} (h : Rg w b r val L N cnt) : b < w.heap.size ∧ r < w.heap.size := by
  obtain ⟨es, clock, seen, c0, e1, e2, e3, e4, _, _, hc⟩ := h
  exact ⟨(Array.getElem?_eq_some_iff.1 e1).1, (Array.getElem?_eq_some_iff.1 e4).1⟩
theorem wpList_range_b (hw : Region.wanted o (yielded ops a.tmps) = true) (m : Operand) (ho : o.op = .range t m) (ht : P.underlying t = some (.map kt et)) (b : Nat) (L : List (κ × Value)) (hm : a.eval m = .map (some b)) (N : κ → Value → Prop) (h : MapB w b val L)
    (hn : ∀ w' cnt, Rg w' b w.heap.size val L N cnt → Below w.heap.size w w' → wpList P ops Q rest (a.put o.dst (.pointer (some ⟨w.heap.size, 0, none⟩))) w') : wpList P ops Q (o :: rest) a w :=
  wpList_step fun Kc hK => by
    rw [if_pos hw]
    have hlt := h.lt
    obtain ⟨es, clock, hb, hL, hB⟩ := h
    have hr := run_range_map w t kt et b es clock ht hb
    unfold Oper.wp
    simp [execOp, ho, hm, hr, Result.andThen]
    exact hK _ _ (hn _ _ ⟨es, clock, #[], clock, ((MapKept.heap_alloc w _).2 b hlt).trans hb, hL, hB, (MapKept.heap_alloc w _).1, Nat.le_refl _, (fun x hx hs => by simp at hs), rfl⟩ ((Below.refl _ _).alloc (Nat.le_refl _) _))
theorem entry_at {L : List (κ × Value)} {es : Array MapEntry} (hL : es.toList.map kv = L.map (pr val)) {x : MapEntry} (hx : x ∈ es.toList) : ∃ k, x.key = val k ∧ (k, x.val) ∈ L := by
  have : kv x ∈ L.map (pr val) := by rw [← hL]; exact List.mem_map_of_mem hx
  obtain ⟨p, hp, e⟩ := List.mem_map.1 this
  obtain ⟨k, v⟩ := p
  simp only [pr, kv, Prod.mk.injEq] at e
  obtain ⟨e1, e2⟩ := e
  refine ⟨k, e1.symm, ?_⟩
  rw [← e2]
  exact hp
theorem left_push {es : Array MapEntry} {seen : Array Nat} {e : MapEntry} (he : e ∈ (leftOf es seen).toList) : (leftOf es (seen.push e.born)).size < (leftOf es seen).size := by
  have h1 : (leftOf es (seen.push e.born)).toList = (leftOf es seen).toList.filter (fun x => !(x.born == e.born)) := by
    unfold leftOf
    rw [Array.toList_filter, Array.toList_filter, List.filter_filter]
    congr 1
    funext x
    simp only [Array.contains_push]
    cases seen.contains x.born <;> cases (x.born == e.born) <;> simp_all
  have h2 := congrArg List.length h1
  rw [Array.length_toList] at h2
  rw [h2, ← Array.length_toList]
  generalize (leftOf es seen).toList = l at he
  clear h1 h2
  induction l with
  | nil => cases he
  | cons a r ih =>
    rcases List.mem_cons.1 he with rfl | he
    · simp only [List.filter_cons, beq_self_eq_true, Bool.not_true, Bool.false_eq_true, if_false, List.length_cons]
      exact Nat.lt_succ_of_le (List.length_filter_le _ _)
    · have := ih he
      simp only [List.filter_cons]
      split <;> simp only [List.length_cons] <;> omega
theorem wpList_next_b (hw : Region.wanted o (yielded ops a.tmps) = true) (it : Operand) (ho : o.op = .next it false) (b r : Nat) (L : List (κ × Value)) (N : κ → Value → Prop) (cnt : Nat) (hit : a.eval it = .pointer (some ⟨r, 0, none⟩)) (h : Rg w b r val L N cnt)
    (hkeys : ∀ k v k' v', (k, v) ∈ L → (k', v') ∈ L → val k = val k' → k = k')
    (hDone : (∀ p ∈ L, N p.1 p.2) → wpList P ops Q rest (a.put o.dst (.tuple #[.bool false])) w)
    (hMore : ∀ (k : κ) (v : Value) w' cnt', (k, v) ∈ L → cnt' < cnt → (N k v → Rg w' b r val L N cnt') → Only r w w' ∨ Only r w.drew w' → (Instr.entry (.pointer (some ⟨r, 0, none⟩))).run P w' = .ok (.tuple #[val k, v]) w' → wpList P ops Q rest (a.put o.dst (.tuple #[.bool true, val k, v])) w') : wpList P ops Q (o :: rest) a w :=
  wpList_step fun Kc hK => by
    rw [if_pos hw]
    obtain ⟨es, clock, seen, c0, hb, hL, hB, hr, hsc, hN, hc⟩ := h
    unfold Oper.wp
    rcases run_next_at (P := P) w o.type r b clock c0 seen es clock hr hb hB.1 hsc with ⟨h0, hrun⟩ | ⟨e, he, w1, hw1, hrun⟩
    · simp [execOp, ho, hit, hrun, Result.andThen]
      refine hK _ _ (hDone fun p hp => ?_)
      have : pr val p ∈ es.toList.map kv := by rw [hL]; exact List.mem_map_of_mem hp
      obtain ⟨x, hx, e1⟩ := List.mem_map.1 this
      have hs : seen.contains x.born = true := by
        have h9 : leftOf es seen = #[] := Array.eq_empty_of_size_eq_zero h0
        unfold leftOf at h9
        rw [Array.filter_eq_empty_iff] at h9
        have := h9 x (by simpa using hx)
        simpa using this
      obtain ⟨k, hk, hm, hn⟩ := hN x hx hs
      simp only [pr, kv, Prod.mk.injEq] at e1
      have : k = p.1 := hkeys k x.val p.1 p.2 hm hp (by rw [← hk, e1.1])
      rw [this, e1.2] at hn
      exact hn
    · have hm : e ∈ es.toList := by
        unfold leftOf at he
        simp at he
        simpa using he.1
      obtain ⟨k, hk, hkL⟩ := entry_at hL hm
      rw [hk] at hrun
      simp [execOp, ho, hit, hrun, Result.andThen]
      have hr1 : w1.heap[r]? = some (.mapIter (some b) clock seen c0) := by rcases hw1 with rfl | rfl <;> exact hr
      have hb1 : w1.heap[b]? = some (.map es clock) := by rcases hw1 with rfl | rfl <;> exact hb
      have hne : b ≠ r := fun e9 => by rw [e9, hr] at hb; cases hb
      have hsame : (setBlock w1 r (.mapIter (some b) clock (seen.push e.born) clock)).heap[r]? = some (.mapIter (some b) clock (seen.push e.born) clock) := by
        have := (Array.getElem?_eq_some_iff.1 hr1).1
        simp [setBlock, Array.getElem?_setIfInBounds, this]
      have hoth : ∀ i, i ≠ r → (setBlock w1 r (.mapIter (some b) clock (seen.push e.born) clock)).heap[i]? = w1.heap[i]? := fun i hi => by
        simp [setBlock, Array.getElem?_setIfInBounds, Ne.symm hi]
      have hO : Only r w1 (setBlock w1 r (.mapIter (some b) clock (seen.push e.born) clock)) := ⟨rfl, rfl, rfl, by simp [setBlock], hoth⟩
      refine hK _ _ (hMore k e.val _ (leftOf es (seen.push e.born)).size hkL ?_ ?_ ?_ ?_)
      · rw [← hc]; exact left_push he
      · intro hNk
        refine ⟨es, clock, seen.push e.born, clock, (hoth b hne).trans hb1, hL, hB, hsame, Nat.le_refl _, fun x hx hs => ?_, rfl⟩
        simp only [Array.contains_push, Bool.or_eq_true] at hs
        rcases hs with hs | hs
        · exact hN x hx hs
        · have : x = e := born_inj hB.2 hx hm (by simpa using hs)
          rw [this]
          exact ⟨k, hk, hkL, hNk⟩
      · rcases hw1 with rfl | rfl
        · exact .inl hO
        · exact .inr hO
      · have := run_entry_at (P := P) (setBlock w1 r (.mapIter (some b) clock (seen.push e.born) clock)) r b clock seen es clock e hsame ((hoth b hne).trans hb1) hm hB.2
        rw [hk] at this
        exact this
end
/-! ### oper.shapes -/
abbrev iV : Int → Value := Value.int .i64
theorem keysI : Keys Tryz.prog 3 iV := int_keys Tryz.underlying3
def sharesB (k : Int) : Bool := k == 3 || k == 4 || k == 5 || k == 6
abbrev shC (n : ByteArray) (t nu sl sr : Bool) : Array Value := #[.string n, .bool t, .bool nu, .bool sl, .bool sr]
abbrev shV (n : ByteArray) (t nu sl sr : Bool) : Value := .agg (shC n t nu sl sr)
def nameB (k : Int) : ByteArray := ⟨(name k).toArray⟩
def cellsK (k : Int) : Array Value := shC (nameB k) (askB k) (numB k) (slabB k) (sharesB k)
def shapesL : List (Int × Value) := kinds.map fun k => (k, .agg (cellsK k))
theorem b_pin (w : World) : (Instr.build 84 #[(0, .string ⟨#[112, 105, 110]⟩)]).run Tryz.prog w = .ok (.agg (cellsK 1)) w := run_build w _ _ _ (by kernel_rfl)
theorem b_unpin (w : World) : (Instr.build 84 #[(0, .string ⟨#[117, 110, 112, 105, 110]⟩)]).run Tryz.prog w = .ok (.agg (cellsK 2)) w := run_build w _ _ _ (by kernel_rfl)
theorem b_peek (w : World) : (Instr.build 84 #[(0, .string ⟨#[112, 101, 101, 107]⟩)]).run Tryz.prog w = .ok (.agg (cellsK 7)) w := run_build w _ _ _ (by kernel_rfl)
theorem b_collect (w : World) : (Instr.build 84 #[(0, .string ⟨#[99, 111, 108, 108, 101, 99, 116]⟩)]).run Tryz.prog w = .ok (.agg (cellsK 8)) w := run_build w _ _ _ (by kernel_rfl)
theorem b_alloc (w : World) : (Instr.build 84 #[(0, .string ⟨#[97, 108, 108, 111, 99]⟩), (2, .bool true), (4, .bool true)]).run Tryz.prog w = .ok (.agg (cellsK 3)) w := run_build w _ _ _ (by kernel_rfl)
theorem b_free (w : World) : (Instr.build 84 #[(0, .string ⟨#[102, 114, 101, 101]⟩), (1, .bool true), (4, .bool true)]).run Tryz.prog w = .ok (.agg (cellsK 4)) w := run_build w _ _ _ (by kernel_rfl)
theorem b_deref (w : World) : (Instr.build 84 #[(0, .string ⟨#[100, 101, 114, 101, 102]⟩), (1, .bool true), (4, .bool true)]).run Tryz.prog w = .ok (.agg (cellsK 6)) w := run_build w _ _ _ (by kernel_rfl)
theorem b_write (w : World) : (Instr.build 84 #[(0, .string ⟨#[119, 114, 105, 116, 101]⟩), (1, .bool true), (2, .bool true), (4, .bool true)]).run Tryz.prog w = .ok (.agg (cellsK 5)) w := run_build w _ _ _ (by kernel_rfl)
theorem b_drain (w : World) : (Instr.build 84 #[(0, .string ⟨#[100, 114, 97, 105, 110]⟩), (3, .bool true)]).run Tryz.prog w = .ok (.agg (cellsK 9)) w := run_build w _ _ _ (by kernel_rfl)
set_option maxRecDepth 100000 in
set_option maxHeartbeats 8000000 in
theorem shapes (w : World) : Calls Tryz.prog 40 #[] w fun e w' => ∃ b, e = .returned (.map (some b)) ∧ MapB w' b iV shapesL ∧ w.heap.size ≤ b ∧ Below w.heap.size w w' := by
  have hmm := @run_makeMap Tryz.prog
  have M0 : MapB (w.alloc (.map #[] 0)) w.heap.size iV [] := MapB.new w
  have hb0 : Below w.heap.size w (w.alloc (.map #[] 0)) := (Below.refl _ _).alloc (Nat.le_refl _) _
  have h_pin := b_pin
  have h_unpin := b_unpin
  have h_peek := b_peek
  have h_collect := b_collect
  have h_alloc := b_alloc
  have h_free := b_free
  have h_deref := b_deref
  have h_write := b_write
  have h_drain := b_drain
  go_enter Tryz.func40, Tryz.ntmps40
  go_wp2_with (first | (refine wpList_insB rfl _ _ _ rfl keysI Tryz.underlying85 w.heap.size ([]) rfl (1 : Int) rfl (.agg (cellsK 1)) rfl (by exact M0) (by rfl) ?_; intro w1 M1 O1; have hb1 := hb0.trans ((O1.below (B := w.heap.size) (Nat.le_refl _))); clear M0 O1 hb0) | (refine wpList_insB rfl _ _ _ rfl keysI Tryz.underlying85 w.heap.size ([(1, .agg (cellsK 1))]) rfl (2 : Int) rfl (.agg (cellsK 2)) rfl (by exact M1) (by rfl) ?_; intro w2 M2 O2; have hb2 := hb1.trans ((O2.below (B := w.heap.size) (Nat.le_refl _))); clear M1 O2 hb1) | (refine wpList_insB rfl _ _ _ rfl keysI Tryz.underlying85 w.heap.size ([(1, .agg (cellsK 1)), (2, .agg (cellsK 2))]) rfl (7 : Int) rfl (.agg (cellsK 7)) rfl (by exact M2) (by rfl) ?_; intro w3 M3 O3; have hb3 := hb2.trans ((O3.below (B := w.heap.size) (Nat.le_refl _))); clear M2 O3 hb2) | (refine wpList_insB rfl _ _ _ rfl keysI Tryz.underlying85 w.heap.size ([(1, .agg (cellsK 1)), (2, .agg (cellsK 2)), (7, .agg (cellsK 7))]) rfl (8 : Int) rfl (.agg (cellsK 8)) rfl (by exact M3) (by rfl) ?_; intro w4 M4 O4; have hb4 := hb3.trans ((O4.below (B := w.heap.size) (Nat.le_refl _))); clear M3 O4 hb3) | (refine wpList_insB rfl _ _ _ rfl keysI Tryz.underlying85 w.heap.size ([(1, .agg (cellsK 1)), (2, .agg (cellsK 2)), (7, .agg (cellsK 7)), (8, .agg (cellsK 8))]) rfl (3 : Int) rfl (.agg (cellsK 3)) rfl (by exact M4) (by rfl) ?_; intro w5 M5 O5; have hb5 := hb4.trans ((O5.below (B := w.heap.size) (Nat.le_refl _))); clear M4 O5 hb4) | (refine wpList_insB rfl _ _ _ rfl keysI Tryz.underlying85 w.heap.size ([(1, .agg (cellsK 1)), (2, .agg (cellsK 2)), (7, .agg (cellsK 7)), (8, .agg (cellsK 8)), (3, .agg (cellsK 3))]) rfl (4 : Int) rfl (.agg (cellsK 4)) rfl (by exact M5) (by rfl) ?_; intro w6 M6 O6; have hb6 := hb5.trans ((O6.below (B := w.heap.size) (Nat.le_refl _))); clear M5 O6 hb5) | (refine wpList_insB rfl _ _ _ rfl keysI Tryz.underlying85 w.heap.size ([(1, .agg (cellsK 1)), (2, .agg (cellsK 2)), (7, .agg (cellsK 7)), (8, .agg (cellsK 8)), (3, .agg (cellsK 3)), (4, .agg (cellsK 4))]) rfl (6 : Int) rfl (.agg (cellsK 6)) rfl (by exact M6) (by rfl) ?_; intro w7 M7 O7; have hb7 := hb6.trans ((O7.below (B := w.heap.size) (Nat.le_refl _))); clear M6 O7 hb6) | (refine wpList_insB rfl _ _ _ rfl keysI Tryz.underlying85 w.heap.size ([(1, .agg (cellsK 1)), (2, .agg (cellsK 2)), (7, .agg (cellsK 7)), (8, .agg (cellsK 8)), (3, .agg (cellsK 3)), (4, .agg (cellsK 4)), (6, .agg (cellsK 6))]) rfl (5 : Int) rfl (.agg (cellsK 5)) rfl (by exact M7) (by rfl) ?_; intro w8 M8 O8; have hb8 := hb7.trans ((O8.below (B := w.heap.size) (Nat.le_refl _))); clear M7 O8 hb7) | (refine wpList_insB rfl _ _ _ rfl keysI Tryz.underlying85 w.heap.size ([(1, .agg (cellsK 1)), (2, .agg (cellsK 2)), (7, .agg (cellsK 7)), (8, .agg (cellsK 8)), (3, .agg (cellsK 3)), (4, .agg (cellsK 4)), (6, .agg (cellsK 6)), (5, .agg (cellsK 5))]) rfl (9 : Int) rfl (.agg (cellsK 9)) rfl (by exact M8) (by rfl) ?_; intro w9 M9 O9; have hb9 := hb8.trans ((O9.below (B := w.heap.size) (Nat.le_refl _))); clear M8 O9 hb8))
  go_ret
  exact ⟨_, rfl, M9, Nat.le_refl _, hb9⟩
theorem zero_sh (w : World) : (zeroValue 84).run Tryz.prog w = .ok (.agg (cellsK 0)) w := by kernel_rfl
theorem look_none (k : Int) (h : isKind k = false) : cellsK k = cellsK 0 := by
  have h' : ¬ (1 ≤ k ∧ k ≤ 9) := by simpa [isKind] using h
  have hn : name k = name 0 := by
    unfold name
    rw [if_neg (by omega), if_neg (by omega), if_neg (by omega), if_neg (by omega), if_neg (by omega), if_neg (by omega), if_neg (by omega), if_neg (by omega), if_neg (by omega)]
    rfl
  have e : ∀ i : Int, 1 ≤ i → i ≤ 9 → (k == i) = false := fun i h1 h2 => by
    simp only [beq_eq_false_iff_ne, ne_eq]
    omega
  unfold cellsK nameB askB numB slabB sharesB
  rw [hn, e 3 (by omega) (by omega), e 4 (by omega) (by omega), e 5 (by omega) (by omega), e 6 (by omega) (by omega), e 9 (by omega) (by omega)]
  rfl
theorem shapes_look (k : Int) : (Mr.look k shapesL).getD (.agg (cellsK 0)) = .agg (cellsK k) ∧ (Mr.look k shapesL).isSome = isKind k := by
  by_cases h : isKind k = true
  · have h' : 1 ≤ k ∧ k ≤ 9 := by simpa [isKind] using h
    rw [h]
    have : k = 1 ∨ k = 2 ∨ k = 3 ∨ k = 4 ∨ k = 5 ∨ k = 6 ∨ k = 7 ∨ k = 8 ∨ k = 9 := by omega
    rcases this with rfl | rfl | rfl | rfl | rfl | rfl | rfl | rfl | rfl <;> exact ⟨rfl, rfl⟩
  · have hf : isKind k = false := by simpa using h
    have h' : ¬ (1 ≤ k ∧ k ≤ 9) := by simpa [isKind] using hf
    have hl : Mr.look k shapesL = none := by
      unfold shapesL kinds
      simp only [List.map_cons, List.map_nil, Mr.look]
      repeat rw [if_neg (by omega)]
    rw [hl, hf, look_none k hf]
    exact ⟨rfl, rfl⟩
theorem shapes_run {w : World} {b : Nat} (hm : MapB w b iV shapesL) (k : Int) (c : Bool) : (Instr.lookup 85 (.map (some b)) (.int .i64 k) c).run Tryz.prog w = .ok (if c then .tuple #[.agg (cellsK k), .bool (isKind k)] else .agg (cellsK k)) w := by
  have := run_look keysI Tryz.underlying85 (zero_sh w) hm.at k c
  rw [(shapes_look k).1, (shapes_look k).2] at this
  exact this
end Go.Proofs.YtpmcedfeiconfaaGreatDoor.Opw

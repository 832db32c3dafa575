/- Part OpRight. -/
import Derived.Lib.ParseIntBCases
import Derived.Lib.IndexMore
import Derived.Lib.IndexBytes
import Derived.Lib.ItoaNum
import Derived.Lib.Join
import Derived.Test.YtaiodbcnbcdokaaGreatKMaps
import Derived.Test.YtaiodbcnbcdokaaGreatKOwn
import Derived.Test.YtaiodbcnbcdokaaGreatRows
import Derived.Deep.RegionHeld3
import Derived.Deep.CutRange
import Derived.Deep.WholeRow
import Derived.WalkLawsBesides
import Derived.WalkSpells
import Derived.LoopTactic
import Derived.Lib.Hide
import Derived.Maps.RangeRun
import Derived.Maps.Range
set_option linter.unusedVariables false
set_option linter.unusedSimpArgs false
set_option linter.unusedSectionVars false
set_option maxRecDepth 100000
set_option maxHeartbeats 16000000
section
namespace Go.Proofs.YtaiodbcnbcdokaaGreat.Opn
open Go Go.Lib
structure OpD where
 k : Int
 t : Int
 x : Int
 s : Int
 u : Bool
 b : Int
 n : Int
 deriving DecidableEq
def OpD.zero : OpD := ⟨0, 0, 0, 0, false, 0, 0⟩
def name (k : Int) : List UInt8 :=
 if k = 1 then [112, 105, 110] else if k = 2 then [117, 110, 112, 105, 110] else if k = 7 then [112, 101, 101, 107] else if k = 8 then [99, 111, 108, 108, 101, 99, 116]
 else if k = 3 then [97, 108, 108, 111, 99] else if k = 4 then [102, 114, 101, 101] else if k = 6 then [100, 101, 114, 101, 102] else if k = 5 then [119, 114, 105, 116, 101]
 else if k = 9 then [100, 114, 97, 105, 110] else []
def isKind (k : Int) : Bool := decide (1 ≤ k ∧ k ≤ 9)
def askB (k : Int) : Bool := k == 4 || k == 5 || k == 6
def numB (k : Int) : Bool := k == 3 || k == 5
def slabB (k : Int) : Bool := k == 9
def rightTk (o : OpD) : Bool :=
 if askB o.k = false then o.t == 0 && !o.u && o.b == 0 && o.n == 0
 else if o.u then o.t == 0 && decide (0 ≤ o.b) && decide (0 ≤ o.n) else o.b == 0 && o.n == 0
def right (o : OpD) : Bool := isKind o.k && (rightTk o && ((numB o.k || o.x == 0) && (o.s == 0 || (slabB o.k && decide (0 < o.s)))))
def dec (i : Int) : List UInt8 := decDigits i.toNat
def tick (o : OpD) : List UInt8 := if o.u then 64 :: (dec o.b ++ 46 :: dec o.n) else dec o.t
def kinds : List Int := [1, 2, 7, 8, 3, 4, 6, 5, 9]
def find (l : List UInt8) : Option Int := kinds.find? (fun k => name k == l)
end Go.Proofs.YtaiodbcnbcdokaaGreat.Opn
end
section
namespace Go.Proofs.YtaiodbcnbcdokaaGreat.Opw
open Go Go.RowKit Go.ChangeMaps Gro Own Mr Opn
section
variable {P : Program} {ops : Array Oper} {S : World → Prop} {a : Act} {o : Oper} {w : World} {K : Act → World → Prop} {Q : Exit → Act → World → Prop} {E : Prop} {rest : List Oper}
theorem bV (hgd : o.guard = none) (ty : TypeId) (x : Operand) (ho : o.op = .load ty x) (g : Nat) (hx : a.eval x = .pointer (some ⟨g, 0, none⟩)) (cs : Array Value) (t : TypeId) (d : TypeDesc)
  (hC : ∀ w, S w → Bk w g cs t) (hu : P.underlying ty = some d) (hd : (match d with | .struct _ | .array _ _ => true | _ => false) = true) (hi : (P.info? ty).map (·.size) = some cs.size) : YieldsIf P ops S o (.agg cs) a := by
 refine Or.inl ⟨by simp [Region.wanted, hgd], fun w hw => ?_⟩
 unfold execOp
 simp only [ho, hx, Instr.loadAt, Instr.sureAddr, Sem.run_bind, Sem.run_pure, Result.andThen_ok, run_loadVar_row w g t ty cs (0, 0) d (hC w hw) hu hd hi]
theorem dh (hgd : o.guard = none) (ty : TypeId) (x y : Operand) (ho : o.op = .store ty x y) (g : Nat) (cells : Array Value) (hx : a.eval x = .pointer (some ⟨g, 0, none⟩)) (hy : a.eval y = .agg cells)
  (t : TypeId) (old : Array Value) (hg : w.heap[g]? = some (.cells old t (0, 0))) (hi : (P.info? ty).map (·.size) = some cells.size) (hold : old.size = cells.size) (h1 : cells.all (·.oneCell') = true)
  (h : K (a.put o.dst undef) (w.setRow g cells)) : if Region.wanted o (yielded ops a.tmps) = true then Oper.wp P o a w K Q else E := by
 rw [if_pos qa56]
 exact wp_store_row ty x y ho g cells hx hy t old hg hi hold h1 h
theorem fC (hw : Region.wanted o (yielded ops a.tmps) = true) (ty : TypeId) (x : Operand) (ho : o.op = .load ty x)
  (g : Nat) (hx : a.eval x = .pointer (some ⟨g, 0, none⟩)) (t : TypeId) (cs : Array Value) (fr : Nat × Nat) (d : TypeDesc) (hg : w.heap[g]? = some (.cells cs t fr))
  (hu : P.underlying ty = some d) (hd : (match d with | .struct _ | .array _ _ => true | _ => false) = true) (hi : (P.info? ty).map (·.size) = some cs.size)
  (h : wpList P ops Q rest (a.put o.dst (.agg cs)) w) : wpList P ops Q (o :: rest) a w :=
 wpList_step fun K hK => by rw [if_pos hw]; exact wp_load_row ty x ho g hx t cs fr d hg hu hd hi (hK _ _ h)
end
section
variable {κ : Type} [DecidableEq κ]
variable {P : Program} {ops : Array Oper} {rest : List Oper} {o : Oper} {a : Act} {w : World} {Q : Exit → Act → World → Prop} {t kt et : TypeId} {val : κ → Value} {b : Nat} {L : List (κ × Value)}
theorem run_insB (K : Keys P kt val) (ht : P.underlying t = some (.map kt et)) (h : jU w b val L) (k : κ) (hk : idx k L 0 = none) (v : Value) :
  ∃ es' c', (Instr.mapUpdate t (.map (some b)) (val k) v).run P w = .ok () (setBlock w b (.map es' c')) ∧ es'.toList.map kv = (L ++ [(k, v)]).map (pr val) ∧ Born es' c' := by
 obtain ⟨es, clock, hb, hL, hB1, hB2⟩ := h
 have h1 := K.find w k L es.toList hL
 rw [hk] at h1
 refine ⟨es.push ⟨val k, v, clock⟩, clock + 1, ?_, ?_, ?_, ?_⟩
 ·exact qa1s
 ·rw [Array.toList_push, List.map_append, List.map_append, hL]; rfl
 ·intro x hx
  rw [Array.toList_push] at hx
  rcases List.mem_append.1 hx with hx | hx
  ·exact Nat.lt_succ_of_lt (hB1 x hx)
  ·simp only [List.mem_singleton] at hx
   rw [hx]
   exact Nat.lt_succ_self _
 ·simp only [Array.toList_push, List.map_append, List.map_cons, List.map_nil]
  refine List.nodup_append.2 ⟨hB2, by simp, fun a ha c hc e1 => ?_⟩
  obtain ⟨x, hx, rfl⟩ := List.mem_map.1 ha
  have := hB1 x hx
  simp only [List.mem_singleton] at hc
  omega
theorem dR (hw : Region.wanted o (yielded ops a.tmps) = true) (m x v : Operand) (ho : o.op = .insert t m x v) (K : Keys P kt val) (ht : P.underlying t = some (.map kt et))
  (b : Nat) (L : List (κ × Value)) (hm : a.eval m = .map (some b)) (k : κ) (hx : a.eval x = val k) (y : Value) (hv : a.eval v = y) (h : jU w b val L) (hk : idx k L 0 = none)
  (hn : ∀ w', jU w' b val (L ++ [(k, y)]) → Only b w w' → wpList P ops Q rest (a.put o.dst undef) w') : wpList P ops Q (o :: rest) a w :=
 wpList_step fun Kc hK => by
  rw [if_pos hw]
  obtain ⟨es', c', hr, hL, hB⟩ := run_insB K ht h k hk y
  unfold Oper.wp
  simp [execOp, ho, hm, hx, hv, hr, Result.andThen]
  obtain ⟨es, clock, hb, _⟩ := h
  exact hK _ _ (hn _ ⟨es', c', heap_setBlock_same hb _, hL, hB⟩ (Only.of_set hb _))
def Rg (w : World) (b r : Nat) (val : κ → Value) (L : List (κ × Value)) (N : κ → Value → Prop) (cnt : Nat) : Prop :=
 ∃ es clock seen c0, w.heap[b]? = some (.map es clock) ∧ es.toList.map kv = L.map (pr val) ∧ Born es clock ∧ w.heap[r]? = some (.mapIter (some b) clock seen c0) ∧ clock ≤ c0 ∧
  (∀ x ∈ es.toList, seen.contains x.born = true → ∃ k, x.key = val k ∧ (k, x.val) ∈ L ∧ N k x.val) ∧ (leftOf es seen).size = cnt
theorem Rg.keep {w' : World} {r cnt B : Nat} {N : κ → Value → Prop} (h : Rg w b r val L N cnt) (hb : Below B w w') (h1 : b < B) (h2 : r < B) : Rg w' b r val L N cnt := by
 obtain ⟨es, clock, seen, c0, e1, e2, e3, e4, rest⟩ := h
 exact ⟨es, clock, seen, c0, (hb.block b h1).trans e1, e2, e3, (hb.block r h2).trans e4, rest⟩
theorem Rg.lt {r cnt : Nat} {N : κ → Value → Prop} (h : Rg w b r val L N cnt) : b < w.heap.size ∧ r < w.heap.size := by
 obtain ⟨es, clock, seen, c0, e1, e2, e3, e4, _, _, hc⟩ := h
 exact ⟨(Array.getElem?_eq_some_iff.1 e1).1, (Array.getElem?_eq_some_iff.1 e4).1⟩
end
abbrev iV : Int → Value := Value.int .i64
theorem fJ : Keys Tryz.prog 3 iV := int_keys Tryz.underlying3
def gW (k : Int) : Bool := k == 3 || k == 4 || k == 5 || k == 6
abbrev shC (n : ByteArray) (t nu sl sr : Bool) : Array Value := #[.string n, .bool t, .bool nu, .bool sl, .bool sr]
abbrev shV (n : ByteArray) (t nu sl sr : Bool) : Value := .agg (shC n t nu sl sr)
def nameB (k : Int) : ByteArray := ⟨(name k).toArray⟩
def aR (k : Int) : Array Value := shC (nameB k) (askB k) (numB k) (slabB k) (gW k)
def gX : List (Int × Value) := kinds.map fun k => (k, .agg (aR k))
theorem b_pin (w : World) : (Instr.build 167 #[(0, .string ⟨#[112, 105, 110]⟩)]).run Tryz.prog w = .ok (.agg (aR 1)) w := run_build w _ _ _ ah
theorem b_unpin (w : World) : (Instr.build 167 #[(0, .string ⟨#[117, 110, 112, 105, 110]⟩)]).run Tryz.prog w = .ok (.agg (aR 2)) w := run_build w _ _ _ ah
theorem b_peek (w : World) : (Instr.build 167 #[(0, .string ⟨#[112, 101, 101, 107]⟩)]).run Tryz.prog w = .ok (.agg (aR 7)) w := run_build w _ _ _ ah
theorem b_collect (w : World) : (Instr.build 167 #[(0, .string ⟨#[99, 111, 108, 108, 101, 99, 116]⟩)]).run Tryz.prog w = .ok (.agg (aR 8)) w := run_build w _ _ _ ah
theorem b_alloc (w : World) : (Instr.build 167 #[(0, .string ⟨#[97, 108, 108, 111, 99]⟩), (2, .bool true), (4, .bool true)]).run Tryz.prog w = .ok (.agg (aR 3)) w := run_build w _ _ _ ah
theorem b_free (w : World) : (Instr.build 167 #[(0, .string ⟨#[102, 114, 101, 101]⟩), (1, .bool true), (4, .bool true)]).run Tryz.prog w = .ok (.agg (aR 4)) w := run_build w _ _ _ ah
theorem b_deref (w : World) : (Instr.build 167 #[(0, .string ⟨#[100, 101, 114, 101, 102]⟩), (1, .bool true), (4, .bool true)]).run Tryz.prog w = .ok (.agg (aR 6)) w := run_build w _ _ _ ah
theorem b_write (w : World) : (Instr.build 167 #[(0, .string ⟨#[119, 114, 105, 116, 101]⟩), (1, .bool true), (2, .bool true), (4, .bool true)]).run Tryz.prog w = .ok (.agg (aR 5)) w := run_build w _ _ _ ah
theorem b_drain (w : World) : (Instr.build 167 #[(0, .string ⟨#[100, 114, 97, 105, 110]⟩), (3, .bool true)]).run Tryz.prog w = .ok (.agg (aR 9)) w := run_build w _ _ _ ah
theorem shapes (w : World) : Calls Tryz.prog 116 #[] w fun e w' => ∃ b, e = .returned (.map (some b)) ∧ jU w' b iV gX ∧ w.heap.size ≤ b ∧ Below w.heap.size w w' := by
 have hmm := @run_makeMap Tryz.prog
 have M0 : jU (w.alloc (.map #[] 0)) w.heap.size iV [] := jU.new w
 have hb0 : Below w.heap.size w (w.alloc (.map #[] 0)) := (Below.refl _ _).alloc (Nat.le_refl _) _
 have h_pin := b_pin
 have h_unpin := b_unpin
 have h_peek := b_peek
 have h_collect := b_collect
 have h_alloc := b_alloc
 have h_free := b_free
 have h_deref := b_deref
 have h_write := b_write
 have h_drain := b_drain
 go_enter Tryz.func116, Tryz.ntmps116
 go_wp2_with (first | (refine dR rfl _ _ _ rfl fJ Tryz.underlying168 w.heap.size ([]) rfl (1 : Int) rfl (.agg (aR 1)) rfl (by exact M0) jy ?_; intro w1 M1 O1; have hb1 := hb0.trans ((O1.below (B := w.heap.size) (Nat.le_refl _))); clear M0 O1 hb0) | (refine dR rfl _ _ _ rfl fJ Tryz.underlying168 w.heap.size ([(1, .agg (aR 1))]) rfl (2 : Int) rfl (.agg (aR 2)) rfl (by exact M1) jy ?_; intro w2 M2 O2; have hb2 := hb1.trans ((O2.below (B := w.heap.size) (Nat.le_refl _))); clear M1 O2 hb1) | (refine dR rfl _ _ _ rfl fJ Tryz.underlying168 w.heap.size ([(1, .agg (aR 1)), (2, .agg (aR 2))]) rfl (7 : Int) rfl (.agg (aR 7)) rfl (by exact M2) jy ?_; intro w3 M3 O3; have hb3 := hb2.trans ((O3.below (B := w.heap.size) (Nat.le_refl _))); clear M2 O3 hb2) | (refine dR rfl _ _ _ rfl fJ Tryz.underlying168 w.heap.size ([(1, .agg (aR 1)), (2, .agg (aR 2)), (7, .agg (aR 7))]) rfl (8 : Int) rfl (.agg (aR 8)) rfl (by exact M3) jy ?_; intro w4 M4 O4; have hb4 := hb3.trans ((O4.below (B := w.heap.size) (Nat.le_refl _))); clear M3 O4 hb3) | (refine dR rfl _ _ _ rfl fJ Tryz.underlying168 w.heap.size ([(1, .agg (aR 1)), (2, .agg (aR 2)), (7, .agg (aR 7)), (8, .agg (aR 8))]) rfl (3 : Int) rfl (.agg (aR 3)) rfl (by exact M4) jy ?_; intro w5 M5 O5; have hb5 := hb4.trans ((O5.below (B := w.heap.size) (Nat.le_refl _))); clear M4 O5 hb4) | (refine dR rfl _ _ _ rfl fJ Tryz.underlying168 w.heap.size ([(1, .agg (aR 1)), (2, .agg (aR 2)), (7, .agg (aR 7)), (8, .agg (aR 8)), (3, .agg (aR 3))]) rfl (4 : Int) rfl (.agg (aR 4)) rfl (by exact M5) jy ?_; intro w6 M6 O6; have hb6 := hb5.trans ((O6.below (B := w.heap.size) (Nat.le_refl _))); clear M5 O6 hb5) | (refine dR rfl _ _ _ rfl fJ Tryz.underlying168 w.heap.size ([(1, .agg (aR 1)), (2, .agg (aR 2)), (7, .agg (aR 7)), (8, .agg (aR 8)), (3, .agg (aR 3)), (4, .agg (aR 4))]) rfl (6 : Int) rfl (.agg (aR 6)) rfl (by exact M6) jy ?_; intro w7 M7 O7; have hb7 := hb6.trans ((O7.below (B := w.heap.size) (Nat.le_refl _))); clear M6 O7 hb6) | (refine dR rfl _ _ _ rfl fJ Tryz.underlying168 w.heap.size ([(1, .agg (aR 1)), (2, .agg (aR 2)), (7, .agg (aR 7)), (8, .agg (aR 8)), (3, .agg (aR 3)), (4, .agg (aR 4)), (6, .agg (aR 6))]) rfl (5 : Int) rfl (.agg (aR 5)) rfl (by exact M7) jy ?_; intro w8 M8 O8; have hb8 := hb7.trans ((O8.below (B := w.heap.size) (Nat.le_refl _))); clear M7 O8 hb7) | (refine dR rfl _ _ _ rfl fJ Tryz.underlying168 w.heap.size ([(1, .agg (aR 1)), (2, .agg (aR 2)), (7, .agg (aR 7)), (8, .agg (aR 8)), (3, .agg (aR 3)), (4, .agg (aR 4)), (6, .agg (aR 6)), (5, .agg (aR 5))]) rfl (9 : Int) rfl (.agg (aR 9)) rfl (by exact M8) jy ?_; intro w9 M9 O9; have hb9 := hb8.trans ((O9.below (B := w.heap.size) (Nat.le_refl _))); clear M8 O9 hb8))
 go_ret
 exact ⟨_, rfl, M9, Nat.le_refl _, hb9⟩
theorem zero_sh (w : World) : (zeroValue 167).run Tryz.prog w = .ok (.agg (aR 0)) w := ah
theorem look_none (k : Int) (h : isKind k = false) : aR k = aR 0 := by
 have h' : ¬ (1 ≤ k ∧ k ≤ 9) := by simpa [isKind] using h
 have hn : name k = name 0 := by
  unfold name
  rw [if_neg aj, if_neg aj, if_neg aj, if_neg aj, if_neg aj, if_neg aj, if_neg aj, if_neg aj, if_neg aj]
  rfl
 have e : ∀ i : Int, 1 ≤ i → i ≤ 9 → (k == i) = false := fun i h1 h2 => by
  simp only [beq_eq_false_iff_ne, ne_eq]
  omega
 unfold aR nameB askB numB slabB gW
 rw [hn, e 3 aj aj, e 4 aj aj, e 5 aj aj, e 6 aj aj, e 9 aj aj]
 rfl
theorem jm (k : Int) : (Mr.look k gX).getD (.agg (aR 0)) = .agg (aR k) ∧ (Mr.look k gX).isSome = isKind k := by
 by_cases h : isKind k = true
 ·have h' : 1 ≤ k ∧ k ≤ 9 := by simpa [isKind] using h
  rw [h]
  have : k = 1 ∨ k = 2 ∨ k = 3 ∨ k = 4 ∨ k = 5 ∨ k = 6 ∨ k = 7 ∨ k = 8 ∨ k = 9 := aj
  rcases this with rfl | rfl | rfl | rfl | rfl | rfl | rfl | rfl | rfl <;> exact ⟨rfl, rfl⟩
 ·have hf : isKind k = false := by simpa using h
  have h' : ¬ (1 ≤ k ∧ k ≤ 9) := by simpa [isKind] using hf
  have hl : Mr.look k gX = none := by
   unfold gX kinds
   simp only [List.map_cons, List.map_nil, Mr.look]
   repeat rw [if_neg aj]
  rw [hl, hf, look_none k hf]
  exact ⟨rfl, rfl⟩
theorem iY {w : World} {b : Nat} (hm : jU w b iV gX) (k : Int) (c : Bool) : (Instr.lookup 168 (.map (some b)) (.int .i64 k) c).run Tryz.prog w = .ok (if c then .tuple #[.agg (aR k), .bool (isKind k)] else .agg (aR k)) w := by
 have := run_look fJ Tryz.underlying168 (zero_sh w) hm.at k c
 rw [(jm k).1, (jm k).2] at this
 exact this
end Go.Proofs.YtaiodbcnbcdokaaGreat.Opw
end
section
namespace Go.Proofs.YtaiodbcnbcdokaaGreat.Opw
open Go Go.RowKit Go.ChangeMaps Gro Own Mr Opn
abbrev opC (o : OpD) : Array Value := #[.int .i64 o.k, .int .u64 o.t, .int .u64 o.x, .int .i64 o.s, .bool o.u, .int .i64 o.b, .int .i64 o.n]
abbrev opV (o : OpD) : Value := .agg (opC o)
def rightTkA (o : OpD) (a : Bool) : Bool := if a = false then o.t == 0 && !o.u && o.b == 0 && o.n == 0 else if o.u then o.t == 0 && decide (0 ≤ o.b) && decide (0 ≤ o.n) else o.b == 0 && o.n == 0
theorem fRightTicket (o : OpD) (a : Bool) (w : World) : Calls Tryz.prog 126 #[opV o, .bool a] w fun e w' => e = .returned (.bool (rightTkA o a)) ∧ Below w.heap.size w w' := by
 obtain ⟨k, t, x, s, u, b, n⟩ := o
 have K0 := Bk.new w (opC ⟨k, t, x, s, u, b, n⟩) 30
 have hbB : ∀ cs, Below w.heap.size w (w.alloc (.cells cs 30)) := fun cs => (Below.refl _ _).alloc (Nat.le_refl _) _
 cases a <;> cases u
 all_goals
  go_enter Tryz.func126, Tryz.ntmps126
  go_wp2
 all_goals
  go_ret
  refine ⟨?_, hbB _⟩
  (simp_all [rightTkA]) <;> omega
theorem fRight (o : OpD) (w : World) : Calls Tryz.prog 106 #[opV o] w fun e w' => e = .returned (.bool (right o)) ∧ Below w.heap.size w w' := by
 have K0 := Bk.new w (opC o) 30
 have hb0 : Below w.heap.size w (w.alloc (.cells (opC o) 30)) := (Below.refl _ _).alloc (Nat.le_refl _) _
 obtain ⟨bk, hbk⟩ : ∃ q, q = isKind o.k := ⟨_, rfl⟩
 obtain ⟨ba, hba⟩ : ∃ q, q = askB o.k := ⟨_, rfl⟩
 obtain ⟨bn, hbn⟩ : ∃ q, q = numB o.k := ⟨_, rfl⟩
 obtain ⟨bs, hbs⟩ : ∃ q, q = slabB o.k := ⟨_, rfl⟩
 obtain ⟨bh, hbh⟩ : ∃ q, q = gW o.k := ⟨_, rfl⟩
 obtain ⟨nm, hnm⟩ : ∃ q, q = nameB o.k := ⟨_, rfl⟩
 have hcK : aR o.k = shC nm ba bn bs bh := by rw [hba, hbn, hbs, hbh, hnm]; rfl
 have hR : right o = (bk && (rightTkA o ba && ((bn || o.x == 0) && (o.s == 0 || (bs && decide (0 < o.s)))))) := by rw [hbk, hba, hbn, hbs]; rfl
 obtain ⟨bt, hbt⟩ : ∃ q, q = rightTkA o ba := ⟨_, rfl⟩
 rw [hR, ← hbt]
 have HBT := Lib.hid hbt
 have HR := Lib.hid hbk
 have HK := Lib.hid hcK
 clear hbt hbk hba hbn hbs hbh hnm hcK hR
 go_enter Tryz.func106, Tryz.ntmps106
 go_wp2
 obtain ⟨w1, hw1⟩ : ∃ u, u = w.alloc (.cells (opC o) 30) := ⟨_, rfl⟩
 rw [← hw1] at K0 hb0 ⊢
 have l0 := K0.lt
 have sz1 := hb0.size
 clear hw1
 go_cut [3, 4] from 5 to 11 (fun p q wr => ∃ gb, p = .pointer (some ⟨gb, 0, none⟩) ∧ q = .bool bk ∧ Bk wr gb (shC nm ba bn bs bh) 167 ∧ Bk wr w.heap.size (opC o) 30 ∧ Below w.heap.size w wr)
 case first =>
  have hS0 : Below w1.heap.size w1 w1.drew := Below.drew (Below.refl _ _)
  refine wp_region_held_drew (S := fun w' => Below w1.heap.size w1 w') ah hS0 (fun hHeld => ?_)
  clear hS0
  generalize w1.drew = z0 at *
  refine jT 1 (.pointer (some ⟨w.heap.size, 0, none⟩)) rfl hHeld ?_
  try simp only [Act.put, jP]
  refine jY 2 (.int .i64 o.k) rfl (Or.inl ⟨by rfl, fun w' hSw => by have xx := (K0.keep hSw).cells; go_simp⟩) hHeld ?_
  try simp only [Act.put, jP]
  refine jR [0, 7] ?_
  refine jC rfl (fun K hK => ?_) (jC rfl (fun K hK => ?_) jN)
  ·go_simp
   refine (shapes _).mono ?_
   rintro en z1 ⟨b9, rfl, MM, hb9, hb⟩
   have dH := hHeld.trans (hb.mono hHeld.size)
   refine hK.out _ _ dH (fun hHeld => ?_)
   clear hK K dH
   try simp only [Act.put, jP]
   refine jR [3, 7] ?_
   refine jC rfl (fun K hK => ?_) (jC rfl (fun K hK => ?_) jN)
   ·have hlk := iY MM o.k true
    rw [HK.out, ← HR.out] at hlk
    simp only [if_true, if_false, Bool.false_eq_true] at hlk
    go_simp
    refine hK.out _ _ hHeld (fun hHeld => ?_)
    clear hK K hlk
    try simp only [Act.put, jP]
    refine jT 4 (.tuple #[.agg (shC nm ba bn bs bh), .bool bk]) rfl hHeld ?_
    try simp only [Act.put, jP]
    refine jT 5 (.agg (shC nm ba bn bs bh)) rfl hHeld ?_
    try simp only [Act.put, jP]
    refine jR [6, 7] ?_
    refine jC rfl (fun K hK => ?_) (jC rfl (fun K hK => ?_) jN)
    ·go_simp
     refine hK.out _ _ hHeld (fun hHeld => ?_)
     clear hK K
     try simp only [Act.put, jP]
     refine jR [7] ?_
     refine jC rfl (fun K hK => ?_) jN
     go_simp
     obtain ⟨za, hza⟩ : ∃ u, u = z1.alloc (.cells #[.string ⟨#[]⟩, .bool false, .bool false, .bool false, .bool false] 167) := ⟨_, rfl⟩
     have BX := Bk.new z1 #[.string ⟨#[]⟩, .bool false, .bool false, .bool false, .bool false] 167
     have gb7 := hHeld.size
     have hb7 : Below w1.heap.size w1 (z1.alloc (.cells #[.string ⟨#[]⟩, .bool false, .bool false, .bool false, .bool false] 167)) := hHeld.alloc hHeld.size _
     have MM := MM.of (b := b9) (w' := za) qa63
     rw [← hza] at BX hb7 ⊢
     clear hza
     obtain ⟨gb, hgb⟩ : ∃ q, q = z1.heap.size := ⟨_, rfl⟩
     rw [← hgb] at BX gb7 ⊢
     clear hgb
     have bxl := BX.lt
     refine hK.out _ _ hb7 (fun hHeld => ?_)
     clear hK K hb7
     try simp only [Act.put, jP]
     refine jR [8] ?_
     refine jC rfl (fun K hK => ?_) jN
     have B8 := BX.setRow (shC nm ba bn bs bh)
     have hb8 := below_setRow hHeld gb7 (shC nm ba bn bs bh)
     refine dh rfl 167 (.tmp 3) (.tmp 10) rfl gb (shC nm ba bn bs bh) rfl rfl 167 (#[.string ⟨#[]⟩, .bool false, .bool false, .bool false, .bool false]) (by exact BX) ah rfl ah ?_
     obtain ⟨z8, hz8⟩ : ∃ u, u = za.setRow gb (shC nm ba bn bs bh) := ⟨_, rfl⟩
     rw [← hz8] at B8 hb8 ⊢
     clear hz8 BX
     refine hK.out _ _ hb8 (fun hHeld => ?_)
     clear hK K hb8
     try simp only [Act.put, jP]
     refine jT 9 (.bool bk) rfl hHeld ?_
     try simp only [Act.put, jP]
     refine wpAnyH_done ah ?_ _
     simp only [Exit.then]
     apply_assumption
     go_meet
     have K8 := K0.keep hHeld
     have hb9 := hb0.trans (hHeld.mono hb0.size)
     exact ⟨gb, rfl, rfl, B8, K8, hb9⟩
    ·go_simp
     obtain ⟨za, hza⟩ : ∃ u, u = z1.alloc (.cells #[.string ⟨#[]⟩, .bool false, .bool false, .bool false, .bool false] 167) := ⟨_, rfl⟩
     have BX := Bk.new z1 #[.string ⟨#[]⟩, .bool false, .bool false, .bool false, .bool false] 167
     have gb7 := hHeld.size
     have hb7 : Below w1.heap.size w1 (z1.alloc (.cells #[.string ⟨#[]⟩, .bool false, .bool false, .bool false, .bool false] 167)) := hHeld.alloc hHeld.size _
     have MM := MM.of (b := b9) (w' := za) qa63
     rw [← hza] at BX hb7 ⊢
     clear hza
     obtain ⟨gb, hgb⟩ : ∃ q, q = z1.heap.size := ⟨_, rfl⟩
     rw [← hgb] at BX gb7 ⊢
     clear hgb
     have bxl := BX.lt
     refine hK.out _ _ hb7 (fun hHeld => ?_)
     clear hK K hb7
     exact qa1w
   ·go_simp
    obtain ⟨za, hza⟩ : ∃ u, u = z1.alloc (.cells #[.string ⟨#[]⟩, .bool false, .bool false, .bool false, .bool false] 167) := ⟨_, rfl⟩
    have BX := Bk.new z1 #[.string ⟨#[]⟩, .bool false, .bool false, .bool false, .bool false] 167
    have gb7 := hHeld.size
    have hb7 : Below w1.heap.size w1 (z1.alloc (.cells #[.string ⟨#[]⟩, .bool false, .bool false, .bool false, .bool false] 167)) := hHeld.alloc hHeld.size _
    have MM := MM.of (b := b9) (w' := za) qa63
    rw [← hza] at BX hb7 ⊢
    clear hza
    obtain ⟨gb, hgb⟩ : ∃ q, q = z1.heap.size := ⟨_, rfl⟩
    rw [← hgb] at BX gb7 ⊢
    clear hgb
    have bxl := BX.lt
    refine hK.out _ _ hb7 (fun hHeld => ?_)
    clear hK K hb7
    try simp only [Act.put, jP]
    refine jR [3] ?_
    refine jC rfl (fun K hK => ?_) jN
    have hlk := iY MM o.k true
    rw [HK.out, ← HR.out] at hlk
    simp only [if_true, if_false, Bool.false_eq_true] at hlk
    go_simp
    refine hK.out _ _ hHeld (fun hHeld => ?_)
    clear hK K hlk
    try simp only [Act.put, jP]
    refine jT 4 (.tuple #[.agg (shC nm ba bn bs bh), .bool bk]) rfl hHeld ?_
    try simp only [Act.put, jP]
    refine jT 5 (.agg (shC nm ba bn bs bh)) rfl hHeld ?_
    exact qa1w
  ·go_simp
   obtain ⟨za, hza⟩ : ∃ u, u = z0.alloc (.cells #[.string ⟨#[]⟩, .bool false, .bool false, .bool false, .bool false] 167) := ⟨_, rfl⟩
   have BX := Bk.new z0 #[.string ⟨#[]⟩, .bool false, .bool false, .bool false, .bool false] 167
   have gb7 := hHeld.size
   have hb7 : Below w1.heap.size w1 (z0.alloc (.cells #[.string ⟨#[]⟩, .bool false, .bool false, .bool false, .bool false] 167)) := hHeld.alloc hHeld.size _
   rw [← hza] at BX hb7 ⊢
   clear hza
   obtain ⟨gb, hgb⟩ : ∃ q, q = z0.heap.size := ⟨_, rfl⟩
   rw [← hgb] at BX gb7 ⊢
   clear hgb
   have bxl := BX.lt
   refine hK.out _ _ hb7 (fun hHeld => ?_)
   clear hK K hb7
   try simp only [Act.put, jP]
   refine jR [0] ?_
   refine jC rfl (fun K hK => ?_) jN
   go_simp
   refine (shapes _).mono ?_
   rintro en z1 ⟨b9, rfl, MM, hb9, hb⟩
   have dH := hHeld.trans (hb.mono hHeld.size)
   have BX := BX.keep hb
   have bxl := BX.lt
   refine hK.out _ _ dH (fun hHeld => ?_)
   clear hK K dH
   try simp only [Act.put, jP]
   refine jR [3] ?_
   refine jC rfl (fun K hK => ?_) jN
   have hlk := iY MM o.k true
   rw [HK.out, ← HR.out] at hlk
   simp only [if_true, if_false, Bool.false_eq_true] at hlk
   go_simp
   refine hK.out _ _ hHeld (fun hHeld => ?_)
   clear hK K hlk
   try simp only [Act.put, jP]
   refine jT 4 (.tuple #[.agg (shC nm ba bn bs bh), .bool bk]) rfl hHeld ?_
   try simp only [Act.put, jP]
   refine jT 5 (.agg (shC nm ba bn bs bh)) rfl hHeld ?_
   try simp only [Act.put, jP]
   refine jR [6, 8] ?_
   refine jC rfl (fun K hK => ?_) (jC rfl (fun K hK => ?_) jN)
   go_simp
   refine hK.out _ _ hHeld (fun hHeld => ?_)
   clear hK K
   try simp only [Act.put, jP]
   refine jR [8] ?_
   refine jC rfl (fun K hK => ?_) jN
   have B8 := BX.setRow (shC nm ba bn bs bh)
   have hb8 := below_setRow hHeld gb7 (shC nm ba bn bs bh)
   refine dh rfl 167 (.tmp 3) (.tmp 10) rfl gb (shC nm ba bn bs bh) rfl rfl 167 (#[.string ⟨#[]⟩, .bool false, .bool false, .bool false, .bool false]) (by exact BX) ah rfl ah ?_
   obtain ⟨z8, hz8⟩ : ∃ u, u = z1.setRow gb (shC nm ba bn bs bh) := ⟨_, rfl⟩
   rw [← hz8] at B8 hb8 ⊢
   clear hz8 BX
   refine hK.out _ _ hb8 (fun hHeld => ?_)
   clear hK K hb8
   rotate_left
   have B8 := BX.setRow (shC nm ba bn bs bh)
   have hb8 := below_setRow hHeld gb7 (shC nm ba bn bs bh)
   refine dh rfl 167 (.tmp 3) (.tmp 10) rfl gb (shC nm ba bn bs bh) rfl rfl 167 (#[.string ⟨#[]⟩, .bool false, .bool false, .bool false, .bool false]) (by exact BX) ah rfl ah ?_
   obtain ⟨z8, hz8⟩ : ∃ u, u = z1.setRow gb (shC nm ba bn bs bh) := ⟨_, rfl⟩
   rw [← hz8] at B8 hb8 ⊢
   clear hz8 BX
   refine hK.out _ _ hb8 (fun hHeld => ?_)
   clear hK K hb8
   try simp only [Act.put, jP]
   refine jT 6 (.bool bk) rfl hHeld ?_
   rotate_left
   all_goals
    try simp only [Act.put, jP]
    refine jT 9 (.bool bk) rfl hHeld ?_
    try simp only [Act.put, jP]
    refine wpAnyH_done ah ?_ _
    simp only [Exit.then]
    apply_assumption
    go_meet
    have K8 := K0.keep hHeld
    have hb9 := hb0.trans (hHeld.mono hb0.size)
    exact ⟨gb, rfl, rfl, B8, K8, hb9⟩
 case rest =>
  revert wc
  intro z8 hcut
  obtain ⟨gb, rfl, rfl, B8, K8, hb9⟩ := hcut
  clear K0 hb0 l0 sz1
  have hlt := B8.lt
  have hlk := K8.lt
  have sz9 := hb9.size
  have b8 := B8.cells
  have k8 := K8.cells
  cases bk
  ·go_wp2
   go_ret
   exact ⟨by simp, hb9⟩
  ·go_wp2_with (refine fC rfl 30 _ rfl (w.heap.size) rfl _ (opC o) (0, 0) _ (by exact K8) Tryz.underlying30 rfl ah ?_)
   refine (fRightTicket o ba _).mono ?_
   rintro e wA ⟨rfl, hbA⟩
   have KA := (K8.keep hbA).cells
   have BA := (B8.keep hbA).cells
   have jd := hb9.trans (hbA.mono hb9.size)
   have jQ := Lib.hid jd
   rw [← HBT.out]
   clear b8 k8 K8 B8 jd HBT HR HK
   obtain ⟨k, t, x, s, u, b, n⟩ := o
   cases bt <;> cases bn <;> cases bs
   all_goals go_wp2
   all_goals
    go_ret
    refine ⟨?_, jQ.out⟩
    (simp_all) <;> omega
end Go.Proofs.YtaiodbcnbcdokaaGreat.Opw
end

/- Part App. -/
import Derived.Test.YtaiodbcnbcdokaaGreatKWords
import Derived.Deep.Upon
set_option linter.unusedVariables false
set_option linter.unusedSimpArgs false
set_option linter.unusedSectionVars false
set_option maxRecDepth 100000
set_option maxHeartbeats 16000000
namespace Go.Proofs.YtaiodbcnbcdokaaGreat.Ap
open Go Go.RowKit Gro Own Wd
structure Sl where
 (ad : Option Addr) (len cap : Nat)
abbrev Sl.v (x : Sl) : Value := .slice x.ad x.len x.cap
def aG : Sl := ⟨none, 0, 0⟩
theorem bI {w : World} {k : IntKind} {x : Sl} {l : List Int} (h : Reads w k x.v l) : x.len = l.length := by
 obtain ⟨ad, cap, he, _⟩ := h
 exact qa0
theorem reads_at {w : World} {k : IntKind} {x : Sl} {l : List Int} (h : Reads w k x.v l) {i : Nat} (hi : i < l.length) : ∃ b off, x.ad = some ⟨b, off, none⟩ ∧ w.cell? ⟨b, off + i, none⟩ = some (.int k l[i]) := by
 obtain ⟨ad, cap, he, _, _, h3⟩ := h
 simp only [Sl.v, Value.slice.injEq] at he
 rcases h3 with rfl | ⟨b, off, rfl, _, hc⟩
 ·simp at hi
 ·exact ⟨b, off, he.1, hc i hi⟩
theorem reads_src {P : Program} {t e' : TypeId} {k : IntKind} {x : Value} {M : List Int} {w : World} (hk : P.underlying t = some (.slice e')) (h : Reads w k x M) : Src P 1 t x M.length (M.map (.int k)) w := by
 obtain ⟨ad, cap, rfl, h1, h2, h3⟩ := h
 rcases h3 with rfl | ⟨b, off, rfl, _, hc⟩
 ·cases ad with
  | none => exact Src.ofNil w hk cap
  | some a => exact Src.ofSlice w hk a 0 cap [] rfl (fun j u hu => by simp at hu) (fun u hu => by cases hu)
 ·refine Src.ofSlice w hk ⟨b, off, none⟩ M.length cap _ aF (fun j u hu => ?_) (fun u hu => ?_)
  ·exact qa1
  ·obtain ⟨_, _, rfl⟩ := List.mem_map.1 hu
   rfl
theorem gI {w : World} {base n : Nat} {e : TypeId} {size : Nat} {v : Value} {xs : List Value} (h : w.ownsRow base e size v n xs) : ∃ y : Sl, v = y.v := by
 rcases h.2 with ⟨rfl, _⟩ | ⟨g, cap, cur, rfl, _⟩
 ·exact ⟨⟨none, 0, 0⟩, rfl⟩
 ·exact ⟨⟨some ⟨g, 0, none⟩, n, cap⟩, rfl⟩
section
variable {P : Program} {ops : Array Oper} {rest : List Oper} {o : Oper} {a : Act} {w : World} {Q : Exit → Act → World → Prop}
theorem append_any {t e : TypeId} {bytes : Nat} {k : IntKind} (E : Elem P t e 1 bytes) (hgd : o.guard = none) (s x : Operand) (ho : o.op = .call { callee := .builtin .append, args := #[s, x], argTypes := #[t, t] })
  (base : Nat) (v : Value) (n : Nat) (L : List Int) (hs : a.eval s = v) (hown : w.ownsRow base e 1 v n (L.map (.int k))) (xv : Value) (M : List Int) (hx : a.eval x = xv) (hr : Reads w k xv M)
  (hn : n + M.length ≤ 1000000) (hbase : base ≤ w.heap.size)
  (h : ∀ (y : Sl) w', w'.ownsRow base e 1 y.v (n + M.length) ((L ++ M).map (.int k)) → Below base w w' → wpList P ops Q rest (a.put o.dst y.v) w') : wpList P ops Q (o :: rest) a w := by
 obtain ⟨i, z, hi, hz, hsz, hby, hzs⟩ := E.info
 by_cases hM : M = []
 ·subst hM
  have hsrc := reads_src E.under hr
  obtain ⟨y, rfl⟩ := gI hown
  have hle : y.len ≤ y.cap := by
   rcases hown.2 with ⟨he, _⟩ | ⟨g, cap, cur, he, _, _, h1, _⟩
   ·simp only [Sl.v, Value.slice.injEq] at he; omega
   ·simp only [Sl.v, Value.slice.injEq] at he; omega
  have hrun := run_append_nothing (P := P) w t t o.type e i E.under hi y.ad y.len y.cap hle xv qa4j
  refine wpList_plain hgd fun K hK' => ?_
  unfold Oper.wp
  simp [execOp, ho, resolve, invoke, builtin, hs, hx, hrun, Result.andThen]
  exact hK' _ _ (h y w (by simpa using hown) (Below.refl _ _))
 ·have hr' := hr
  obtain ⟨ad, cap, rfl, h1, h2, h3⟩ := hr
  rcases h3 with rfl | ⟨b, off, rfl, _, hc⟩
  ·exact absurd rfl hM
  refine wpList_append_own w hgd s x t ho base e i z 1 bytes E.under hi hz hsz hby hzs aL v n _ hs hown ⟨b, off, none⟩ M.length cap (M.map (.int k)) hx aF (fun j u hu => ?_) (fun u hu => ?_) qa4f ?_ hbase (fun v' w' h2 h3 _ => ?_)
  ·exact qa1
  ·obtain ⟨_, _, rfl⟩ := List.mem_map.1 hu
   rfl
  ·have := E.small
   calc (n + M.length) * bytes ≤ 1000000 * 1024 := Nat.mul_le_mul hn this
    _ ≤ 140737488355328 := aL
  ·obtain ⟨y, rfl⟩ := gI h2
   exact h y w' (by rw [List.map_append]; exact h2) (jg hown hbase h3)
theorem iy {t e : TypeId} {bytes : Nat} {k : IntKind} (E : Elem P t e 1 bytes) (hgd : o.guard = none) (s x : Operand) (ho : o.op = .call { callee := .builtin .append, args := #[s, x], argTypes := #[t, t] })
  (base : Nat) (d : Sl) (L : List Int) (hs : a.eval s = d.v) (hd : w.ownsRow base e 1 d.v L.length (L.map (.int k))) (ht : d.cap = d.len) (xv : Value) (M : List Int) (hx : a.eval x = xv) (hr : Reads w k xv M)
  (hn : L.length + M.length ≤ 1000000) (hbase : base ≤ w.heap.size)
  (h : ∀ (y : Sl) w', w'.ownsRow base e 1 y.v (L ++ M).length ((L ++ M).map (.int k)) → Below w.heap.size w w' → wpList P ops Q rest (a.put o.dst y.v) w') : wpList P ops Q (o :: rest) a w := by
 obtain ⟨i, z, hi, hz, hsz, hby, hzs⟩ := E.info
 have hdr : Reads w k d.v L := Reads.of_own hd rfl
 have hlen := bI hdr
 have hsrc := reads_src E.under hr
 refine wpList_plain hgd fun K hK' => ?_
 by_cases hM : M = []
 ·subst hM
  have hrun := run_append_nothing (P := P) w t t o.type e i E.under hi d.ad d.len d.cap aj xv qa4j
  unfold Oper.wp
  simp [execOp, ho, resolve, invoke, builtin, hs, hx, hrun, Result.andThen]
  exact hK' _ _ (h d w (by simpa using hd) (Below.refl _ _))
 ·have hpos : 0 < M.length := List.length_pos_iff.2 hM
  have hmx : d.len + M.length ≤ maxLen := qa4f
  have hrun := run_append_grow_src (P := P) w t t o.type e i z E.under hi hz d.ad d.len d.cap (L.map (.int k)) qa4l xv M.length (M.map (.int k)) qa4j aj (by unfold maxLen at hmx; omega) (growslice_fits aj (by
   have := E.small
   rw [hby, hlen]
   calc (L.length + M.length) * bytes ≤ 1000000 * 1024 := Nat.mul_le_mul hn this
    _ ≤ 140737488355328 := by decide))
  unfold Oper.wp
  simp [execOp, ho, resolve, invoke, builtin, hs, hx, hrun, Result.andThen]
  have hge := grownCap_ge w (d.len + M.length) d.cap e
  have hcm := grownCap_le_maxLen w (d.len + M.length) d.cap e hmx
  refine hK' _ _ (h ⟨some ⟨w.heap.size, 0, none⟩, d.len + M.length, grownCap w (d.len + M.length) d.cap e⟩ _ ?_ ?_)
  ·exact qa2
  ·exact ((Below.refl w.heap.size w).drew).alloc (Nat.le_refl _) _
end
end Go.Proofs.YtaiodbcnbcdokaaGreat.Ap

/- Layer 21: what has been read so far of a script, in memory. -/
import Derived.Test.YtpmcedfeiconfaaGreatDoorScNums
import Derived.Test.YtpmcedfeiconfaaGreatDoorScRight
import Derived.Maps.AppendAt
import Derived.Laws.OwnMore
import Derived.Test.YtpmcedfeiconfaaGreatDoorScrs
namespace Go.Proofs.YtpmcedfeiconfaaGreatDoor.Scw
open Go Go.RowKit Go.ChangeMaps Go.Proofs.YtpmcedfeiconfaaGreatDoor.Gro Go.Proofs.YtpmcedfeiconfaaGreatDoor.Own Go.Proofs.YtpmcedfeiconfaaGreatDoor.Mr Go.Proofs.YtpmcedfeiconfaaGreatDoor.Opn Go.Proofs.YtpmcedfeiconfaaGreatDoor.Opw Go.Proofs.YtpmcedfeiconfaaGreatDoor.Pl Go.Proofs.YtpmcedfeiconfaaGreatDoor.Scr Go.Proofs.YtpmcedfeiconfaaGreatDoor.Wd
set_option linter.unusedVariables false
set_option linter.unusedSimpArgs false
theorem elemO : Elem Tryz.prog 48 50 7 56 := ⟨Tryz.underlying48, by
  have h : (Tryz.prog.info? 50).map (fun i => (i.zero, i.size, i.bytes)) = some (some (.agg (opC OpD.zero)), 7, 56) := by kernel_rfl
  obtain ⟨i, h1, h2, h3, h4⟩ := Go.Proofs.YtpmcedfeiconfaaGreatDoor.Opw.parts_info h
  exact ⟨i, _, h1, h2, h3, h4, rfl⟩, by decide, by decide⟩
theorem elemP : Elem Tryz.prog 25 48 1 24 := ⟨Tryz.underlying25, by
  have h : (Tryz.prog.info? 48).map (fun i => (i.zero, i.size, i.bytes)) = some (some (.slice none 0 0), 1, 24) := by kernel_rfl
  obtain ⟨i, h1, h2, h3, h4⟩ := Go.Proofs.YtpmcedfeiconfaaGreatDoor.Opw.parts_info h
  exact ⟨i, _, h1, h2, h3, h4, rfl⟩, by decide, by decide⟩
abbrev nilV : Value := .slice none 0 0
def opsC (l : List OpD) : List Value := (l.map fun o => (opC o).toList).flatten
theorem opsC_app (a b : List OpD) : opsC (a ++ b) = opsC a ++ opsC b := by simp [opsC]
theorem opsC_one (o : OpD) : opsC [o] = (opC o).toList := by simp [opsC]
theorem opsC_len : ∀ l : List OpD, (opsC l).length = l.length * 7
  | [] => rfl
  | o :: l => by
    have := opsC_len l
    unfold opsC at this ⊢
    rw [List.map_cons, List.flatten_cons, List.length_append, this]
    simp only [List.length_cons]
    show 7 + l.length * 7 = _
    omega
theorem opsC_at : ∀ (l : List OpD) (i j : Nat) (h : i < l.length) (hj : j < 7), (opsC l)[i * 7 + j]? = (opC l[i]).toList[j]?
  | [], i, j, h, _ => by simp at h
  | o :: l, 0, j, h, hj => by
    unfold opsC
    rw [List.map_cons, List.flatten_cons, List.getElem?_append_left (by show _ < 7; omega)]
    simp
  | o :: l, i + 1, j, h, hj => by
    have := opsC_at l i j (by simpa using h) hj
    unfold opsC at this ⊢
    rw [List.map_cons, List.flatten_cons, List.getElem?_append_right (by show 7 ≤ _; omega)]
    have e : (i + 1) * 7 + j - ((opC o).toList).length = i * 7 + j := by show (i + 1) * 7 + j - 7 = _; omega
    rw [e, this]
    simp
def OwnO (B : Nat) (w : World) (v : Value) (l : List OpD) : Prop := w.ownsRow B 50 7 v l.length (opsC l)
theorem OwnO.nil (B : Nat) (w : World) : OwnO B w nilV [] := World.ownsRow_nil _ _ _ _
theorem own_block {w : World} {B : Nat} {e : TypeId} {sz : Nat} {v : Value} {n : Nat} {xs : List Value} (h : w.ownsRow B e sz v n xs) : ∀ g, v.ownBlock = some g → ∃ cur, w.heap[g]? = some (.cells cur e (0, 0)) := by
  intro g hg
  rcases h.2 with ⟨rfl, _⟩ | ⟨g', cap, cur, rfl, _, hh, _⟩
  · cases hg
  · simp only [Value.ownBlock, Option.some.injEq] at hg
    subst hg
    exact ⟨cur, hh⟩
theorem own_same {w w' : World} {B : Nat} {e : TypeId} {sz : Nat} {v : Value} {n : Nat} {xs : List Value} (h : w.ownsRow B e sz v n xs) (hs : ∀ g, v.ownBlock = some g → w'.heap[g]? = w.heap[g]?) : w'.ownsRow B e sz v n xs := by
  refine ⟨h.1, ?_⟩
  rcases h.2 with h0 | ⟨g, cap, cur, rfl, hge, hh, rest⟩
  · exact .inl h0
  · exact .inr ⟨g, cap, cur, rfl, hge, (hs g rfl).trans hh, rest⟩
/-- Two rows of unlike elements lie apart. -/
theorem own_apart {w : World} {B B' : Nat} {e e' : TypeId} {sz sz' : Nat} {v v' : Value} {n n' : Nat} {xs xs' : List Value} (h : w.ownsRow B e sz v n xs) (h' : w.ownsRow B' e' sz' v' n' xs') (he : e ≠ e') : ∀ g, v.ownBlock = some g → v'.ownBlock ≠ some g := by
  intro g hg hg'
  obtain ⟨c, hc⟩ := own_block h g hg
  obtain ⟨c', hc'⟩ := own_block h' g hg'
  rw [hc] at hc'
  injection hc' with hc'
  injection hc' with _ h2
  exact he h2
/-- Programs of the call's own, all apart. -/
structure OwnP (B : Nat) (w : World) (vp : Value) (U : List Value) (p : List (List OpD)) : Prop where
  len : U.length = p.length
  outer : w.ownsRow B 48 1 vp p.length U
  inner : ∀ i, OwnO B w (U.getD i nilV) (p.getD i [])
  apart : ∀ i j, i ≠ j → ∀ g, (U.getD i nilV).ownBlock = some g → (U.getD j nilV).ownBlock ≠ some g
theorem OwnP.nil (B : Nat) (w : World) : OwnP B w nilV [] [] := ⟨rfl, World.ownsRow_nil _ _ _ _, fun i => by simp; exact OwnO.nil B w, fun i j _ g hg => by simp [Value.ownBlock] at hg⟩
theorem OwnP.same {B : Nat} {w w' : World} {vp : Value} {U : List Value} {p : List (List OpD)} (h : OwnP B w vp U p) (hs : ∀ g, B ≤ g → g < w.heap.size → w'.heap[g]? = w.heap[g]?) : OwnP B w' vp U p :=
  ⟨h.len, own_same h.outer (fun g hg => hs g (World.ownsRow.lt h.outer g hg).1 (World.ownsRow.lt h.outer g hg).2),
   fun i => own_same (h.inner i) (fun g hg => hs g (World.ownsRow.lt (h.inner i) g hg).1 (World.ownsRow.lt (h.inner i) g hg).2), h.apart⟩
theorem OwnP.keep {B : Nat} {w w' : World} {vp : Value} {U : List Value} {p : List (List OpD)} (h : OwnP B w vp U p) (hb : Below w.heap.size w w') : OwnP B w' vp U p := h.same (fun g _ hg => hb.block g hg)
theorem getD_append (U : List Value) (i : Nat) : (U ++ [nilV]).getD i nilV = U.getD i nilV := by
  by_cases h : i < U.length
  · simp [List.getD_eq_getElem?_getD, List.getElem?_append_left h]
  · rw [List.getD_eq_getElem?_getD, List.getD_eq_getElem?_getD, List.getElem?_eq_none (l := U) (by omega)]
    by_cases h2 : i = U.length
    · subst h2; simp
    · rw [List.getElem?_eq_none (by simp; omega)]
theorem getD_append' (p : List (List OpD)) (i : Nat) : (p ++ [[]]).getD i [] = p.getD i [] := by
  by_cases h : i < p.length
  · simp [List.getD_eq_getElem?_getD, List.getElem?_append_left h]
  · rw [List.getD_eq_getElem?_getD, List.getD_eq_getElem?_getD, List.getElem?_eq_none (l := p) (by omega)]
    by_cases h2 : i = p.length
    · subst h2; simp
    · rw [List.getElem?_eq_none (by simp; omega)]
/-- An empty program more. -/
theorem OwnP.push {B : Nat} {w w' : World} {vp v' : Value} {U : List Value} {p : List (List OpD)} (h : OwnP B w vp U p) (hr : w'.ownsRow B 48 1 v' (p.length + 1) (U ++ [nilV])) (hg : w.grownBy w' vp.ownBlock) : OwnP B w' v' (U ++ [nilV]) (p ++ [[]]) :=
  ⟨by simp [h.len], by simpa using hr, fun i => by
    rw [getD_append, getD_append']
    refine own_same (h.inner i) (fun g hq => hg.block g (World.ownsRow.lt (h.inner i) g hq).2 (fun e => own_apart (h.inner i) h.outer (by decide) g hq e.symm)),
   fun i j hij g hq => by
    rw [getD_append] at hq ⊢
    exact h.apart i j hij g hq⟩
/-- An operation more in one of the programs. -/
theorem OwnP.put {B : Nat} {w w2 : World} {g cap i : Nat} {v' : Value} {U : List Value} {p : List (List OpD)} (o : OpD) (h : OwnP B w (.slice (some ⟨g, 0, none⟩) p.length cap) U p) (hi : i < p.length)
    (hr : OwnO B w2 v' (p.getD i [] ++ [o])) (hg : w.grownBy w2 (U.getD i nilV).ownBlock) (hat : v'.ownBlock = (U.getD i nilV).ownBlock ∨ v'.ownBlock = some w.heap.size) :
    OwnP B (w2.setCell ⟨g, i, none⟩ v') (.slice (some ⟨g, 0, none⟩) p.length cap) (U.set i v') (p.set i (p.getD i [] ++ [o])) ∧ w2.grownBy (w2.setCell ⟨g, i, none⟩ v') (some g) := by
  have hiU : i < U.length := by rw [h.len]; exact hi
  have ho2 : w2.ownsRow B 48 1 (.slice (some ⟨g, 0, none⟩) p.length cap) p.length U := own_same h.outer (fun g' hq => hg.block g' (World.ownsRow.lt h.outer g' hq).2 (fun e => own_apart (h.inner i) h.outer (by decide) g' e.symm hq))
  obtain ⟨hs, hgr⟩ := ho2.stored i v'
  have hnb : ∀ g', v'.ownBlock = some g' → some g' ≠ some g := fun g' hq e => by
    injection e with e
    subst e
    exact own_apart hr ho2 (by decide) g' hq rfl
  have gset : ∀ k, (U.set i v').getD k nilV = if k = i then v' else U.getD k nilV := fun k => by
    rw [List.getD_eq_getElem?_getD, List.getElem?_set]
    by_cases hk : i = k
    · subst hk; simp [hiU]
    · rw [if_neg hk, if_neg (fun e => hk e.symm), List.getD_eq_getElem?_getD]
  have pset : ∀ k, (p.set i (p.getD i [] ++ [o])).getD k [] = if k = i then p.getD i [] ++ [o] else p.getD k [] := fun k => by
    rw [List.getD_eq_getElem?_getD, List.getElem?_set]
    by_cases hk : i = k
    · subst hk; simp [hi]
    · rw [if_neg hk, if_neg (fun e => hk e.symm), List.getD_eq_getElem?_getD]
  refine ⟨⟨by simp [h.len], by simpa using hs, fun k => ?_, fun k j hkj g' hq => ?_⟩, hgr⟩
  · rw [gset, pset]
    by_cases hk : k = i
    · rw [if_pos hk, if_pos hk]
      exact own_same hr (fun g' hq => hgr.block g' (World.ownsRow.lt hr g' hq).2 (hnb g' hq))
    · rw [if_neg hk, if_neg hk]
      refine own_same (h.inner k) (fun g' hq => ?_)
      have hl := (World.ownsRow.lt (h.inner k) g' hq).2
      rw [hgr.block g' (Nat.lt_of_lt_of_le hl hg.size) (fun e => own_apart (h.inner k) h.outer (by decide) g' hq e.symm), hg.block g' hl (fun e => h.apart k i hk g' hq e.symm)]
  · rw [gset] at hq ⊢
    by_cases hk : k = i
    · rw [if_pos hk] at hq
      rw [if_neg (fun e => hkj (hk.trans e.symm))]
      intro hq'
      rcases hat with q | q
      · rw [q] at hq
        exact h.apart j i (fun e => hkj (hk.trans e.symm)) g' hq' hq
      · rw [q] at hq
        simp only [Option.some.injEq] at hq
        have := (World.ownsRow.lt (h.inner j) g' hq').2
        omega
    · rw [if_neg hk] at hq
      by_cases hj : j = i
      · rw [if_pos hj]
        intro hq'
        rcases hat with q | q
        · rw [q] at hq'
          exact h.apart k i hk g' hq hq'
        · rw [q] at hq'
          simp only [Option.some.injEq] at hq'
          have := (World.ownsRow.lt (h.inner k) g' hq).2
          omega
      · rw [if_neg hj]
        exact h.apart k j hkj g' hq
theorem OwnO.reads {B : Nat} {w : World} {v : Value} {l : List OpD} (h : OwnO B w v l) : ReadsO w v l := by
  by_cases h0 : 0 < l.length
  · obtain ⟨g, cap, rfl, _, hlt, h1, h2, hc⟩ := owns_cells h h0
    refine ⟨_, _, rfl, h1, h2, .inr ⟨g, 0, rfl, hlt, fun i hi j v hv => ?_⟩⟩
    have hj : j < 7 := (List.getElem?_eq_some_iff.1 hv).1
    rw [Nat.zero_add, hc (i * 7 + j) (by rw [opsC_len]; omega), opsC_at l i j hi hj]
    exact hv
  · have e : l = [] := List.eq_nil_of_length_eq_zero (by omega)
    subst e
    rcases h.2 with ⟨rfl, _⟩ | ⟨g, cap, cur, rfl, _, _, h1, h2, _⟩
    · exact ⟨_, _, rfl, Nat.le_refl _, Nat.zero_le _, .inl rfl⟩
    · exact ⟨_, _, rfl, h1, h2, .inl rfl⟩
theorem OwnP.reads {B : Nat} {w : World} {vp : Value} {U : List Value} {p : List (List OpD)} (h : OwnP B w vp U p) : ReadsP w vp p := by
  by_cases h0 : 0 < p.length
  · obtain ⟨g, cap, rfl, _, hlt, h1, h2, hc⟩ := owns_cells h.outer h0
    refine ⟨_, _, rfl, h1, h2, .inr ⟨g, 0, rfl, hlt, fun i hi => ?_⟩⟩
    have hiU : i < U.length := by rw [h.len]; exact hi
    refine ⟨U[i], ?_, ?_⟩
    · rw [Nat.zero_add, hc i hiU]
      simp [hiU]
    · have := (h.inner i).reads
      rw [List.getD_eq_getElem?_getD, List.getD_eq_getElem?_getD, List.getElem?_eq_getElem hiU, List.getElem?_eq_getElem hi] at this
      exact this
  · have e : p = [] := List.eq_nil_of_length_eq_zero (by omega)
    subst e
    rcases h.outer.2 with ⟨rfl, _⟩ | ⟨g, cap, cur, rfl, _, _, h1, h2, _⟩
    · exact ⟨_, _, rfl, Nat.le_refl _, Nat.zero_le _, .inl rfl⟩
    · exact ⟨_, _, rfl, h1, h2, .inl rfl⟩
/-! ### a look-up by a word -/
theorem findNow_str (k : ByteArray) : ∀ (L : List (ByteArray × Value)) (es : List MapEntry) (i : Nat), es.map kv = L.map (pr Value.string) → Instr.findNow .string (.string k) es i = some (idx k L i)
  | [], [], _, _ => rfl
  | [], _ :: _, _, h => by simp at h
  | _ :: _, [], _, h => by simp at h
  | p :: r, e :: es, i, h => by
    simp only [List.map_cons, List.cons.injEq] at h
    obtain ⟨h1, h2⟩ := h
    simp only [kv, pr, Prod.mk.injEq] at h1
    unfold Instr.findNow idx
    rw [h1.1, h1.2]
    by_cases hk : k = p.1
    · have hb : (k == p.1) = true := (MapKept.bytes_beq k p.1).2 hk
      simp only [Instr.sameNow, hb, if_pos hk]
    · have hb : (k == p.1) = false := by
        cases hq : (k == p.1) with
        | false => rfl
        | true => exact absurd ((MapKept.bytes_beq k p.1).1 hq) hk
      simp only [Instr.sameNow, if_true, hb, if_neg hk]
      exact findNow_str k r es (i + 1) h2
theorem str_keys {P : Program} {kt : TypeId} (hk : P.underlying kt = some .string) : Keys P kt Value.string where
  find w k L es h := by simp [Instr.findKey, run_underlying hk, findNow_str k L es 0 h]
  check w b k := MapKept.run_checkKey hk (by simp [MapKept.IsKey]) b 9999
  same k := by
    have : (k == k) = true := (MapKept.bytes_beq k k).2 rfl
    simp [Instr.sameBits, this]
end Go.Proofs.YtpmcedfeiconfaaGreatDoor.Scw

/- Layer 21: the reader's state in memory, and what keeps it. -/
namespace Go.Proofs.YtpmcedfeiconfaaGreatDoor.Scw
open Go Go.RowKit Go.ChangeMaps Go.Proofs.YtpmcedfeiconfaaGreatDoor.Gro Go.Proofs.YtpmcedfeiconfaaGreatDoor.Own Go.Proofs.YtpmcedfeiconfaaGreatDoor.Mr Go.Proofs.YtpmcedfeiconfaaGreatDoor.Opn Go.Proofs.YtpmcedfeiconfaaGreatDoor.Opw Go.Proofs.YtpmcedfeiconfaaGreatDoor.Pl Go.Proofs.YtpmcedfeiconfaaGreatDoor.Scr Go.Proofs.YtpmcedfeiconfaaGreatDoor.Wd
set_option linter.unusedVariables false
set_option linter.unusedSimpArgs false
abbrev rdC (c : Cfg) (vp vk : Value) (bf : List UInt8) (m : Nat) : Array Value := #[.int .i64 c.ww, .int .i64 c.sl, .int .i64 c.bl, .int .i64 c.wd, .int .i64 c.en, .int .i64 c.rk, .int .i64 c.bg, .int .u64 c.la, vp, vk, strV bf, .map (some m)]
/-- What lies below B, the block b but, is as it was. -/
structure Far (B b : Nat) (w w' : World) : Prop where
  os : w'.os = w.os
  tape : w'.tape = w.tape
  output : w'.output = w.output
  size : w.heap.size ≤ w'.heap.size
  block : ∀ k, k < B → k ≠ b → w'.heap[k]? = w.heap[k]?
theorem Far.refl (B b : Nat) (w : World) : Far B b w w := ⟨rfl, rfl, rfl, Nat.le_refl _, fun _ _ _ => rfl⟩
theorem Far.trans {B b : Nat} {x y z : World} (h : Far B b x y) (k : Far B b y z) : Far B b x z :=
  ⟨k.os.trans h.os, k.tape.trans h.tape, k.output.trans h.output, Nat.le_trans h.size k.size, fun i hi hb => (k.block i hi hb).trans (h.block i hi hb)⟩
theorem Far.of {B b : Nat} {w w' : World} (h : Below w.heap.size w w') (hB : B ≤ w.heap.size) : Far B b w w' :=
  ⟨h.os, h.tape, h.output, h.size, fun k hk _ => h.block k (Nat.lt_of_lt_of_le hk hB)⟩
theorem Far.setRow (B b : Nat) (w : World) (cs : Array Value) : Far B b w (w.setRow b cs) :=
  ⟨rfl, rfl, rfl, by simp [World.setRow], fun k _ hb => setRow_other w b k cs hb⟩
theorem Far.setCell (B b j : Nat) (w : World) (v : Value) : Far B b w (w.setCell ⟨b, j, none⟩ v) :=
  ⟨rfl, rfl, rfl, by simp [World.setCell], fun k _ hb => heap_setCell_other w ⟨b, j, none⟩ k v hb⟩
theorem Far.grown {B b : Nat} {w w' : World} {row : Option Nat} (h : w.grownBy w' row) (hB : B ≤ w.heap.size) (hr : ∀ k, row = some k → B ≤ k) : Far B b w w' :=
  ⟨h.os, h.tape, h.output, h.size, fun k hk _ => h.block k (Nat.lt_of_lt_of_le hk hB) (fun e => by have := hr k e.symm; omega)⟩
theorem Far.own {B b : Nat} {w : World} {j : Nat} (hj : B ≤ j) (i : Nat) (v : Value) : Far B b w (w.setCell ⟨j, i, none⟩ v) :=
  ⟨rfl, rfl, rfl, by simp [World.setCell], fun k hk _ => heap_setCell_other w ⟨j, i, none⟩ k v (by intro e; simp at e; omega)⟩
theorem Far.below {B b B0 : Nat} {w w' : World} (h : Far B b w w') (h0 : B0 ≤ b) (h1 : b < B) : Below B0 w w' :=
  ⟨h.os, h.tape, h.output, h.size, fun k hk => h.block k (by omega) (by omega)⟩
/-- What has been read so far. -/
def RdW (B b m : Nat) (st : RdS) (w : World) : Prop :=
  b < B ∧ B ≤ w.heap.size ∧ ∃ vp vk U, Bk w b (rdC st.s.c vp vk st.b m) 71 ∧ OwnP B w vp U st.s.p ∧ OwnI B w vk st.s.k
theorem below_far {B b : Nat} {w w' : World} (h : Below w.heap.size w w') : ∀ g, B ≤ g → g < w.heap.size → w'.heap[g]? = w.heap[g]? := fun g _ hg => h.block g hg
/-- What is known of a reader that has read so far. -/
structure GoodR (st : RdS) : Prop where
  ok : st.b ≠ [] → okC st.s.c = true
  pl : st.s.p.length ≤ 8
  ol : ∀ i, (st.s.p.getD i []).length ≤ 200
  kl : st.s.k.length ≤ 2000
end Go.Proofs.YtpmcedfeiconfaaGreatDoor.Scw

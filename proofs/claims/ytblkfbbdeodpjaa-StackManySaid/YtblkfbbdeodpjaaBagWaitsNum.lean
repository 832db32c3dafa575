/- What the law BagWaits says of the data: each block put is in one place, under its tag. -/
import Derived.Test.YtblkfbbdeodpjaaBagPut
import Derived.Test.YtblkfbbdeodpjaaBagRipe0
namespace Go.Proofs.Ytblkfbbdeodpjaa.Wo
open Go Go.RowKit Go.Proofs.Ytblkfbbdeodpjaa.Gro Go.Proofs.Ytblkfbbdeodpjaa.Own Go.Proofs.Ytblkfbbdeodpjaa.Wd Go.Proofs.Ytblkfbbdeodpjaa.Ap Go.Proofs.Ytblkfbbdeodpjaa.Pl
set_option linter.unusedVariables false
set_option linter.unusedSimpArgs false

/-- How often a block occurs. -/
def cnt (x : St) (v : Int) : Nat := x.hl.count v + x.l0.count v + x.l1.count v + x.l2.count v
structure Bkt (j : Int) (t ep : Int) (l T : List Int) : Prop where
  t0 : 0 ≤ t
  t1 : t ≤ ep + 1
  of : ∀ v ∈ l, T.getD v.toNat 0 = t ∧ t % 3 = j
/-- After i puts. -/
structure WInv (n i : Nat) (x : St) (T : List Int) : Prop where
  ep0 : 2 ≤ x.p.ep
  ep1 : x.p.ep ≤ 2 + 5 * (i : Int)
  len : T.length = n
  rk : x.rk = []
  rd : x.rd = []
  all : x.hl.length + x.l0.length + x.l1.length + x.l2.length ≤ i
  b0 : Bkt 0 x.p.t0 x.p.ep x.l0 T
  b1 : Bkt 1 x.p.t1 x.p.ep x.l1 T
  b2 : Bkt 2 x.p.t2 x.p.ep x.l2 T
  one : ∀ v : Int, cnt x v = if 0 ≤ v ∧ v < (i : Int) ∧ T.getD v.toNat 0 ≠ 0 then 1 else 0
  pos : ∀ k, 0 ≤ T.getD k 0
  top : ∀ k, T.getD k 0 ≤ x.p.ep + 1
/-- The state with its epoch raised. -/
def withE (x : St) (e : Int) : St := { x with p := { x.p with ep := e } }
theorem Bkt.up {j t ep ep' : Int} {l T : List Int} (h : Bkt j t ep l T) (he : ep ≤ ep') : Bkt j t ep' l T := ⟨h.t0, by have := h.t1; omega, h.of⟩
theorem Bkt.nil {j t ep : Int} {T : List Int} (h0 : 0 ≤ t) (h1 : t ≤ ep + 1) : Bkt j t ep [] T := ⟨h0, h1, fun v hv => by cases hv⟩
theorem getD_set {T : List Int} {i k : Nat} {a : Int} (hi : i < T.length) : (T.set i a).getD k 0 = if k = i then a else T.getD k 0 := by
  rw [List.getD_eq_getElem?_getD, List.getD_eq_getElem?_getD, List.getElem?_set]
  by_cases h : i = k
  · subst h; simp [hi]
  · simp [h, Ne.symm h]
theorem count_pos_of_mem {l : List Int} {v : Int} (h : v ∈ l) : 0 < l.count v := List.count_pos_iff.2 h
theorem mem_of_cnt {n i : Nat} {x : St} {T : List Int} (h : WInv n i x T) {v : Int} (hv : 0 < cnt x v) : 0 ≤ v ∧ v < (i : Int) ∧ T.getD v.toNat 0 ≠ 0 := by
  have := h.one v
  split at this
  · assumption
  · omega
/-- Elements of the state's lists keep their tags when a new one is written. -/
theorem Bkt.set {n i : Nat} {x : St} {T : List Int} (h : WInv n i x T) (hi : i < n) {j t ep : Int} {l : List Int} (b : Bkt j t ep l T) (hl : ∀ v ∈ l, 0 < cnt x v) (a : Int) : Bkt j t ep l (T.set i a) :=
  ⟨b.t0, b.t1, fun v hv => by
    obtain ⟨h1, h2, _⟩ := mem_of_cnt h (hl v hv)
    rw [getD_set (by rw [h.len]; exact hi), if_neg (by omega)]
    exact b.of v hv⟩
theorem tag_withE {x : St} {e : Int} (h0 : 0 ≤ e) (h1 : e < 1000) : tagOf (withE x e) = e + 1 := by
  unfold tagOf withE
  exact u64_in (by simp; omega) (by simp; omega)
def xE0 : St := ⟨{ pz with ep := 2 }, [], [], [], [], [], []⟩
/-- What one round does to the data. -/
structure Rnd (n i : Nat) (x y : St) (T T' : List Int) (e : Int) : Prop where
  inv : WInv n (i + 1) y T'
  ep : y.p.ep = e
  hl : ∃ M, y.hl = x.hl ++ M ∧ ∀ b ∈ M, 0 ≤ b ∧ b < (i : Int) ∧ T'.getD b.toNat 0 ≠ 0 ∧ T'.getD b.toNat 0 + 2 ≤ e
  few : y.hl.length ≤ n
/-- The bucket of the tag, prepared, and perhaps with a new block. -/
theorem rnd_mk {n i : Nat} {x y : St} {T : List Int} {e a : Int} (h : WInv n i x T) (hi : i < n) (he : x.p.ep ≤ e) (he1 : e ≤ x.p.ep + 5)
    (hep : y.p.ep = e) (hrk : y.rk = []) (hrd : y.rd = [])
    (M L : List Int) (hy : y.hl = x.hl ++ M) (hM : ∀ v ∈ M, 0 < cnt x v ∧ T.getD v.toNat 0 + 2 ≤ e)
    (hc : ∀ v, cnt y v = cnt x v + L.count v) (hlen : y.hl.length + y.l0.length + y.l1.length + y.l2.length ≤ x.hl.length + x.l0.length + x.l1.length + x.l2.length + 1)
    (hL : (L = [] ∧ a = 0) ∨ (L = [(i : Int)] ∧ a = e + 1))
    (B0 : Bkt 0 y.p.t0 e y.l0 (T.set i a)) (B1 : Bkt 1 y.p.t1 e y.l1 (T.set i a)) (B2 : Bkt 2 y.p.t2 e y.l2 (T.set i a)) : Rnd n i x y T (T.set i a) e := by
  have hil : i < T.length := by rw [h.len]; exact hi
  have h0 := h.ep0
  refine ⟨⟨by omega, by have := h.ep1; rw [hep]; omega, by simp [h.len], hrk, hrd, by have := h.all; omega, by rw [hep]; exact B0, by rw [hep]; exact B1, by rw [hep]; exact B2, fun v => ?_, fun k => ?_, fun k => ?_⟩, hep, ⟨M, hy, fun b hb => ?_⟩, by have := h.all; omega⟩
  · rw [hc, h.one]
    have ho : ∀ k : Nat, (T.set i a).getD k 0 = if k = i then a else T.getD k 0 := fun k => getD_set hil
    rw [ho]
    by_cases hv : v = (i : Int)
    · subst hv
      rcases hL with ⟨rfl, rfl⟩ | ⟨rfl, rfl⟩
      · simp
      · have : e + 1 ≠ 0 := by omega
        simp [this]; omega
    · have hLc : L.count v = 0 := by
        rcases hL with ⟨rfl, _⟩ | ⟨rfl, _⟩
        · rfl
        · rw [List.count_singleton]; simp; omega
      rw [hLc, Nat.add_zero]
      by_cases h0v : 0 ≤ v
      · have hne : v.toNat ≠ i := by omega
        rw [if_neg hne]
        by_cases hlt : v < (i : Int)
        · have : v < (i : Int) + 1 := by omega
          simp [h0v, hlt, this]
        · have : ¬ v < (i : Int) + 1 := by omega
          simp [hlt, this]
      · simp [h0v]
  · rw [getD_set hil]
    split
    · rcases hL with ⟨_, rfl⟩ | ⟨_, rfl⟩ <;> omega
    · exact h.pos k
  · rw [getD_set hil, hep]
    have := h.top k
    split
    · rcases hL with ⟨_, rfl⟩ | ⟨_, rfl⟩ <;> omega
    · omega
  · obtain ⟨h1, h2⟩ := hM b hb
    obtain ⟨h3, h4, h5⟩ := mem_of_cnt h h1
    rw [getD_set hil, if_neg (by omega)]
    exact ⟨h3, h4, h5, h2⟩
/-- The round (made by genbw.py). -/
theorem mem0 {x : St} {v : Int} (h : v ∈ x.l0) : 0 < cnt x v := by have := count_pos_of_mem h; unfold cnt; omega
theorem mem1 {x : St} {v : Int} (h : v ∈ x.l1) : 0 < cnt x v := by have := count_pos_of_mem h; unfold cnt; omega
theorem mem2 {x : St} {v : Int} (h : v ∈ x.l2) : 0 < cnt x v := by have := count_pos_of_mem h; unfold cnt; omega
theorem rnd0_same_room {n i : Nat} {x : St} {T : List Int} (h : WInv n i x T) (hi : i < n) (e : Int) (he : x.p.ep ≤ e) (he1 : e ≤ x.p.ep + 5) (hm : (e + 1) % 3 = 0) (ht : x.p.t0 = e + 1) : Rnd n i x { withE x e with l0 := x.l0 ++ [(i : Int)] } T (T.set i (e + 1)) e := by
  have hil : i < T.length := by rw [h.len]; exact hi
  have hep0 := h.ep0
  have hb := h.b0
  refine rnd_mk h hi he he1 rfl h.rk h.rd [] [(i : Int)] (by simp [withE]) (fun v hv => by cases hv) (fun v => ?_) ?_ (.inr ⟨rfl, rfl⟩) ?_ ((h.b1.up he).set h hi (fun v hv => mem1 hv) (e + 1)) ((h.b2.up he).set h hi (fun v hv => mem2 hv) (e + 1))
  · simp [cnt, withE, List.count_append] <;> omega
  · simp [withE] <;> omega
  · refine ⟨by simp [withE] <;> omega, by simp [withE] <;> omega, fun v hv => ?_⟩
    rcases List.mem_append.1 hv with hv | hv
    · obtain ⟨q1, q2⟩ := (((h.b0.up he).set h hi (fun v hv => mem0 hv) (e + 1))).of v hv
      exact ⟨q1, q2⟩
    · obtain rfl := List.mem_singleton.1 hv
      rw [getD_set hil, if_pos (by omega)]
      exact ⟨ht.symm, by rw [show (withE x e).p.t0 = e + 1 from ht]; exact hm⟩
theorem rnd0_same_full {n i : Nat} {x : St} {T : List Int} (h : WInv n i x T) (hi : i < n) (e : Int) (he : x.p.ep ≤ e) (he1 : e ≤ x.p.ep + 5) (hm : (e + 1) % 3 = 0) (ht : x.p.t0 = e + 1) : Rnd n i x (withE x e) T (T.set i 0) e := by
  have hil : i < T.length := by rw [h.len]; exact hi
  have hep0 := h.ep0
  have hb := h.b0
  refine rnd_mk h hi he he1 rfl h.rk h.rd [] [] (by simp [withE]) (fun v hv => by cases hv) (fun v => ?_) ?_ (.inl ⟨rfl, rfl⟩) ?_ ((h.b1.up he).set h hi (fun v hv => mem1 hv) 0) ((h.b2.up he).set h hi (fun v hv => mem2 hv) 0)
  · simp [cnt, withE]
  · simp [withE] <;> omega
  · exact ((h.b0.up he).set h hi (fun v hv => mem0 hv) 0)
theorem rnd0_other_room {n i : Nat} {x : St} {T : List Int} (h : WInv n i x T) (hi : i < n) (e : Int) (he : x.p.ep ≤ e) (he1 : e ≤ x.p.ep + 5) (hm : (e + 1) % 3 = 0) (ht : ¬ x.p.t0 = e + 1) : Rnd n i x { withE x e with p := { (withE x e).p with t0 := e + 1 }, l0 := [] ++ [(i : Int)], hl := x.hl ++ x.l0 } T (T.set i (e + 1)) e := by
  have hil : i < T.length := by rw [h.len]; exact hi
  have hep0 := h.ep0
  have hb := h.b0
  refine rnd_mk h hi he he1 rfl h.rk h.rd x.l0 [(i : Int)] rfl (fun v hv => ⟨mem0 hv, by obtain ⟨q1, q2⟩ := hb.of v hv; have := hb.t1; rw [q1]; omega⟩) (fun v => ?_) ?_ (.inr ⟨rfl, rfl⟩) ?_ ((h.b1.up he).set h hi (fun v hv => mem1 hv) (e + 1)) ((h.b2.up he).set h hi (fun v hv => mem2 hv) (e + 1))
  · simp [cnt, withE, List.count_append] <;> omega
  · simp [withE] <;> omega
  · refine ⟨by simp [withE] <;> omega, by simp [withE] <;> omega, fun v hv => ?_⟩
    obtain rfl := List.mem_singleton.1 hv
    rw [getD_set hil, if_pos (by omega)]
    exact ⟨rfl, hm⟩
theorem rnd0_other_full {n i : Nat} {x : St} {T : List Int} (h : WInv n i x T) (hi : i < n) (e : Int) (he : x.p.ep ≤ e) (he1 : e ≤ x.p.ep + 5) (hm : (e + 1) % 3 = 0) (ht : ¬ x.p.t0 = e + 1) : Rnd n i x { withE x e with p := { (withE x e).p with t0 := e + 1 }, l0 := [], hl := x.hl ++ x.l0 } T (T.set i 0) e := by
  have hil : i < T.length := by rw [h.len]; exact hi
  have hep0 := h.ep0
  have hb := h.b0
  refine rnd_mk h hi he he1 rfl h.rk h.rd x.l0 [] rfl (fun v hv => ⟨mem0 hv, by obtain ⟨q1, q2⟩ := hb.of v hv; have := hb.t1; rw [q1]; omega⟩) (fun v => ?_) ?_ (.inl ⟨rfl, rfl⟩) ?_ ((h.b1.up he).set h hi (fun v hv => mem1 hv) 0) ((h.b2.up he).set h hi (fun v hv => mem2 hv) 0)
  · simp [cnt, withE, List.count_append] <;> omega
  · simp [withE] <;> omega
  · exact Bkt.nil (by simp <;> omega) (by simp <;> omega)
theorem rnd1_same_room {n i : Nat} {x : St} {T : List Int} (h : WInv n i x T) (hi : i < n) (e : Int) (he : x.p.ep ≤ e) (he1 : e ≤ x.p.ep + 5) (hm : (e + 1) % 3 = 1) (ht : x.p.t1 = e + 1) : Rnd n i x { withE x e with l1 := x.l1 ++ [(i : Int)] } T (T.set i (e + 1)) e := by
  have hil : i < T.length := by rw [h.len]; exact hi
  have hep0 := h.ep0
  have hb := h.b1
  refine rnd_mk h hi he he1 rfl h.rk h.rd [] [(i : Int)] (by simp [withE]) (fun v hv => by cases hv) (fun v => ?_) ?_ (.inr ⟨rfl, rfl⟩) ((h.b0.up he).set h hi (fun v hv => mem0 hv) (e + 1)) ?_ ((h.b2.up he).set h hi (fun v hv => mem2 hv) (e + 1))
  · simp [cnt, withE, List.count_append] <;> omega
  · simp [withE] <;> omega
  · refine ⟨by simp [withE] <;> omega, by simp [withE] <;> omega, fun v hv => ?_⟩
    rcases List.mem_append.1 hv with hv | hv
    · obtain ⟨q1, q2⟩ := (((h.b1.up he).set h hi (fun v hv => mem1 hv) (e + 1))).of v hv
      exact ⟨q1, q2⟩
    · obtain rfl := List.mem_singleton.1 hv
      rw [getD_set hil, if_pos (by omega)]
      exact ⟨ht.symm, by rw [show (withE x e).p.t1 = e + 1 from ht]; exact hm⟩
theorem rnd1_same_full {n i : Nat} {x : St} {T : List Int} (h : WInv n i x T) (hi : i < n) (e : Int) (he : x.p.ep ≤ e) (he1 : e ≤ x.p.ep + 5) (hm : (e + 1) % 3 = 1) (ht : x.p.t1 = e + 1) : Rnd n i x (withE x e) T (T.set i 0) e := by
  have hil : i < T.length := by rw [h.len]; exact hi
  have hep0 := h.ep0
  have hb := h.b1
  refine rnd_mk h hi he he1 rfl h.rk h.rd [] [] (by simp [withE]) (fun v hv => by cases hv) (fun v => ?_) ?_ (.inl ⟨rfl, rfl⟩) ((h.b0.up he).set h hi (fun v hv => mem0 hv) 0) ?_ ((h.b2.up he).set h hi (fun v hv => mem2 hv) 0)
  · simp [cnt, withE]
  · simp [withE] <;> omega
  · exact ((h.b1.up he).set h hi (fun v hv => mem1 hv) 0)
theorem rnd1_other_room {n i : Nat} {x : St} {T : List Int} (h : WInv n i x T) (hi : i < n) (e : Int) (he : x.p.ep ≤ e) (he1 : e ≤ x.p.ep + 5) (hm : (e + 1) % 3 = 1) (ht : ¬ x.p.t1 = e + 1) : Rnd n i x { withE x e with p := { (withE x e).p with t1 := e + 1 }, l1 := [] ++ [(i : Int)], hl := x.hl ++ x.l1 } T (T.set i (e + 1)) e := by
  have hil : i < T.length := by rw [h.len]; exact hi
  have hep0 := h.ep0
  have hb := h.b1
  refine rnd_mk h hi he he1 rfl h.rk h.rd x.l1 [(i : Int)] rfl (fun v hv => ⟨mem1 hv, by obtain ⟨q1, q2⟩ := hb.of v hv; have := hb.t1; rw [q1]; omega⟩) (fun v => ?_) ?_ (.inr ⟨rfl, rfl⟩) ((h.b0.up he).set h hi (fun v hv => mem0 hv) (e + 1)) ?_ ((h.b2.up he).set h hi (fun v hv => mem2 hv) (e + 1))
  · simp [cnt, withE, List.count_append] <;> omega
  · simp [withE] <;> omega
  · refine ⟨by simp [withE] <;> omega, by simp [withE] <;> omega, fun v hv => ?_⟩
    obtain rfl := List.mem_singleton.1 hv
    rw [getD_set hil, if_pos (by omega)]
    exact ⟨rfl, hm⟩
theorem rnd1_other_full {n i : Nat} {x : St} {T : List Int} (h : WInv n i x T) (hi : i < n) (e : Int) (he : x.p.ep ≤ e) (he1 : e ≤ x.p.ep + 5) (hm : (e + 1) % 3 = 1) (ht : ¬ x.p.t1 = e + 1) : Rnd n i x { withE x e with p := { (withE x e).p with t1 := e + 1 }, l1 := [], hl := x.hl ++ x.l1 } T (T.set i 0) e := by
  have hil : i < T.length := by rw [h.len]; exact hi
  have hep0 := h.ep0
  have hb := h.b1
  refine rnd_mk h hi he he1 rfl h.rk h.rd x.l1 [] rfl (fun v hv => ⟨mem1 hv, by obtain ⟨q1, q2⟩ := hb.of v hv; have := hb.t1; rw [q1]; omega⟩) (fun v => ?_) ?_ (.inl ⟨rfl, rfl⟩) ((h.b0.up he).set h hi (fun v hv => mem0 hv) 0) ?_ ((h.b2.up he).set h hi (fun v hv => mem2 hv) 0)
  · simp [cnt, withE, List.count_append] <;> omega
  · simp [withE] <;> omega
  · exact Bkt.nil (by simp <;> omega) (by simp <;> omega)
theorem rnd2_same_room {n i : Nat} {x : St} {T : List Int} (h : WInv n i x T) (hi : i < n) (e : Int) (he : x.p.ep ≤ e) (he1 : e ≤ x.p.ep + 5) (hm : (e + 1) % 3 = 2) (ht : x.p.t2 = e + 1) : Rnd n i x { withE x e with l2 := x.l2 ++ [(i : Int)] } T (T.set i (e + 1)) e := by
  have hil : i < T.length := by rw [h.len]; exact hi
  have hep0 := h.ep0
  have hb := h.b2
  refine rnd_mk h hi he he1 rfl h.rk h.rd [] [(i : Int)] (by simp [withE]) (fun v hv => by cases hv) (fun v => ?_) ?_ (.inr ⟨rfl, rfl⟩) ((h.b0.up he).set h hi (fun v hv => mem0 hv) (e + 1)) ((h.b1.up he).set h hi (fun v hv => mem1 hv) (e + 1)) ?_
  · simp [cnt, withE, List.count_append] <;> omega
  · simp [withE] <;> omega
  · refine ⟨by simp [withE] <;> omega, by simp [withE] <;> omega, fun v hv => ?_⟩
    rcases List.mem_append.1 hv with hv | hv
    · obtain ⟨q1, q2⟩ := (((h.b2.up he).set h hi (fun v hv => mem2 hv) (e + 1))).of v hv
      exact ⟨q1, q2⟩
    · obtain rfl := List.mem_singleton.1 hv
      rw [getD_set hil, if_pos (by omega)]
      exact ⟨ht.symm, by rw [show (withE x e).p.t2 = e + 1 from ht]; exact hm⟩
theorem rnd2_same_full {n i : Nat} {x : St} {T : List Int} (h : WInv n i x T) (hi : i < n) (e : Int) (he : x.p.ep ≤ e) (he1 : e ≤ x.p.ep + 5) (hm : (e + 1) % 3 = 2) (ht : x.p.t2 = e + 1) : Rnd n i x (withE x e) T (T.set i 0) e := by
  have hil : i < T.length := by rw [h.len]; exact hi
  have hep0 := h.ep0
  have hb := h.b2
  refine rnd_mk h hi he he1 rfl h.rk h.rd [] [] (by simp [withE]) (fun v hv => by cases hv) (fun v => ?_) ?_ (.inl ⟨rfl, rfl⟩) ((h.b0.up he).set h hi (fun v hv => mem0 hv) 0) ((h.b1.up he).set h hi (fun v hv => mem1 hv) 0) ?_
  · simp [cnt, withE]
  · simp [withE] <;> omega
  · exact ((h.b2.up he).set h hi (fun v hv => mem2 hv) 0)
theorem rnd2_other_room {n i : Nat} {x : St} {T : List Int} (h : WInv n i x T) (hi : i < n) (e : Int) (he : x.p.ep ≤ e) (he1 : e ≤ x.p.ep + 5) (hm : (e + 1) % 3 = 2) (ht : ¬ x.p.t2 = e + 1) : Rnd n i x { withE x e with p := { (withE x e).p with t2 := e + 1 }, l2 := [] ++ [(i : Int)], hl := x.hl ++ x.l2 } T (T.set i (e + 1)) e := by
  have hil : i < T.length := by rw [h.len]; exact hi
  have hep0 := h.ep0
  have hb := h.b2
  refine rnd_mk h hi he he1 rfl h.rk h.rd x.l2 [(i : Int)] rfl (fun v hv => ⟨mem2 hv, by obtain ⟨q1, q2⟩ := hb.of v hv; have := hb.t1; rw [q1]; omega⟩) (fun v => ?_) ?_ (.inr ⟨rfl, rfl⟩) ((h.b0.up he).set h hi (fun v hv => mem0 hv) (e + 1)) ((h.b1.up he).set h hi (fun v hv => mem1 hv) (e + 1)) ?_
  · simp [cnt, withE, List.count_append] <;> omega
  · simp [withE] <;> omega
  · refine ⟨by simp [withE] <;> omega, by simp [withE] <;> omega, fun v hv => ?_⟩
    obtain rfl := List.mem_singleton.1 hv
    rw [getD_set hil, if_pos (by omega)]
    exact ⟨rfl, hm⟩
theorem rnd2_other_full {n i : Nat} {x : St} {T : List Int} (h : WInv n i x T) (hi : i < n) (e : Int) (he : x.p.ep ≤ e) (he1 : e ≤ x.p.ep + 5) (hm : (e + 1) % 3 = 2) (ht : ¬ x.p.t2 = e + 1) : Rnd n i x { withE x e with p := { (withE x e).p with t2 := e + 1 }, l2 := [], hl := x.hl ++ x.l2 } T (T.set i 0) e := by
  have hil : i < T.length := by rw [h.len]; exact hi
  have hep0 := h.ep0
  have hb := h.b2
  refine rnd_mk h hi he he1 rfl h.rk h.rd x.l2 [] rfl (fun v hv => ⟨mem2 hv, by obtain ⟨q1, q2⟩ := hb.of v hv; have := hb.t1; rw [q1]; omega⟩) (fun v => ?_) ?_ (.inl ⟨rfl, rfl⟩) ((h.b0.up he).set h hi (fun v hv => mem0 hv) 0) ((h.b1.up he).set h hi (fun v hv => mem1 hv) 0) ?_
  · simp [cnt, withE, List.count_append] <;> omega
  · simp [withE] <;> omega
  · exact Bkt.nil (by simp <;> omega) (by simp <;> omega)
/-- One round. -/
theorem round_of {n i : Nat} {x : St} {T : List Int} (h : WInv n i x T) (hi : i < n) (hn : n ≤ 40) (d m : Int) (hd0 : 0 ≤ d) (hd1 : d ≤ 5) :
    Rnd n i x (putB m (withE x (x.p.ep + d)) i).1 T (T.set i (if (putB m (withE x (x.p.ep + d)) i).2 = true then x.p.ep + d + 1 else 0)) (x.p.ep + d) := by
  have h1 := h.ep1
  have h0 := h.ep0
  obtain ⟨e, he⟩ : ∃ e, e = x.p.ep + d := ⟨_, rfl⟩
  rw [← he]
  have g1 : x.p.ep ≤ e := by omega
  have g2 : e ≤ x.p.ep + 5 := by omega
  have hT := tag_withE (x := x) (e := e) (by omega) (by omega)
  unfold putB
  rw [hT]
  by_cases c0 : (e + 1) % 3 = 0
  · rw [if_pos c0]
    unfold prep0
    rw [hT]
    by_cases ht : (withE x e).p.t0 = e + 1
    · rw [if_pos ht]
      split
      · exact rnd0_same_room h hi e g1 g2 c0 ht
      · exact rnd0_same_full h hi e g1 g2 c0 ht
    · rw [if_neg ht]
      split
      · exact rnd0_other_room h hi e g1 g2 c0 ht
      · exact rnd0_other_full h hi e g1 g2 c0 ht
  · rw [if_neg c0]
    by_cases c1 : (e + 1) % 3 = 1
    · rw [if_pos c1]
      unfold prep1
      rw [hT]
      by_cases ht : (withE x e).p.t1 = e + 1
      · rw [if_pos ht]
        split
        · exact rnd1_same_room h hi e g1 g2 c1 ht
        · exact rnd1_same_full h hi e g1 g2 c1 ht
      · rw [if_neg ht]
        split
        · exact rnd1_other_room h hi e g1 g2 c1 ht
        · exact rnd1_other_full h hi e g1 g2 c1 ht
    · rw [if_neg c1]
      have c2 : (e + 1) % 3 = 2 := by omega
      unfold prep2
      rw [hT]
      by_cases ht : (withE x e).p.t2 = e + 1
      · rw [if_pos ht]
        split
        · exact rnd2_same_room h hi e g1 g2 c2 ht
        · exact rnd2_same_full h hi e g1 g2 c2 ht
      · rw [if_neg ht]
        split
        · exact rnd2_other_room h hi e g1 g2 c2 ht
        · exact rnd2_other_full h hi e g1 g2 c2 ht
/-- Three epochs later everything is ripe. -/
theorem ripe_all {n i : Nat} {x : St} {T : List Int} (h : WInv n i x T) : (ripeS x (x.p.ep + 3)).l0 = [] ∧ (ripeS x (x.p.ep + 3)).l1 = [] ∧ (ripeS x (x.p.ep + 3)).l2 = [] ∧ (∀ v, (ripeS x (x.p.ep + 3)).hl.count v = cnt x v) ∧ (ripeS x (x.p.ep + 3)).hl.length ≤ i := by
  have e0 := h.ep0
  have r0 : ripeB x.p.t0 (x.p.ep + 3) = true := by have := h.b0.t1; simp [ripeB]; omega
  have r1 : ripeB x.p.t1 (x.p.ep + 3) = true := by have := h.b1.t1; simp [ripeB]; omega
  have r2 : ripeB x.p.t2 (x.p.ep + 3) = true := by have := h.b2.t1; simp [ripeB]; omega
  have ha := h.all
  unfold ripeS
  rw [r0, r1, r2]
  refine ⟨by simp, by simp, by simp, fun v => ?_, by simp; omega⟩
  simp [cnt, List.count_append]
  omega
/-- The start. -/
theorem winv_start (n : Nat) : WInv n 0 xE0 (List.replicate n 0) := by
  have hg : ∀ k, (List.replicate n (0 : Int)).getD k 0 = 0 := fun k => by
    rw [List.getD_eq_getElem?_getD, List.getElem?_replicate]
    split <;> rfl
  refine ⟨by decide, by decide, by simp, rfl, rfl, by decide, Bkt.nil (by decide) (by decide), Bkt.nil (by decide) (by decide), Bkt.nil (by decide) (by decide), fun v => ?_, fun k => by rw [hg]; decide, fun k => by rw [hg]; decide⟩
  rw [hg]
  simp [cnt, xE0]
/-- Element k of a list in which it occurs once does not stand ahead of it. -/
theorem not_ahead {l : List Int} {k : Nat} (hk : k < l.length) (h : l.count l[k] ≤ 1) : l[k] ∉ l.take k := by
  intro hm
  have h1 := count_pos_of_mem hm
  have h2 : ∀ v, l.count v = (l.take k).count v + (l.drop k).count v := fun v => by
    rw [← List.count_append, List.take_append_drop]
  have h2 := h2 l[k]
  have h3 : 0 < (l.drop k).count l[k] := count_pos_of_mem (by rw [List.drop_eq_getElem_cons hk]; exact List.mem_cons_self ..)
  omega
end Go.Proofs.Ytblkfbbdeodpjaa.Wo

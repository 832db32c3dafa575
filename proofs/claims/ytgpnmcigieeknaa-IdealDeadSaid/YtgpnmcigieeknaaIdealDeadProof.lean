/- The law IdealDead holds for every input: it returns true and leaves its arguments as they were. No conditions. The walk lies in IdealDeadWalk. -/
import Derived.Test.YtgpnmcigieeknaaRows
import Derived.Test.YtgpnmcigieeknaaIdealDeadWalk
import Derived.Test.YtgpnmcigieeknaaLaw
import Derived.Deep.Slices
import Derived.ChangeArms
namespace Go.Proofs.Ytgpnmcigieeknaa.idealDead
open Go Go.ChangeShapes Go.WideShapes Go.ChangeAt Go.RowKit Go.Proofs.Ytgpnmcigieeknaa.Idl
set_option linter.unusedVariables false

theorem own : ownKnob Try.prog.godebug = none := by kernel_rfl
theorem cells51 : Try.prog.cellsOf 51 = 10 := by kernel_rfl
theorem cells47 : Try.prog.cellsOf 47 = 7 := by kernel_rfl
theorem cells3 : Try.prog.cellsOf 3 = 1 := by kernel_rfl
theorem cells4 : Try.prog.cellsOf 4 = 1 := by kernel_rfl
theorem cells22 : Try.prog.cellsOf 22 = 1 := by kernel_rfl
theorem cells48 : Try.prog.cellsOf 48 = 1 := by kernel_rfl
theorem cells49 : Try.prog.cellsOf 49 = 1 := by kernel_rfl

section
variable {H : Type} {enc : TypeId × Value → H} {W : World}
theorem add_of_cell {a : Addr} {v : Value} (h : W.cell? (a.add 0) = some v) : a = ⟨a.block, a.off, none⟩ := by
  obtain ⟨b, o, sp⟩ := a
  cases sp with
  | none => rfl
  | some s => simp [World.cell?, Addr.add] at h; split at h <;> cases h
theorem add_none (b o i : Nat) : (⟨b, o, none⟩ : Addr).add i = ⟨b, o + i, none⟩ := by
  unfold Addr.add
  by_cases h : i = 0
  · subst h; rfl
  · rw [if_neg h]
theorem getD_take {l : List Int} {n i : Nat} (h : i < n) : (l.take n).getD i 0 = l.getD i 0 := by
  simp [List.getD_eq_getElem?_getD, h]
theorem open_words {fuel : Nat} {cs : List Value} {x : DataW H × List MemPlace} (h : DataW.trod enc Try.prog W 0 (fun _ => true) true fuel 49 cs = some x) : ∃ v xs, cs = [v] ∧ SlI W v xs := by
  rcases open_ints Try.underlying49 Try.underlying22 cells22 h with ⟨rfl, _⟩ | ⟨a, len, cap, zs, rfl, _, hl, _, hz, _, hc, _⟩
  · exact ⟨_, [], rfl, .inl ⟨⟨none, 0, rfl⟩, rfl⟩⟩
  · simp only [if_true] at hz
    by_cases h0 : len = 0
    · subst h0
      exact ⟨_, [], rfl, .inl ⟨⟨_, _, rfl⟩, rfl⟩⟩
    · have ha := add_of_cell (hc 0 (by omega))
      refine ⟨_, zs.take len, rfl, .inr ⟨a.block, a.off, cap, ?_, fun i hi => ?_⟩⟩
      · rw [List.length_take, Nat.min_eq_left (by omega), ← ha]
      · have hi' : i < len := by rw [List.length_take] at hi; omega
        have := hc i (by omega)
        rw [ha, add_none] at this
        rw [getD_take hi']
        exact this
theorem some_of {α : Type} {l : List α} {i n : Nat} (h : l.length = n) (hi : i < n) : ∃ y, l[i]? = some y := ⟨_, List.getElem?_eq_getElem (by omega)⟩
theorem one_int {k : IntKind} {t : TypeId} (ht : Try.prog.underlying t = some (.int k)) {fuel : Nat} {c : Value} {y : Option (DataW H × List MemPlace)} (h : DataW.trod enc Try.prog W 0 (fun _ => true) true fuel t [c] = y) (hy : ∃ z, y = some z) : ∃ n, c = .int k n := by
  obtain ⟨z, rfl⟩ := hy
  obtain ⟨n, e, _⟩ := DataW.trod_int ht h
  exact ⟨n, by injection e⟩
theorem one_bool {t : TypeId} (ht : Try.prog.underlying t = some .bool) {fuel : Nat} {c : Value} {y : Option (DataW H × List MemPlace)} (h : DataW.trod enc Try.prog W 0 (fun _ => true) true fuel t [c] = y) (hy : ∃ z, y = some z) : ∃ n, c = .bool n := by
  obtain ⟨z, rfl⟩ := hy
  obtain ⟨n, e, _⟩ := DataW.trod_bool ht h
  exact ⟨n, by injection e⟩
theorem open_ans {fuel : Nat} {cs : List Value} {x : DataW H × List MemPlace} (h : DataW.trod enc Try.prog W 0 (fun _ => true) true fuel 51 cs = some x) :
    ∃ (a : Ans) (xs : List Int), cs = [.int .i64 a.kind, .int .u64 a.ot, .int .u64 a.x, .int .i64 a.slab, .bool a.use, .int .i64 a.by_, .int .i64 a.nth, .int .u64 a.t, .int .i64 a.ret, a.read] ∧ SlI W a.read xs := by
  obtain ⟨ys, n, _, _, hlen, hys, hf⟩ := DataW.trod_struct Try.underlying51 h
  rw [cells51] at hlen
  match cs, hlen with
  | [c0, c1, c2, c3, c4, c5, c6, c7, c8, c9], _ =>
    have f0 := hf 0 _ rfl
    change DataW.trod enc Try.prog W 0 (fun _ => true) true n 47 (List.take (Try.prog.cellsOf 47) _) = _ at f0
    have f1 := hf 1 _ rfl
    change DataW.trod enc Try.prog W 0 (fun _ => true) true n 22 (List.take (Try.prog.cellsOf 22) _) = _ at f1
    have f2 := hf 2 _ rfl
    change DataW.trod enc Try.prog W 0 (fun _ => true) true n 48 (List.take (Try.prog.cellsOf 48) _) = _ at f2
    have f3 := hf 3 _ rfl
    change DataW.trod enc Try.prog W 0 (fun _ => true) true n 49 (List.take (Try.prog.cellsOf 49) _) = _ at f3
    obtain ⟨y0, e0⟩ := some_of (i := 0) hys (by decide)
    rw [e0] at f0
    rw [cells47] at f0
    rw [cells22] at f1
    rw [cells48] at f2
    rw [cells49] at f3
    obtain ⟨zs, m, _, _, _, hzs, hg⟩ := DataW.trod_struct Try.underlying47 f0
    have g0 := hg 0 _ rfl
    change DataW.trod enc Try.prog W 0 (fun _ => true) true m 3 (List.take (Try.prog.cellsOf 3) _) = _ at g0
    have g1 := hg 1 _ rfl
    change DataW.trod enc Try.prog W 0 (fun _ => true) true m 22 (List.take (Try.prog.cellsOf 22) _) = _ at g1
    have g2 := hg 2 _ rfl
    change DataW.trod enc Try.prog W 0 (fun _ => true) true m 22 (List.take (Try.prog.cellsOf 22) _) = _ at g2
    have g3 := hg 3 _ rfl
    change DataW.trod enc Try.prog W 0 (fun _ => true) true m 3 (List.take (Try.prog.cellsOf 3) _) = _ at g3
    have g4 := hg 4 _ rfl
    change DataW.trod enc Try.prog W 0 (fun _ => true) true m 4 (List.take (Try.prog.cellsOf 4) _) = _ at g4
    have g5 := hg 5 _ rfl
    change DataW.trod enc Try.prog W 0 (fun _ => true) true m 3 (List.take (Try.prog.cellsOf 3) _) = _ at g5
    have g6 := hg 6 _ rfl
    change DataW.trod enc Try.prog W 0 (fun _ => true) true m 3 (List.take (Try.prog.cellsOf 3) _) = _ at g6
    rw [cells3] at g0 g3 g5 g6
    rw [cells22] at g1 g2
    rw [cells4] at g4
    obtain ⟨k, rfl⟩ := one_int Try.underlying3 g0 (some_of hzs (by decide))
    obtain ⟨ot, rfl⟩ := one_int Try.underlying22 g1 (some_of hzs (by decide))
    obtain ⟨xx, rfl⟩ := one_int Try.underlying22 g2 (some_of hzs (by decide))
    obtain ⟨sl, rfl⟩ := one_int Try.underlying3 g3 (some_of hzs (by decide))
    obtain ⟨us, rfl⟩ := one_bool Try.underlying4 g4 (some_of hzs (by decide))
    obtain ⟨by_, rfl⟩ := one_int Try.underlying3 g5 (some_of hzs (by decide))
    obtain ⟨nt, rfl⟩ := one_int Try.underlying3 g6 (some_of hzs (by decide))
    obtain ⟨t, rfl⟩ := one_int Try.underlying22 f1 (some_of hys (by decide))
    obtain ⟨r, rfl⟩ := one_int Try.underlying48 f2 (some_of hys (by decide))
    obtain ⟨y3, e3⟩ := some_of (i := 3) hys (by decide)
    rw [e3] at f3
    obtain ⟨v, xs, e, hv⟩ := open_words f3
    have e9 : c9 = v := by injection e
    subst e9
    exact ⟨⟨k, ot, xx, sl, by_, nt, t, r, us, c9⟩, xs, rfl, hv⟩
/-- The slice of answers: empty, or cells that are known. -/
theorem open_answers {v : Value} {d : DataW H} {p : List MemPlace} (hv : ∃ ad n c, v = .slice ad n c) (h : DataW.Trod enc Try.prog W 0 (fun _ => true) true 41 v d p) :
    (∃ ad cap, v = .slice ad 0 cap) ∨ ∃ (b off n cap : Nat) (A : Nat → Ans × List Int), v = .slice (some ⟨b, off, none⟩) n cap ∧ n ≤ maxLen ∧ b < W.heap.size ∧ ∀ i, i < n → AnsAt W b (off + i * 10) (A i).1 (A i).2 := by
  obtain ⟨fuel, hf⟩ := h
  obtain ⟨ad, n0, c0, rfl⟩ := hv
  rcases Deep.open_slice Try.underlying41 hf with ⟨e, _⟩ | ⟨a, len, cap, m, n, D, Pl, e, _, hl, hcm, hm, _, hel⟩
  · have : Value.slice ad n0 c0 = .slice none 0 0 := by simpa [Value.cells] using e
    injection this with h1 h2 h3
    subst h2
    exact .inl ⟨_, _, rfl⟩
  · have : Value.slice ad n0 c0 = .slice (some a) len cap := by simpa [Value.cells] using e
    injection this with h1 h2 h3
    subst h1 h2 h3
    simp only [if_true] at hm
    rw [cells51] at hel
    by_cases h0 : n0 = 0
    · subst h0; exact .inl ⟨_, _, rfl⟩
    · have hall : ∀ i, ∃ q : Ans × List Int, i < n0 → AnsAt W a.block (a.off + i * 10) q.1 q.2 := fun i => by
        by_cases hi : i < n0
        · obtain ⟨cs', hc, ht⟩ := hel i (by omega)
          obtain ⟨an, xs, rfl, hs⟩ := open_ans ht
          obtain ⟨_, _, hat⟩ := World.cells?_some hc
          have ha : a = ⟨a.block, a.off, none⟩ := by
            obtain ⟨cs0, hc0, ht0⟩ := hel 0 (by omega)
            obtain ⟨an0, xs0, rfl, _⟩ := open_ans ht0
            obtain ⟨_, _, hat0⟩ := World.cells?_some hc0
            have := hat0 0 (by omega)
            exact add_of_cell (W := W) (v := .int .i64 an0.kind) (by simpa [Addr.add] using this)
          rw [ha, add_none] at hat
          refine ⟨(an, xs), fun _ => ⟨?_, ?_, ?_, ?_, ?_, ?_, ?_, ?_, ?_, ?_, hs⟩⟩
          · have := hat 0 (by omega); rw [add_none] at this; exact this
          · have := hat 1 (by omega); rw [add_none] at this; exact this
          · have := hat 2 (by omega); rw [add_none] at this; exact this
          · have := hat 3 (by omega); rw [add_none] at this; exact this
          · have := hat 4 (by omega); rw [add_none] at this; exact this
          · have := hat 5 (by omega); rw [add_none] at this; exact this
          · have := hat 6 (by omega); rw [add_none] at this; exact this
          · have := hat 7 (by omega); rw [add_none] at this; exact this
          · have := hat 8 (by omega); rw [add_none] at this; exact this
          · have := hat 9 (by omega); rw [add_none] at this; exact this
        · exact ⟨(⟨0, 0, 0, 0, 0, 0, 0, 0, false, undef⟩, []), fun h => absurd h hi⟩
      have hA := fun i => Classical.choose_spec (hall i)
      have ha : a = ⟨a.block, a.off, none⟩ := by
        obtain ⟨cs0, hc0, ht0⟩ := hel 0 (by omega)
        obtain ⟨an0, xs0, rfl, _⟩ := open_ans ht0
        obtain ⟨_, _, hat0⟩ := World.cells?_some hc0
        have := hat0 0 (by omega)
        exact add_of_cell (W := W) (v := .int .i64 an0.kind) (by simpa [Addr.add] using this)
      refine .inr ⟨a.block, a.off, n0, c0, fun i => Classical.choose (hall i), by rw [← ha], by omega, cell_lt (hA 0 (by omega)).c0, fun i hi => hA i hi⟩
end

set_option maxRecDepth 100000 in
theorem lifted (os : Os) (started : os.Started) (H : Type) (enc : TypeId × Value → H) :
    ReturnsInHanded {} Try.checked os 6 .any (Rows.idealDeadSpec.pre6 enc Try.prog Try.f6 Rows.idealDeadRow.domain false) (Rows.idealDeadSpec.post enc Try.prog Try.f6 false true false false) := by
  refine returnsInHanded_of_change (C := Try.checked) own started (by kernel_rfl) Try.func6
    (ChangeSpec.witness6 (enc := enc) (C := Try.checked) false ⟨#[], #[.int .i64 0, .slice none 0 0], []⟩ 8 (by kernel_rfl) (by kernel_rfl) (by kernel_rfl) (by kernel_rfl)) ?_
  intro W base args ds gs before hval0 hW hcnd _
  have hval : ∀ (j : Nat) t v, Try.f6.params[j]? = some t → args[j]? = some v → Value.okWide Try.prog W .any base t v := hval0
  have hW' := hW
  obtain ⟨p, q, hA0, hV, rfl, hfz, hnd⟩ := hW
  have hA : DataW.TrodAll enc Try.prog W 0 (fun _ => true) true Try.f6.params.toList args.toList ds p := hA0
  rw [Try.params6] at hA hval
  obtain ⟨v0, vs0, d0, ds0, p0, q0, hargs, rfl, rfl, h0, r0⟩ := trodAll_cons hA
  obtain ⟨v1, vs1, d1, ds1, p1, q1, rfl, rfl, rfl, h1, r1⟩ := trodAll_cons r0
  obtain ⟨rfl, rfl, rfl⟩ := trodAll_nil r1
  obtain rfl : args = #[v0, v1] := by cases args; simp_all
  obtain ⟨rfl, rfl⟩ := trodVars_none hV
  obtain ⟨a0, rfl, rfl, rfl, w0⟩ := open_int Try.underlying3 (hval 0 3 v0 rfl rfl) h0
  have hsl : ∃ ad n c, v1 = .slice ad n c := okWide_slice Try.underlying41 (hval 1 41 v1 rfl rfl)
  have key : Calls Try.prog 6 #[.int .i64 a0, v1] W fun e w' => e = .returned (.bool true) ∧ Below W.heap.size W w' := by
    rcases open_answers hsl h1 with ⟨ad, cap, rfl⟩ | ⟨b, off, n, cap, A, rfl, hn, hb, hat⟩
    · exact dead_nil a0 ad cap W
    · exact dead_some a0 b off n cap A W hn hb hat
  refine key.mono fun e W' ⟨he, hb⟩ => ?_
  subst he
  exact ⟨_, rfl, Law.law_post (tb := 4) (by kernel_rfl) rfl Try.underlying4 rfl ⟨rfl, rfl, rfl⟩ hW' hb⟩

theorem over : Rows.idealDeadRow.holds Try.pinned (OpenSpec.ofChange Rows.idealDeadSpec) :=
  OpenClaim.holds_of_wide 6 Try.f6 rfl rfl rfl rfl rfl rfl rfl ⟨rfl, rfl, rfl, rfl, rfl⟩ rfl rfl rfl rfl rfl (by kernel_rfl) Try.func6 (by kernel_rfl)
    (of_decide_eq_true (by kernel_rfl)) (by unfold Func.isWrapper; first | (rw [if_pos (by decide +kernel)]; kernel_rfl) | (rw [if_neg (by decide +kernel)]; exact ⟨rfl, rfl⟩))
    (fun os started H enc _ => lifted os started H enc)

theorem proved : Rows.IdealDeadSaid := over
#print axioms proved
end Go.Proofs.Ytgpnmcigieeknaa.idealDead

/- Line 2 of layer 7. -/
import Derived.Test.YticgpikpefgldaaEpochLine
namespace Go.Proofs.Yticgpikpefgldaa.Me
open Go Go.RowKit Go.Proofs.Yticgpikpefgldaa.Gro Go.Proofs.Yticgpikpefgldaa.Own Go.Proofs.Yticgpikpefgldaa.Wd Go.Proofs.Yticgpikpefgldaa.Ap Go.Proofs.Yticgpikpefgldaa.Pl Go.Proofs.Yticgpikpefgldaa.Wo
set_option linter.unusedVariables false
set_option linter.unusedSimpArgs false
set_option maxRecDepth 10000 in
set_option maxHeartbeats 4000000 in
theorem epochLine2 {B : Nat} {w0 w : World} {g gl cap gx : Nat} {c : Cfg} {a : Acc} {L : List Int} {s : Wk} (h : MX B w0 g gl cap gx c a L s w) (hf : c.Wf) (hl : s.p.ln = 2) (hm : L.length ≤ 1000) (wk : Int) (i : Nat) (ha : aAnn c wk = (i : Int)) (hi : i < L.length) :
    Calls Try.prog 72 #[.pointer (some ⟨g, 0, none⟩), .int .i64 wk, .pointer (some ⟨gx, 0, none⟩)] w (LPost B w0 g gl cap gx c (L.set i (Pk.an s.p.ep true)) { s with p := { s.p with ln := 3 } } 0 true) := by
  have f0 : ∀ s : Wk, (wc s)[0]? = some (.int .i64 s.p.ln) := fun _ => rfl
  have f9 : ∀ s : Wk, (wc s)[9]? = some (.int .u64 s.p.ep) := fun _ => rfl
  have t1 : (s.p.ln == 1) = false := by simp [hl]
  have t2 : (s.p.ln == 2) = true := by simp [hl]
  have x0 := h.X.cells
  have m0 := h.M.B.cells
  have lx := h.lt
  have lg := h.M.lt.1
  have HAN : RowKit.Hid (∀ w, Calls Try.prog 115 #[cv c, .int .i64 wk] w fun e w' => e = .returned (.int .i64 (i : Int)) ∧ Below w.heap.size w w') := Lib.hid (fun w => ha ▸ Pl.announce c hf wk w)
  clear hl ha
  go_enter Try.func72, Try.ntmps72
  go_wp2
  refine wp_region_grown_tail 12 (by kernel_rfl) (by kernel_rfl) ?_
  simp only [List.take_succ_cons, List.take_zero, List.drop_succ_cons, List.drop_zero]
  have hg := @gcell
  repeat (go_big_quiet_step (first | exact grown_of (HAN.out _) | exact grown_same (Pk.announce s.p.ep true _)))
  refine wpQuiet_nil ?_
  rintro w1 ⟨⟨_, hb1⟩, rfl⟩
  clear hg
  have H1 := h.keep hb1
  clear x0 m0 lx lg h hb1
  go_wp2_with fail
  refine (store_in H1.M i hi hm (Pk.an s.p.ep true)).mono ?_
  rintro e w2 ⟨rfl, M2, T2⟩
  have H2 := H1.mem M2 T2
  have H3 := H2.set (s' := { s with p := { s.p with ln := 3 } }) 0 (.int .i64 3) rfl
  have x1 := H2.X.cells
  have z1 := H2.X.frozen
  have e0 : (w2.cell? ⟨gx, 0, none⟩).isSome = true := by rw [x1, f0]; rfl
  clear M2 T2 H1
  go_wp2
  go_ret2
  exact ⟨rfl, _, H3⟩
end Go.Proofs.Yticgpikpefgldaa.Me

/- Layer 21: script.numbers. -/
import Derived.Test.YtpmcedfeiconfaaGreatDoorScRead
import Derived.Test.YtpmcedfeiconfaaGreatDoorScSplit
namespace Go.Proofs.YtpmcedfeiconfaaGreatDoor.Scw
open Go Go.RowKit Go.ChangeMaps Go.Proofs.YtpmcedfeiconfaaGreatDoor.Gro Go.Proofs.YtpmcedfeiconfaaGreatDoor.Own Go.Proofs.YtpmcedfeiconfaaGreatDoor.Mr Go.Proofs.YtpmcedfeiconfaaGreatDoor.Opn Go.Proofs.YtpmcedfeiconfaaGreatDoor.Opw Go.Proofs.YtpmcedfeiconfaaGreatDoor.Scr
set_option linter.unusedVariables false
set_option linter.unusedSimpArgs false
theorem elemI : Elem Tryz.prog 26 3 1 8 := ⟨Tryz.underlying26, by
  have h : (Tryz.prog.info? 3).map (fun i => (i.zero, i.size, i.bytes)) = some (some (.int .i64 0), 1, 8) := by kernel_rfl
  obtain ⟨i, h1, h2, h3, h4⟩ := Go.Proofs.YtpmcedfeiconfaaGreatDoor.Opw.parts_info h
  exact ⟨i, _, h1, h2, h3, h4, rfl⟩, by decide, by decide⟩
/-- Integers in memory of the call's own. -/
def OwnI (B : Nat) (w : World) (v : Value) (L : List Int) : Prop := w.ownsRow B 3 1 v L.length (L.map (Value.int .i64))
theorem OwnI.keep {B : Nat} {w w' : World} {v : Value} {L : List Int} (h : OwnI B w v L) (hb : Below w.heap.size w w') : OwnI B w' v L := owns_below h hb (fun g hg => (World.ownsRow.lt h g hg).2)
theorem OwnI.nil {B : Nat} {w : World} : OwnI B w (.slice none 0 0) [] := World.ownsRow_nil _ _ _ _
theorem new_int (w : World) (v : Value) (t : TypeId) : ∀ j, j < [v].length → (w.alloc (.cells #[v] t)).cell? ⟨w.heap.size, j, none⟩ = [v][j]? := fun j hj => by
  rw [(Bk.new w #[v] t).cells j]
  match j with
  | 0 => rfl
  | j + 1 => simp at hj
def NumsPost (n : Nat) (l : List UInt8) (w : World) (e : Ending) (w' : World) : Prop :=
  ∃ v, e = .returned (.tuple #[v, .bool (rdNums n l).isSome]) ∧ Below w.heap.size w w' ∧ (∀ ks, rdNums n l = some ks → OwnI w.heap.size w' v ks) ∧ (rdNums n l = none → v = .slice none 0 0)
theorem cellsK_at (L : List (List UInt8)) (N i : Nat) (h : i < L.length) : (Lib.cellsOf (L.map fun x => (⟨x.toArray⟩ : ByteArray)) N)[i]? = some (strV L[i]) := by
  unfold Lib.cellsOf
  rw [List.getElem?_toArray, List.getElem?_append_left (by simpa using h)]
  simp [h]
theorem rdAll_len : ∀ (W : List (List UInt8)) (ks : List Int), rdAll W = some ks → ks.length = W.length
  | [], ks, h => by
    simp only [rdAll, Option.some.injEq] at h
    subst h
    rfl
  | x :: W, ks, h => by
    rw [rdAll] at h
    cases hx : rdW x with
    | none => rw [hx] at h; cases h
    | some v =>
      rw [hx] at h
      simp only [Option.map_eq_some_iff] at h
      obtain ⟨k2, h1, rfl⟩ := h
      simp [rdAll_len W k2 h1]
theorem rdAll_next {W : List (List UInt8)} {k u : Nat} {ks : List Int} (h : k < W.length) (h1 : rdAll (W.take k) = some ks) (h2 : rdW W[k] = some u) : rdAll (W.take (k + 1)) = some (ks ++ [(u : Int)]) := by
  rw [List.take_succ_eq_append_getElem h, rdAll_app, h1]
  simp [rdAll, h2]
theorem OwnI.low {B B' : Nat} {w : World} {v : Value} {L : List Int} (h : OwnI B w v L) (hB : B' ≤ B) : OwnI B' w v L :=
  ⟨h.1, h.2.imp id fun ⟨g, cap, cur, e, hge, r⟩ => ⟨g, cap, cur, e, Nat.le_trans hB hge, r⟩⟩
set_option maxRecDepth 100000 in
set_option maxHeartbeats 8000000 in
theorem fNumbers (n : Nat) (hn : n ≤ 1000) (l : List UInt8) (hl : l.length ≤ 1000000) (w : World) (L : Lb w) :
    Calls Tryz.prog 65 #[strV l, .int .i64 n] w (NumsPost n l w) := by
  obtain ⟨m, hm⟩ := L.mx
  have HSP := Lib.hid (Tryz.strings_SplitN ⟨l.toArray⟩ ⟨#[32]⟩ (n + 1) m w (show l.length < _ by omega) hm (by decide) (by omega) (by omega))
  rw [splitB_K n l, List.length_map] at HSP
  obtain ⟨W, hW⟩ : ∃ W, W = wordsK n l := ⟨_, rfl⟩
  have HR := Lib.hid (rdNums_K n l)
  have HWL := Lib.hid (words_le n l)
  rw [← hW] at HSP HR HWL
  have hsz : (⟨l.toArray⟩ : ByteArray).size = l.length := rfl
  rw [hsz] at HSP
  clear hW hm hsz
  obtain ⟨N, hN⟩ : ∃ N, N = min (n + 1) (l.length + 1) := ⟨_, rfl⟩
  rw [← hN] at HSP
  obtain ⟨w1, hw1⟩ : ∃ q, q = w.alloc (.cells (Lib.cellsOf (W.map fun x => (⟨x.toArray⟩ : ByteArray)) N) 9) := ⟨_, rfl⟩
  have b1 : Below w.heap.size w w1 := by rw [hw1]; exact (Below.refl _ _).alloc (Nat.le_refl _) _
  have HCE : RowKit.Hid (∀ i (h : i < W.length), w1.cell? ⟨w.heap.size, i, none⟩ = some (strV W[i])) := Lib.hid (fun i h => by rw [hw1, (Bk.new w _ _).cells i]; exact cellsK_at W N i h)
  have hlt1 : w.heap.size < w1.heap.size := by rw [hw1]; simp
  rw [← hw1] at HSP
  have HB := Lib.hid b1
  have HL1 := Lib.hid (L.keep b1)
  clear b1 hw1 hN L
  have hcast : ((n + 1 : Nat) : Int) = (n : Int) + 1 := by omega
  rw [hcast] at HSP
  clear hcast
  go_enter Tryz.func65, Tryz.ntmps65
  go_wp2_with fail
  refine HSP.out.mono ?_
  rintro e z ⟨rfl, hz⟩
  obtain rfl : z = w1 := hz
  by_cases hWn : (n : Int) < (W.length : Int)
  · have HE : RowKit.Hid (rdNums n l = none) := Lib.hid (by rw [HR.out, if_neg (by omega)])
    go_wp2_with fail
    go_ret2
    exact ⟨.slice none 0 0, by rw [HE.out]; rfl, HB.out, fun ks h => (by rw [HE.out] at h; cases h), fun _ => rfl⟩
  · have HE : RowKit.Hid (rdNums n l = rdAll W) := Lib.hid (by rw [HR.out, if_pos (by omega)])
    have hW1 : W.length ≤ 1000 := by omega
    have hWd : decide (n < W.length) = false := by simp; omega
    go_wp2_with fail
    go_loopw [7, 22] (fun v7 i wr => ∃ k : Nat, k ≤ W.length ∧ i = .int .i64 k ∧ RowKit.Hid (Below z.heap.size z wr) ∧ ∃ ks, RowKit.Hid (rdAll (W.take k) = some ks) ∧ OwnI z.heap.size wr v7 ks) (fun _ i _ => W.length - (intOf i).toNat)
    case atStart => exact ⟨0, Nat.zero_le _, rfl, Lib.hid (Below.refl _ _), [], Lib.hid rfl, OwnI.nil⟩
    case round =>
      obtain ⟨k, hk, rfl, HW, ks, HK, O⟩ := hrel
      by_cases hlt : k < W.length
      · have q1 : wr.cell? ⟨w.heap.size, k, none⟩ = some (strV W[k]) := (HW.out.cell (p := ⟨w.heap.size, k, none⟩) hlt1).trans (HCE.out k hlt)
        have HN := Lib.hid (fNumber W[k] (by have := HWL.out W[k] (List.getElem_mem hlt); omega) wr (HL1.out.keep HW.out))
        go_wp2_with fail
        refine HN.out.mono ?_
        rintro e w2 ⟨v, h0, h1, rfl, hb2, hv⟩
        have HW2 := Lib.hid (HW.out.trans (hb2.mono HW.out.size))
        have O2 := O.keep hb2
        have hkl : ks.length ≤ 1000 := by
          have := rdAll_len _ _ HK.out
          rw [List.length_take] at this
          omega
        clear hb2 q1 HN O
        cases hd : rdW W[k] with
        | none =>
          have HX : RowKit.Hid (rdNums n l = none) := Lib.hid (by rw [HE.out]; exact rdAll_bad (List.getElem_mem hlt) hd)
          have HB2 := Lib.hid (HB.out.trans (HW2.out.mono HB.out.size))
          clear hd hv O2
          simp only [Option.isSome_none]
          go_wp2_with fail
          go_ret2
          exact ⟨.slice none 0 0, by rw [HX.out]; rfl, HB2.out, fun ks h => (by rw [HX.out] at h; cases h), fun _ => rfl⟩
        | some u =>
          have hvu := hv u hd
          subst hvu
          have HD := Lib.hid (rdAll_next hlt HK.out hd)
          have OA := O2.keep ((Below.refl w2.heap.size w2).alloc (Nat.le_refl _) (.cells #[.int .i64 (u : Int)] 3))
          have BA : Below z.heap.size z (w2.alloc (.cells #[.int .i64 (u : Int)] 3)) := HW2.out.alloc HW2.out.size _
          have bsz := HW2.out.size
          clear hd hv O2 HK
          simp only [Option.isSome_some]
          go_wp2_with (at_builtin; refine append_row elemI rfl _ _ rfl z.heap.size _ ks.length (ks.map (Value.int .i64)) rfl OA w2.heap.size 1 1 [.int .i64 (u : Int)] rfl rfl (new_int _ _ _) (fun u hu => by obtain rfl := List.mem_singleton.1 hu; rfl) (by decide) (by omega) (by simp; omega) ?_; intro vv w3 ON hbn; have BZ := Lib.hid (BA.trans hbn); clear OA BA hbn bsz)
          have O3 : OwnI z.heap.size w3 vv (ks ++ [(u : Int)]) := owns_len ON (by simp) (by simp)
          clear ON
          go_roundw
          case rel =>
            exact ⟨k + 1, by omega, by go_num, BZ, ks ++ [(u : Int)], HD, O3⟩
          case measure => simp [intOf]; omega
      · obtain rfl : k = W.length := by omega
        have HX : RowKit.Hid (rdNums n l = some ks) := Lib.hid (by
          have := HK.out
          rw [List.take_length] at this
          rw [HE.out, this])
        have HB2 := Lib.hid (HB.out.trans (HW.out.mono HB.out.size))
        have HO := Lib.hid (O.low HB.out.size)
        clear O
        go_wp2_with fail
        go_ret2
        exact ⟨_, by rw [HX.out]; rfl, HB2.out, fun ks' h => (by rw [HX.out] at h; cases h; exact HO.out), fun h => by rw [HX.out] at h; cases h⟩
end Go.Proofs.YtpmcedfeiconfaaGreatDoor.Scw

/- guard.Seen (made by genguard.py). -/
import Derived.Test.YtgjkjobemnhbmaaGuardSort
import Derived.Test.YtgjkjobemnhbmaaRackAwake
import Derived.IntWalk
namespace Go.Proofs.Ytgjkjobemnhbmaa.Wo
open Go Go.RowKit Go.Proofs.Ytgjkjobemnhbmaa.Gro Go.Proofs.Ytgjkjobemnhbmaa.Own Go.Proofs.Ytgjkjobemnhbmaa.Wd Go.Proofs.Ytgjkjobemnhbmaa.Ap Go.Proofs.Ytgjkjobemnhbmaa.Pl
set_option linter.unusedVariables false
set_option linter.unusedSimpArgs false
def SeenPost (L : List Int) (w : World) (e : Ending) (w' : World) : Prop := ∃ z : Sl, e = .returned z.v ∧ Reads w' .i64 z.v (sortL L) ∧ Below w.heap.size w w'
theorem seen_zero (ad : Option Addr) (cap : Nat) (w : World) : Calls Try.prog 59 #[.slice ad 0 cap] w (SeenPost [] w) := by
  go_enter Try.func59, Try.ntmps59
  go_wp2
  refine wp_loop_rounds 1 ?_
  rw [rounds_succ]
  go_wp2_with fail
  refine (sortC (y := nilS) (L := []) (.inl ⟨rfl, rfl, Nat.zero_le _⟩) (Nat.le_refl _) (by simp)).mono ?_
  rintro e w1 ⟨rfl, h1, hb1⟩
  go_wp2_with fail
  refine (compactC h1 hb1.size (by simp)).mono ?_
  rintro e w2 ⟨z, rfl, h2, hb2⟩
  go_wp2
  go_ret
  exact ⟨z, rfl, h2, hb1.trans hb2⟩
theorem new_cell1 (w : World) (v : Value) (t : TypeId) : (w.alloc (.cells #[v] t)).cell? ⟨w.heap.size, 0, none⟩ = some v := by
  rw [cell_of_row _ _ _ #[v] t (0, 0) (heap_alloc_new w _)]; rfl
theorem own_step {B n : Nat} {w : World} {t : TypeId} {y : Sl} {L : List Int} {b : Int} (h : w.ownsRow B t 1 y.v (n + 1) ((L ++ [b]).map (.int .i64))) : Owned B w .i64 t y (L ++ [b]) := by
  have e : n + 1 = (L ++ [b]).length := by have := h.1; simpa using this.symm
  unfold Owned
  rw [← e]
  exact h
set_option maxRecDepth 10000 in
set_option maxHeartbeats 8000000 in
theorem seen_pos (b off cap : Nat) (xs : List Wk) (w : World) (hn : xs.length ≤ 400) (hb : b < w.heap.size) (hr : ∀ i (h : i < xs.length), w.rangeAt b (off + i * 33) (wc xs[i]).toList) (hv : ∀ s ∈ xs, s.p.c ≤ 60 ∧ s.p.br ≤ 60) :
    Calls Try.prog 59 #[.slice (some ⟨b, off, none⟩) xs.length cap] w (SeenPost (sawL xs) w) := by
  have HR := Lib.hid hr
  have HV := Lib.hid hv
  have HBL := Lib.hid hb
  clear hr hv hb
  have f0 : ∀ s : Wk, (wc s)[0]? = some (.int .i64 s.p.ln) := fun _ => rfl
  have f8 : ∀ s : Wk, (wc s)[8]? = some (.bool s.p.pn) := fun _ => rfl
  have f21 : ∀ s : Wk, (wc s)[21]? = some (.int .i64 s.p.c) := fun _ => rfl
  have f22 : ∀ s : Wk, (wc s)[22]? = some (.int .i64 s.p.br) := fun _ => rfl
  go_enter Try.func59, Try.ntmps59
  go_wp2
  go_loopw [3, 8] (fun bl i wr => ∃ (k : Nat) (y : Sl), k ≤ xs.length ∧ i = .int .i64 k ∧ bl = .slice y.ad y.len y.cap ∧ Owned w.heap.size wr .i64 3 y (sawL (xs.take k)) ∧ Below w.heap.size w wr) (fun _ i _ => xs.length - (intOf i).toNat)
  case atStart => exact ⟨0, nilS, Nat.zero_le _, rfl, rfl, Owned.nil, Below.refl _ _⟩
  case round =>
    obtain ⟨k, y, hk, rfl, rfl, OW, hbw⟩ := hrel
    by_cases hlt : k < xs.length
    · have hr' : wr.rangeAt b (off + k * 33) (wc xs[k]).toList := fun j v hv => (hbw.cell (p := ⟨b, _, none⟩) HBL.out).trans (HR.out k hlt j v hv)
      have hvk := HV.out _ (List.getElem_mem hlt)
      have hst := sawL_take xs k hlt
      have hln := sawL_len (xs.take k)
      rw [List.length_take] at hln
      obtain ⟨s, hs⟩ : ∃ s, s = xs[k] := ⟨_, rfl⟩
      obtain ⟨L, hL⟩ : ∃ L, L = sawL (xs.take k) := ⟨_, rfl⟩
      rw [← hs] at hr' hst hvk
      rw [← hL] at hst OW hln
      have HST := Lib.hid hst
      clear hs hL hst
      have Z := Bk.new wr (wc wz) 63
      have X := boxed_bk wr s
      have hb1 := boxed_below wr s
      have sz := hbw.size
      have O1 := OW.keep hb1
      have hbw1 := hbw.trans (hb1.mono sz)
      have x1 := X.cells
      obtain ⟨w1, hw1⟩ : ∃ u, u = (wr.alloc (.cells (wc wz) 63)).setRow wr.heap.size (wc s) := ⟨_, rfl⟩
      have sz1 := hb1.size
      rw [← hw1] at X O1 hbw1 x1 sz1
      have hsum : IntKind.i64.wrap ((k : Int) + 1) = (k : Int) + 1 := IntWalk.i64_in _ (by omega)
      clear OW hb1 hbw
      by_cases ha : s.p.ln = 61
      · by_cases hc : 0 < s.p.c
        · by_cases hp : s.p.pn = true
          · by_cases hq : 0 < s.p.br
            · have ta : (s.p.ln == 61) = true := by simp [ha]
              have tc : decide (0 < s.p.c) = true := by simp; omega
              have wcc : IntKind.i64.wrap (s.p.c - 1) = s.p.c - 1 := IntWalk.i64_in _ (by omega)
              have tb : s.p.pn = true := hp
              have td : decide (0 < s.p.br) = true := by simp; omega
              have wbb : IntKind.i64.wrap (s.p.br - 1) = s.p.br - 1 := IntWalk.i64_in _ (by omega)
              have hsaw : sawOf s.p = ([s.p.c - 1]) ++ ([s.p.br - 1]) := by
                unfold sawOf
                rw [if_pos ⟨ha, hc⟩, if_pos ⟨hp, hq⟩]
              rw [hsaw] at HST
              clear hsaw ha hp hc hq
              go_wp2_with (first | (refine wpList_load_mid rfl 63 _ rfl b (off + k * 33) rfl (wc s).toList _ (by exact hr') Try.underlying63 rfl (by kernel_rfl) ?_) | (refine wpList_alloc_wz rfl rfl ?_) | (refine wpList_store_row rfl 63 _ _ rfl (wr.heap.size) (wc s) rfl rfl _ _ (by exact Z) (by kernel_rfl) (by kernel_rfl) (by kernel_rfl) ?_; rw [← hw1]; clear hw1 Z) | (at_builtin; refine append_one elemI rfl _ _ rfl w.heap.size _ _ _ rfl (O1.keep ((Below.refl _ _).alloc (Nat.le_refl _) _)) _ _ (s.p.c - 1) rfl (new_cell1 _ _ _) (by simp; omega) (by simp; omega) ?_; intro y2 v2 r2 hb2 hk2; have X2 := hk2 _ _ _ (by decide) (X.keep ((Below.refl _ _).alloc (Nat.le_refl _) _)); have x2 := X2.cells; have hw2 := (hbw1.trans (((Below.refl _ _).alloc (Nat.le_refl _) _).mono hbw1.size)).trans hb2; have sv2 := hw2.size; have O2 := own_step r2) | (at_builtin; refine append_one elemI rfl _ _ rfl w.heap.size _ _ _ rfl (O2.keep ((Below.refl _ _).alloc (Nat.le_refl _) _)) _ _ (s.p.br - 1) rfl (new_cell1 _ _ _) (by simp; omega) (by simp; omega) ?_; intro y3 v3 r3 hb3 hk3; have X3 := hk3 _ _ _ (by decide) (X2.keep ((Below.refl _ _).alloc (Nat.le_refl _) _)); have x3 := X3.cells; have hw3 := (hw2.trans (((Below.refl _ _).alloc (Nat.le_refl _) _).mono hw2.size)).trans hb3; have sv3 := hw3.size; have O3 := own_step r3))
              go_roundw
              case rel => exact ⟨k + 1, y3, by omega, by go_num, rfl, by rw [HST.out]; simpa using O3, hw3⟩
              case measure => simp [intOf]; omega
            · have ta : (s.p.ln == 61) = true := by simp [ha]
              have tc : decide (0 < s.p.c) = true := by simp; omega
              have wcc : IntKind.i64.wrap (s.p.c - 1) = s.p.c - 1 := IntWalk.i64_in _ (by omega)
              have tb : s.p.pn = true := hp
              have td : decide (0 < s.p.br) = false := by simp; omega
              have hsaw : sawOf s.p = ([s.p.c - 1]) ++ ([]) := by
                unfold sawOf
                rw [if_pos ⟨ha, hc⟩, if_neg (fun h => hq h.2)]
              rw [hsaw] at HST
              clear hsaw ha hp hc hq
              go_wp2_with (first | (refine wpList_load_mid rfl 63 _ rfl b (off + k * 33) rfl (wc s).toList _ (by exact hr') Try.underlying63 rfl (by kernel_rfl) ?_) | (refine wpList_alloc_wz rfl rfl ?_) | (refine wpList_store_row rfl 63 _ _ rfl (wr.heap.size) (wc s) rfl rfl _ _ (by exact Z) (by kernel_rfl) (by kernel_rfl) (by kernel_rfl) ?_; rw [← hw1]; clear hw1 Z) | (at_builtin; refine append_one elemI rfl _ _ rfl w.heap.size _ _ _ rfl (O1.keep ((Below.refl _ _).alloc (Nat.le_refl _) _)) _ _ (s.p.c - 1) rfl (new_cell1 _ _ _) (by simp; omega) (by simp; omega) ?_; intro y2 v2 r2 hb2 hk2; have X2 := hk2 _ _ _ (by decide) (X.keep ((Below.refl _ _).alloc (Nat.le_refl _) _)); have x2 := X2.cells; have hw2 := (hbw1.trans (((Below.refl _ _).alloc (Nat.le_refl _) _).mono hbw1.size)).trans hb2; have sv2 := hw2.size; have O2 := own_step r2))
              go_roundw
              case rel => exact ⟨k + 1, y2, by omega, by go_num, rfl, by rw [HST.out]; simpa using O2, hw2⟩
              case measure => simp [intOf]; omega
          · have ta : (s.p.ln == 61) = true := by simp [ha]
            have tc : decide (0 < s.p.c) = true := by simp; omega
            have wcc : IntKind.i64.wrap (s.p.c - 1) = s.p.c - 1 := IntWalk.i64_in _ (by omega)
            have tb : s.p.pn = false := by simpa using hp
            have hsaw : sawOf s.p = ([s.p.c - 1]) ++ ([]) := by
              unfold sawOf
              rw [if_pos ⟨ha, hc⟩, if_neg (fun h => hp h.1)]
            rw [hsaw] at HST
            clear hsaw ha hp hc
            go_wp2_with (first | (refine wpList_load_mid rfl 63 _ rfl b (off + k * 33) rfl (wc s).toList _ (by exact hr') Try.underlying63 rfl (by kernel_rfl) ?_) | (refine wpList_alloc_wz rfl rfl ?_) | (refine wpList_store_row rfl 63 _ _ rfl (wr.heap.size) (wc s) rfl rfl _ _ (by exact Z) (by kernel_rfl) (by kernel_rfl) (by kernel_rfl) ?_; rw [← hw1]; clear hw1 Z) | (at_builtin; refine append_one elemI rfl _ _ rfl w.heap.size _ _ _ rfl (O1.keep ((Below.refl _ _).alloc (Nat.le_refl _) _)) _ _ (s.p.c - 1) rfl (new_cell1 _ _ _) (by simp; omega) (by simp; omega) ?_; intro y2 v2 r2 hb2 hk2; have X2 := hk2 _ _ _ (by decide) (X.keep ((Below.refl _ _).alloc (Nat.le_refl _) _)); have x2 := X2.cells; have hw2 := (hbw1.trans (((Below.refl _ _).alloc (Nat.le_refl _) _).mono hbw1.size)).trans hb2; have sv2 := hw2.size; have O2 := own_step r2))
            go_roundw
            case rel => exact ⟨k + 1, y2, by omega, by go_num, rfl, by rw [HST.out]; simpa using O2, hw2⟩
            case measure => simp [intOf]; omega
        · by_cases hp : s.p.pn = true
          · by_cases hq : 0 < s.p.br
            · have ta : (s.p.ln == 61) = true := by simp [ha]
              have tc : decide (0 < s.p.c) = false := by simp; omega
              have tb : s.p.pn = true := hp
              have td : decide (0 < s.p.br) = true := by simp; omega
              have wbb : IntKind.i64.wrap (s.p.br - 1) = s.p.br - 1 := IntWalk.i64_in _ (by omega)
              have hsaw : sawOf s.p = ([]) ++ ([s.p.br - 1]) := by
                unfold sawOf
                rw [if_neg (fun h => hc h.2), if_pos ⟨hp, hq⟩]
              rw [hsaw] at HST
              clear hsaw ha hp hc hq
              go_wp2_with (first | (refine wpList_load_mid rfl 63 _ rfl b (off + k * 33) rfl (wc s).toList _ (by exact hr') Try.underlying63 rfl (by kernel_rfl) ?_) | (refine wpList_alloc_wz rfl rfl ?_) | (refine wpList_store_row rfl 63 _ _ rfl (wr.heap.size) (wc s) rfl rfl _ _ (by exact Z) (by kernel_rfl) (by kernel_rfl) (by kernel_rfl) ?_; rw [← hw1]; clear hw1 Z) | (at_builtin; refine append_one elemI rfl _ _ rfl w.heap.size _ _ _ rfl (O1.keep ((Below.refl _ _).alloc (Nat.le_refl _) _)) _ _ (s.p.br - 1) rfl (new_cell1 _ _ _) (by simp; omega) (by simp; omega) ?_; intro y3 v3 r3 hb3 hk3; have X3 := hk3 _ _ _ (by decide) (X.keep ((Below.refl _ _).alloc (Nat.le_refl _) _)); have x3 := X3.cells; have hw3 := (hbw1.trans (((Below.refl _ _).alloc (Nat.le_refl _) _).mono hbw1.size)).trans hb3; have sv3 := hw3.size; have O3 := own_step r3))
              go_roundw
              case rel => exact ⟨k + 1, y3, by omega, by go_num, rfl, by rw [HST.out]; simpa using O3, hw3⟩
              case measure => simp [intOf]; omega
            · have ta : (s.p.ln == 61) = true := by simp [ha]
              have tc : decide (0 < s.p.c) = false := by simp; omega
              have tb : s.p.pn = true := hp
              have td : decide (0 < s.p.br) = false := by simp; omega
              have hsaw : sawOf s.p = ([]) ++ ([]) := by
                unfold sawOf
                rw [if_neg (fun h => hc h.2), if_neg (fun h => hq h.2)]
              rw [hsaw] at HST
              clear hsaw ha hp hc hq
              go_wp2_with (first | (refine wpList_load_mid rfl 63 _ rfl b (off + k * 33) rfl (wc s).toList _ (by exact hr') Try.underlying63 rfl (by kernel_rfl) ?_) | (refine wpList_alloc_wz rfl rfl ?_) | (refine wpList_store_row rfl 63 _ _ rfl (wr.heap.size) (wc s) rfl rfl _ _ (by exact Z) (by kernel_rfl) (by kernel_rfl) (by kernel_rfl) ?_; rw [← hw1]; clear hw1 Z))
              go_roundw
              case rel => exact ⟨k + 1, y, by omega, by go_num, rfl, by rw [HST.out]; simpa using O1, hbw1⟩
              case measure => simp [intOf]; omega
          · have ta : (s.p.ln == 61) = true := by simp [ha]
            have tc : decide (0 < s.p.c) = false := by simp; omega
            have tb : s.p.pn = false := by simpa using hp
            have hsaw : sawOf s.p = ([]) ++ ([]) := by
              unfold sawOf
              rw [if_neg (fun h => hc h.2), if_neg (fun h => hp h.1)]
            rw [hsaw] at HST
            clear hsaw ha hp hc
            go_wp2_with (first | (refine wpList_load_mid rfl 63 _ rfl b (off + k * 33) rfl (wc s).toList _ (by exact hr') Try.underlying63 rfl (by kernel_rfl) ?_) | (refine wpList_alloc_wz rfl rfl ?_) | (refine wpList_store_row rfl 63 _ _ rfl (wr.heap.size) (wc s) rfl rfl _ _ (by exact Z) (by kernel_rfl) (by kernel_rfl) (by kernel_rfl) ?_; rw [← hw1]; clear hw1 Z))
            go_roundw
            case rel => exact ⟨k + 1, y, by omega, by go_num, rfl, by rw [HST.out]; simpa using O1, hbw1⟩
            case measure => simp [intOf]; omega
      · by_cases hp : s.p.pn = true
        · by_cases hq : 0 < s.p.br
          · have ta : (s.p.ln == 61) = false := by simp [ha]
            have tb : s.p.pn = true := hp
            have td : decide (0 < s.p.br) = true := by simp; omega
            have wbb : IntKind.i64.wrap (s.p.br - 1) = s.p.br - 1 := IntWalk.i64_in _ (by omega)
            have hsaw : sawOf s.p = ([]) ++ ([s.p.br - 1]) := by
              unfold sawOf
              rw [if_neg (fun h => ha h.1), if_pos ⟨hp, hq⟩]
            rw [hsaw] at HST
            clear hsaw ha hp hq
            go_wp2_with (first | (refine wpList_load_mid rfl 63 _ rfl b (off + k * 33) rfl (wc s).toList _ (by exact hr') Try.underlying63 rfl (by kernel_rfl) ?_) | (refine wpList_alloc_wz rfl rfl ?_) | (refine wpList_store_row rfl 63 _ _ rfl (wr.heap.size) (wc s) rfl rfl _ _ (by exact Z) (by kernel_rfl) (by kernel_rfl) (by kernel_rfl) ?_; rw [← hw1]; clear hw1 Z) | (at_builtin; refine append_one elemI rfl _ _ rfl w.heap.size _ _ _ rfl (O1.keep ((Below.refl _ _).alloc (Nat.le_refl _) _)) _ _ (s.p.br - 1) rfl (new_cell1 _ _ _) (by simp; omega) (by simp; omega) ?_; intro y3 v3 r3 hb3 hk3; have X3 := hk3 _ _ _ (by decide) (X.keep ((Below.refl _ _).alloc (Nat.le_refl _) _)); have x3 := X3.cells; have hw3 := (hbw1.trans (((Below.refl _ _).alloc (Nat.le_refl _) _).mono hbw1.size)).trans hb3; have sv3 := hw3.size; have O3 := own_step r3))
            go_roundw
            case rel => exact ⟨k + 1, y3, by omega, by go_num, rfl, by rw [HST.out]; simpa using O3, hw3⟩
            case measure => simp [intOf]; omega
          · have ta : (s.p.ln == 61) = false := by simp [ha]
            have tb : s.p.pn = true := hp
            have td : decide (0 < s.p.br) = false := by simp; omega
            have hsaw : sawOf s.p = ([]) ++ ([]) := by
              unfold sawOf
              rw [if_neg (fun h => ha h.1), if_neg (fun h => hq h.2)]
            rw [hsaw] at HST
            clear hsaw ha hp hq
            go_wp2_with (first | (refine wpList_load_mid rfl 63 _ rfl b (off + k * 33) rfl (wc s).toList _ (by exact hr') Try.underlying63 rfl (by kernel_rfl) ?_) | (refine wpList_alloc_wz rfl rfl ?_) | (refine wpList_store_row rfl 63 _ _ rfl (wr.heap.size) (wc s) rfl rfl _ _ (by exact Z) (by kernel_rfl) (by kernel_rfl) (by kernel_rfl) ?_; rw [← hw1]; clear hw1 Z))
            go_roundw
            case rel => exact ⟨k + 1, y, by omega, by go_num, rfl, by rw [HST.out]; simpa using O1, hbw1⟩
            case measure => simp [intOf]; omega
        · have ta : (s.p.ln == 61) = false := by simp [ha]
          have tb : s.p.pn = false := by simpa using hp
          have hsaw : sawOf s.p = ([]) ++ ([]) := by
            unfold sawOf
            rw [if_neg (fun h => ha h.1), if_neg (fun h => hp h.1)]
          rw [hsaw] at HST
          clear hsaw ha hp
          go_wp2_with (first | (refine wpList_load_mid rfl 63 _ rfl b (off + k * 33) rfl (wc s).toList _ (by exact hr') Try.underlying63 rfl (by kernel_rfl) ?_) | (refine wpList_alloc_wz rfl rfl ?_) | (refine wpList_store_row rfl 63 _ _ rfl (wr.heap.size) (wc s) rfl rfl _ _ (by exact Z) (by kernel_rfl) (by kernel_rfl) (by kernel_rfl) ?_; rw [← hw1]; clear hw1 Z))
          go_roundw
          case rel => exact ⟨k + 1, y, by omega, by go_num, rfl, by rw [HST.out]; simpa using O1, hbw1⟩
          case measure => simp [intOf]; omega
    · obtain rfl : xs.length = k := by omega
      rw [List.take_length] at OW
      have hln := sawL_len xs
      have sz := hbw.size
      go_wp2_with fail
      refine (sortC OW.lays sz (by omega)).mono ?_
      rintro e w1 ⟨rfl, h1, hb1⟩
      go_wp2_with fail
      refine (compactC h1 (Nat.le_trans sz hb1.size) (by simp; omega)).mono ?_
      rintro e w2 ⟨z, rfl, h2, hb2⟩
      go_wp2
      go_ret
      exact ⟨z, rfl, h2, (hbw.trans hb1).trans hb2⟩
theorem seen {w : World} {v : Sl} {xs : List Wk} (h : WReads w v.v xs) (hn : xs.length ≤ 400) (hv : ∀ s ∈ xs, s.p.c ≤ 60 ∧ s.p.br ≤ 60) : Calls Try.prog 59 #[v.v] w (SeenPost (sawL xs) w) := by
  obtain ⟨ad, cap, e, h1, h2, h3⟩ := h
  rw [e]
  rcases h3 with rfl | ⟨b, off, rfl, hb, hc⟩
  · exact seen_zero ad cap w
  · exact seen_pos b off cap xs w hn hb hc hv
end Go.Proofs.Ytgjkjobemnhbmaa.Wo

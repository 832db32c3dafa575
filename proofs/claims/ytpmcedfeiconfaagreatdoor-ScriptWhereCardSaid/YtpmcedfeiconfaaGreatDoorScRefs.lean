/- Layer 21, of no program: the lines of picks, one number after another. -/
import Derived.Test.YtpmcedfeiconfaaGreatDoorScrs
import Derived.Test.YtpmcedfeiconfaaGreatDoorScTexts
import Derived.Test.YtpmcedfeiconfaaGreatDoorScLaws
import Derived.Test.YtpmcedfeiconfaaGreatDoorRows2
import Derived.Test.YtpmcedfeiconfaaGreatDoorOpRefText
namespace Go.Proofs.YtpmcedfeiconfaaGreatDoor.Scr
open Go Go.Lib Go.Proofs.YtpmcedfeiconfaaGreatDoor.Opn Go.Proofs.YtpmcedfeiconfaaGreatDoor.Pl
set_option linter.unusedVariables false
set_option linter.unusedSimpArgs false
/-- The lines of the first i picks. -/
def pk (k : List Int) (i : Nat) : List (List UInt8) := (chunk (k.take i)).map pickL
theorem pk_zero (k : List Int) : pk k 0 = [] := by simp [pk, chunk, chunks]
theorem pk_all (k : List Int) : pk k k.length = (chunk k).map pickL := by simp [pk]
theorem pickL_more (ks : List Int) (x : Int) : pickL (ks ++ [x]) = pickL ks ++ (32 :: dec x) := by simp [pickL, numsT]
theorem pk_new {k : List Int} {i : Nat} (h : i < k.length) (hm : i % 20 = 0) : pk k (i + 1) = pk k i ++ [pickW ++ (32 :: dec k[i])] := by
  unfold pk
  rw [List.take_succ_eq_append_getElem h, chunk_add (k := k.take i) (ks := [k[i]]) (by simp) (by simp) (by rw [List.length_take, Nat.min_eq_left (by omega)]; exact hm)]
  simp [pickL, numsT]
theorem pk_more {k : List Int} {i : Nat} (h : i < k.length) (hm : i % 20 ≠ 0) : ∃ A l, pk k i = A ++ [l] ∧ pk k (i + 1) = A ++ [l ++ (32 :: dec k[i])] := by
  obtain ⟨q, r, hq, hr⟩ : ∃ q r, i = 20 * q + r ∧ i % 20 = r := ⟨i / 20, i % 20, (Nat.div_add_mod i 20).symm, rfl⟩
  have hr20 : r < 20 := by omega
  have hr0 : 0 < r := by omega
  have e1 : k.take i = k.take (20 * q) ++ (k.drop (20 * q)).take r := by rw [hq, List.take_add]
  have hl : (k.take (20 * q)).length % 20 = 0 := by
    rw [List.length_take, Nat.min_eq_left (by omega)]
    omega
  have hk : ((k.drop (20 * q)).take r).length = r := by
    rw [List.length_take, List.length_drop]
    omega
  refine ⟨(chunk (k.take (20 * q))).map pickL, pickL ((k.drop (20 * q)).take r), ?_, ?_⟩
  · unfold pk
    rw [e1, chunk_add (by omega) (by omega) hl]
    simp
  · unfold pk
    rw [List.take_succ_eq_append_getElem h, e1, List.append_assoc, chunk_add (by simp [hk]) (by simp [hk]; omega) hl, List.map_append, List.map_singleton, pickL_more]
/-- What is written of the lines, line by line. -/
theorem endl_take {L : List (List UInt8)} {i : Nat} (h : i < L.length) : endl (L.take (i + 1)) = endl (L.take i) ++ (L[i] ++ [10]) := by
  unfold endl
  rw [List.take_succ_eq_append_getElem h, List.map_append, List.flatten_append, List.map_singleton, List.flatten_singleton]
end Go.Proofs.YtpmcedfeiconfaaGreatDoor.Scr

/- Layer 21: the reference's Text, given its Lines. -/
namespace Go.Proofs.YtpmcedfeiconfaaGreatDoor.Scw
open Go Go.RowKit Go.ChangeMaps Go.Proofs.YtpmcedfeiconfaaGreatDoor.Gro Go.Proofs.YtpmcedfeiconfaaGreatDoor.Own Go.Proofs.YtpmcedfeiconfaaGreatDoor.Mr Go.Proofs.YtpmcedfeiconfaaGreatDoor.Opn Go.Proofs.YtpmcedfeiconfaaGreatDoor.Opw Go.Proofs.YtpmcedfeiconfaaGreatDoor.Pl Go.Proofs.YtpmcedfeiconfaaGreatDoor.Scr Go.Proofs.YtpmcedfeiconfaaGreatDoor.Wd
set_option linter.unusedVariables false
set_option linter.unusedSimpArgs false
/-- A slice of strings that is handed back. -/
def LnP (L : List (List UInt8)) (w : World) (e : Ending) (w' : World) : Prop :=
  ∃ g off cap, e = .returned (.slice (some ⟨g, off, none⟩) L.length cap) ∧ g < w'.heap.size ∧ (∀ j (h : j < L.length), w'.cell? ⟨g, off + j, none⟩ = some (strV L[j])) ∧ L.length ≤ cap ∧ cap ≤ maxLen ∧ Below w.heap.size w w'
theorem endl_take_le (L : List (List UInt8)) (n : Nat) : (endl (L.take n)).length ≤ (endl L).length := by
  conv => rhs; rw [← List.take_append_drop n L]
  unfold endl
  rw [List.map_append, List.flatten_append, List.length_append]
  omega
set_option maxRecDepth 100000 in
set_option maxHeartbeats 16000000 in
theorem rTextOf (s : ScD) (hr : rightS s = true) (FT : ∀ l ∈ s.p, ∀ o ∈ l, o.Fits) (vp vk : Value) (w : World)
    (HLI : ∀ w0, Below w.heap.size w w0 → Calls Tryz.prog 18 #[sV s.c vp vk] w0 (LnP (lines s) w0)) :
    Calls Tryz.prog 15 #[sV s.c vp vk] w fun e w' => e = .returned (strV (textS s)) ∧ Below w.heap.size w w' := by
  obtain ⟨w1, hw1⟩ : ∃ q, q = w.alloc (.cells (sC s.c vp vk) 28) := ⟨_, rfl⟩
  have X1 : Bk w1 w.heap.size (sC s.c vp vk) 28 := by rw [hw1]; exact Bk.new w _ _
  have b1 : Below w.heap.size w w1 := by rw [hw1]; exact (Below.refl _ _).alloc (Nat.le_refl _) _
  have HLC := Lib.hid (HLI w1 b1)
  have hN := lines_count hr
  have hT := textS_len hr FT
  rw [textS_endl] at hT ⊢
  obtain ⟨L, hL⟩ : ∃ L, L = lines s := ⟨_, rfl⟩
  rw [← hL] at HLC hN hT ⊢
  have HX := Lib.hid X1
  have HB := Lib.hid b1
  clear hL HLI X1 b1 hr FT
  go_enter Tryz.func15, Tryz.ntmps15
  go_upto_region 1 with fail
  rw [← hw1]
  clear hw1
  go_wp2_with (refine wpList_load_row rfl 28 _ rfl w.heap.size rfl _ (sC s.c vp vk) (0, 0) _ (by exact HX.out) Tryz.underlying28 rfl (by kernel_rfl) ?_)
  refine HLC.out.mono ?_
  rintro e w2 ⟨g, off, cap, rfl, hg, hc, h1, h2, hb2⟩
  have HCL := Lib.hid hc
  have HG := Lib.hid hg
  have HB2 := Lib.hid (HB.out.trans (hb2.mono HB.out.size))
  clear hc hg hb2 HLC
  go_wp2_with fail
  go_loopw [3, 5] (fun ov iv wr => ∃ n : Nat, n ≤ L.length ∧ iv = .int .i64 (n : Int) ∧ ov = strV (endl (L.take n)) ∧ RowKit.Hid (Below w2.heap.size w2 wr)) (fun _ i _ => L.length - (intOf i).toNat)
  case atStart => exact ⟨0, Nat.zero_le _, rfl, rfl, Lib.hid (Below.refl _ _)⟩
  case round =>
    obtain ⟨n, hn, rfl, rfl, HW⟩ := hrel
    by_cases hlt : n < L.length
    · have hcell : wr.cell? ⟨g, off + n, none⟩ = some (strV L[n]) := (HW.out.cell (p := ⟨g, off + n, none⟩) HG.out).trans (HCL.out n hlt)
      have hle := endl_take_le L (n + 1)
      have hst := endl_take hlt
      rw [hst] at hle
      have HST := Lib.hid hst
      obtain ⟨x, hx⟩ : ∃ x, x = endl (L.take n) := ⟨_, rfl⟩
      obtain ⟨y, hy⟩ : ∃ y, y = L[n] := ⟨_, rfl⟩
      rw [← hx, ← hy] at hle
      rw [← hy] at hcell
      rw [← hx, ← hy] at HST
      rw [← hx]
      have hle2 : x.length + (y.length + 1) ≤ 1600000 := by
        have h3 : (x ++ (y ++ [10])).length = x.length + (y.length + 1) := by simp
        omega
      have hsum : IntKind.i64.wrap ((n : Int) + 1) = (n : Int) + 1 := IntWalk.i64_in _ (by omega)
      have hs1 : ¬ 9223372036854775807 < (x.length : Int) + (y.length : Int) := by omega
      have hs2 : ¬ 9223372036854775807 < (x.length : Int) + (y.length : Int) + 1 := by omega
      clear hx hy hst hle hle2
      go_wp2
      go_roundw
      case rel => exact ⟨n + 1, by omega, by go_num, by
        rw [HST.out]
        refine congrArg Value.string ?_
        apply ByteArray.ext
        simp, HW⟩
      case measure => simp [intOf]; omega
    · obtain rfl : n = L.length := by omega
      have HTL : RowKit.Hid (endl (L.take L.length) = endl L) := Lib.hid (by rw [List.take_length])
      rw [HTL.out]
      go_wp2
      go_ret
      exact ⟨rfl, HB2.out.trans (HW.out.mono HB2.out.size)⟩
end Go.Proofs.YtpmcedfeiconfaaGreatDoor.Scw

/- Layer 21: the reference's Lines (made by genscrefl.py). -/
namespace Go.Proofs.YtpmcedfeiconfaaGreatDoor.Scw
open Go Go.RowKit Go.ChangeMaps Go.Proofs.YtpmcedfeiconfaaGreatDoor.Gro Go.Proofs.YtpmcedfeiconfaaGreatDoor.Own Go.Proofs.YtpmcedfeiconfaaGreatDoor.Mr Go.Proofs.YtpmcedfeiconfaaGreatDoor.Opn Go.Proofs.YtpmcedfeiconfaaGreatDoor.Opw Go.Proofs.YtpmcedfeiconfaaGreatDoor.Pl Go.Proofs.YtpmcedfeiconfaaGreatDoor.Scr Go.Proofs.YtpmcedfeiconfaaGreatDoor.Wd
set_option linter.unusedVariables false
set_option linter.unusedSimpArgs false
theorem pk_len {c : Cfg} {k : List Int} (h : inR c k = true) (h8 : c.ww ≤ 8) (i : Nat) : ∀ l ∈ pk k i, l.length ≤ 500 := fun l hl => by
  unfold pk at hl
  rw [chunk_pieces, List.map_map] at hl
  obtain ⟨j, _, rfl⟩ := List.mem_map.1 hl
  have hin : inR c (k.take i) = true := List.all_eq_true.2 fun x hx => List.all_eq_true.1 h x (List.mem_of_mem_take hx)
  have := numsT_len (pieceL (k.take i) j) (piece_in hin h8 j)
  rw [piece_len] at this
  show (pickW ++ numsT (pieceL (k.take i) j)).length ≤ 500
  rw [List.length_append]
  show 4 + _ ≤ _
  omega
section
variable {ops : Array Oper} {a : Act} {o : Oper} {w : World} {K : Act → World → Prop} {Q : Exit → Act → World → Prop} {E : Prop}
theorem step_load_op (hgd : o.guard = none) (x : Operand) (ho : o.op = .load 50 x) (b off : Nat) (hx : a.eval x = .pointer (some ⟨b, off, none⟩)) (y : OpD) (hc : w.rangeAt b off (opC y).toList)
    (h : K (a.put o.dst (opV y)) w) : if Region.wanted o (yielded ops a.tmps) = true then Oper.wp Tryz.prog o a w K Q else E := by
  rw [if_pos (by simp [Region.wanted, hgd])]
  exact wp_load_mid 50 x ho b off hx (opC y).toList _ hc Tryz.underlying50 rfl (by kernel_rfl) h
end
set_option maxRecDepth 100000 in
set_option maxHeartbeats 16000000 in
theorem rLines (s : ScD) (hr : rightS s = true) (FT : ∀ l ∈ s.p, ∀ o ∈ l, o.Fits) (ap ak : Option Addr) (cp ck : Nat) (w : World) (L : Lb w) (RK : Reads w .i64 (.slice ak s.k.length ck) s.k) (RP : ReadsP w (.slice ap s.p.length cp) s.p) :
    Calls Tryz.prog 18 #[sV s.c (.slice ap s.p.length cp) (.slice ak s.k.length ck)] w (LnP (lines s) w) := by
  obtain ⟨c, p, k⟩ := s
  simp only at FT RK RP ⊢
  have X1 := Bk.new w (sC c (.slice ap p.length cp) (.slice ak k.length ck)) 28
  have b1 : Below w.heap.size w (w.alloc (.cells (sC c (.slice ap p.length cp) (.slice ak k.length ck)) 28)) := (Below.refl _ _).alloc (Nat.le_refl _) _
  obtain ⟨w1, hw1⟩ : ∃ q, q = w.alloc (.cells (sC c (.slice ap p.length cp) (.slice ak k.length ck)) 28) := ⟨_, rfl⟩
  rw [← hw1] at X1 b1
  have HL := Lib.hid L
  have HRK := Lib.hid RK
  have HRP := Lib.hid RP
  have HFT := Lib.hid FT
  obtain ⟨r1, r2, r3, r4, r5, r6⟩ := (right_iff _).1 hr
  have HC := Lib.hid (ok_in r1)
  have HR2 := Lib.hid r2
  have HR3 := Lib.hid r3
  have HR5 := Lib.hid r5
  have HR6 := Lib.hid r6
  have HWW := Lib.hid (ok_ww r1)
  have HX1 := Lib.hid X1
  have HB1 := Lib.hid b1
  have M1 := Lib.hid (rs_mid X1)
  have Z := Bk.new w1 cfgZ 24
  have BC : Bk ((w1.alloc (.cells cfgZ 24)).setRow w1.heap.size (cfgC c)) w1.heap.size (cfgC c) 24 := Z.setRow _
  have bb : Below w1.heap.size w1 ((w1.alloc (.cells cfgZ 24)).setRow w1.heap.size (cfgC c)) := below_setRow ((Below.refl _ _).alloc (Nat.le_refl _) _) (Nat.le_refl _) _
  obtain ⟨w3, hw3⟩ : ∃ q, q = (w1.alloc (.cells cfgZ 24)).setRow w1.heap.size (cfgC c) := ⟨_, rfl⟩
  rw [← hw3] at BC bb
  have HB3 := Lib.hid (b1.trans (bb.mono b1.size))
  have HX3 := Lib.hid (X1.keep bb)
  have c3 : ∀ j, w3.cell? ⟨w1.heap.size, j, none⟩ = (#[.int .i64 c.ww, .int .i64 c.sl, .int .i64 c.bl, .int .i64 c.wd, .int .i64 c.en, .int .i64 c.rk, .int .i64 c.bg, .int .u64 c.la] : Array Value)[j]? := BC.cells
  have lc3 := BC.lt
  clear hr r1 r2 r3 r4 r5 r6 L RK RP FT b1 bb BC
  go_enter Tryz.func18, Tryz.ntmps18
  go_upto_region 1 with fail
  rw [← hw1]
  clear hw1
  have x1 := X1.cells
  have l1 := X1.lt
  clear X1
  go_upto_region 3 with (first | (refine wpList_load_mid rfl 24 _ rfl w.heap.size 0 rfl (cfgC c).toList _ (by exact M1.out) Tryz.underlying24 rfl (by kernel_rfl) ?_) | (refine wpList_alloc_cz rfl rfl ?_) | (refine wpList_store_row rfl 24 _ _ rfl w1.heap.size (cfgC c) rfl rfl _ _ (by exact Z) (by kernel_rfl) (by kernel_rfl) (by kernel_rfl) ?_; rw [← hw3]; clear hw3 Z x1 l1))
  try simp only [Act.put, List.setIfInBounds_toArray, List.set_cons_succ, List.set_cons_zero]
  have R4 : Reads (w3.alloc (.cells #[.int .i64 c.ww, .int .i64 c.sl, .int .i64 c.bl, .int .i64 c.wd, .int .i64 c.en, .int .i64 c.rk, .int .i64 c.bg, .int .i64 c.la] 3)) .i64 (.slice (some ⟨w3.heap.size, 0, none⟩) 8 8) (cfgL c) := Reads.of_bk (l := cfgL c) (t := 3) (Bk.new w3 _ _) (by show 8 ≤ maxLen; decide)
  have b4 : Below w3.heap.size w3 (w3.alloc (.cells #[.int .i64 c.ww, .int .i64 c.sl, .int .i64 c.bl, .int .i64 c.wd, .int .i64 c.en, .int .i64 c.rk, .int .i64 c.bg, .int .i64 c.la] 3)) := (Below.refl _ _).alloc (Nat.le_refl _) _
  have HB4 := Lib.hid (HB3.out.trans (b4.mono HB3.out.size))
  have HX4 := Lib.hid (HX3.out.keep b4)
  have hla : IntKind.i64.wrap c.la = c.la := IntWalk.i64_in _ (by have h := HC.out c.la (by simp [cfgL]); have h1 := h.1; have h2 := h.2; omega)
  go_upto_region 2 with fail
  obtain ⟨w4, hw4⟩ : ∃ q, q = w3.alloc (.cells #[.int .i64 c.ww, .int .i64 c.sl, .int .i64 c.bl, .int .i64 c.wd, .int .i64 c.en, .int .i64 c.rk, .int .i64 c.bg, .int .i64 c.la] 3) := ⟨_, rfl⟩
  rw [← hw4] at R4 HB4 HX4 ⊢
  have g4 : w3.heap.size < w4.heap.size := by rw [hw4]; simp
  have HR4 := Lib.hid R4
  have HG4 := Lib.hid g4
  clear hw4 b4 R4 g4 hla c3 lc3
  obtain ⟨cl, hcl⟩ : ∃ q, q = cfgL c := ⟨_, rfl⟩
  have h8 : cl.length = 8 := by rw [hcl]; rfl
  rw [← hcl] at HR4 HC
  have HCL := Lib.hid hcl
  have H8 := Lib.hid h8
  clear hcl h8
  have hcell : ∀ n (h : n < cl.length), w4.cell? ⟨w3.heap.size, n, none⟩ = some (.int .i64 cl[n]) := fun n h => by
    obtain ⟨ad, cap, he, _, _, hc⟩ := HR4.out
    injection he with e1 e2 e3
    subst e1
    rcases hc with hc | ⟨b, off, had, hb, hcl⟩
    · rw [hc] at h; cases h
    · injection had with had
      injection had with hb1 ho1 _
      subst hb1 ho1
      have := hcl n h
      rw [Nat.zero_add] at this
      exact this
  have HCELL := Lib.hid hcell
  have HNL := Lib.hid (fun n => numsT_len (cl.take n) (fun x hx => HC.out x (List.mem_of_mem_take hx)))
  clear hcell
  go_loopw [4, 6] (fun ov iv wr => ∃ n : Nat, n ≤ 8 ∧ iv = .int .i64 (n : Int) ∧ ov = strV (hallW ++ numsT (cl.take n)) ∧ RowKit.Hid (Below w4.heap.size w4 wr)) (fun _ i _ => 8 - (intOf i).toNat)
  case atStart => exact ⟨0, Nat.zero_le _, rfl, rfl, Lib.hid (Below.refl _ _)⟩
  case round =>
    obtain ⟨n, hn, rfl, rfl, HW⟩ := hrel
    by_cases hlt : n < 8
    · have hlt2 : n < cl.length := by have := H8.out; omega
      have hcell : wr.cell? ⟨w3.heap.size, n, none⟩ = some (.int .i64 cl[n]) := (HW.out.cell (p := ⟨w3.heap.size, n, none⟩) HG4.out).trans (HCELL.out n hlt2)
      have hgr := Nat.lt_of_lt_of_le HG4.out HW.out.size
      have HST := Lib.hid (numsT_take hlt2)
      have hle := HNL.out n
      rw [List.length_take] at hle
      have HI := Lib.hid (fItoa cl[n] (HC.out _ (List.getElem_mem hlt2)).1 (HC.out _ (List.getElem_mem hlt2)).2 wr (HL.out.keep (HB4.out.trans (HW.out.mono HB4.out.size))))
      have hdl := dec_len cl[n] (HC.out _ (List.getElem_mem hlt2)).2
      obtain ⟨v, hv⟩ : ∃ v, v = cl[n] := ⟨_, rfl⟩
      rw [← hv] at hcell HST HI hdl
      obtain ⟨d, hd⟩ : ∃ d, d = dec v := ⟨_, rfl⟩
      rw [← hd] at HST HI hdl
      obtain ⟨x, hx⟩ : ∃ x, x = hallW ++ numsT (cl.take n) := ⟨_, rfl⟩
      rw [← hx]
      have hxl : x.length ≤ 4 + 8 * 21 := by
        rw [hx, List.length_append]
        show 4 + _ ≤ _
        omega
      have HXX := Lib.hid hx
      have hs1 : ¬ 9223372036854775807 < (x.length : Int) + 1 := by omega
      have hs2 : ¬ 9223372036854775807 < (x.length : Int) + 1 + (d.length : Int) := by omega
      have hsum : IntKind.i64.wrap ((n : Int) + 1) = (n : Int) + 1 := IntWalk.i64_in _ (by omega)
      clear hv hd hx hle hlt2
      go_wp2_with fail
      refine HI.out.mono ?_
      rintro e w5 ⟨rfl, hb5⟩
      have HW5 := Lib.hid (HW.out.trans (hb5.mono HW.out.size))
      clear hb5 hcell hgr
      go_wp2
      go_roundw
      case rel => exact ⟨n + 1, by omega, by go_num, by
        rw [HST.out, ← List.append_assoc, ← HXX.out]
        refine congrArg Value.string ?_
        apply ByteArray.ext
        simp, HW5⟩
      case measure => simp [intOf]; omega
    · obtain rfl : n = 8 := by omega
      rw [show ((8 : Nat) : Int) = 8 from rfl]
      have HTL : RowKit.Hid (cl.take 8 = cl) := Lib.hid (by rw [← H8.out, List.take_length])
      rw [HTL.out]
      have eH : hallW ++ numsT cl = hallL c := by rw [HCL.out]; rfl
      rw [eH]
      have HB5 := Lib.hid (HB4.out.trans (HW.out.mono HB4.out.size))
      have HX5 := Lib.hid (HX4.out.keep HW.out)
      have O6 : OwnS w.heap.size (wr.alloc (.cells #[strV (hallL c)] 9)) (.slice (some ⟨wr.heap.size, 0, none⟩) 1 1) [hallL c] := World.ownsRow_lit (base := w.heap.size) (e := 9) (size := 1) wr #[strV (hallL c)] 1 HB5.out.size (by decide) rfl
      have HB6 := Lib.hid (HB5.out.alloc HB5.out.size (.cells #[strV (hallL c)] 9))
      have HX6 := Lib.hid (HX5.out.alloc (.cells #[strV (hallL c)] 9))
      obtain ⟨w6, hw6⟩ : ∃ q, q = wr.alloc (.cells #[strV (hallL c)] 9) := ⟨_, rfl⟩
      rw [← hw6] at O6 HB6 HX6
      have HO6 := Lib.hid O6
      clear O6 eH
      go_upto_region 2 with fail
      rw [← hw6]
      clear hw6
      have HN6 : RowKit.Hid (1 = (lns c p 0 0).length) := Lib.hid (by rw [lns_zero]; rfl)
      have HO7 : RowKit.Hid (OwnS w.heap.size w6 (.slice (some ⟨wr.heap.size, 0, none⟩) 1 1) (lns c p 0 0)) := Lib.hid (by rw [lns_zero]; exact HO6.out)
      go_loopw [7, 8] (fun ov wv wi => ∃ (n : Nat) (a : Option Addr) (cap N : Nat), n ≤ p.length ∧ wv = .int .i64 (n : Int) ∧ ov = .slice a N cap ∧ RowKit.Hid (N = (lns c p n 0).length) ∧ RowKit.Hid (OwnS w.heap.size wi (.slice a N cap) (lns c p n 0)) ∧ RowKit.Hid (Below w.heap.size w wi) ∧ RowKit.Hid (Bk wi w.heap.size (sC c (.slice ap p.length cp) (.slice ak k.length ck)) 28)) (fun _ i _ => p.length - (intOf i).toNat)
      case atStart => exact ⟨0, _, _, 1, Nat.zero_le _, rfl, rfl, HN6, HO7, HB6, HX6⟩
      case round =>
        obtain ⟨n, a, cap, N, hn, rfl, rfl, HN, HO, HV, HY⟩ := hrel
        have x7 := HY.out.cells
        have l7 := HY.out.lt
        have hpl : p.length ≤ 8 := by have h1 : (p.length : Int) ≤ c.ww := HR2.out; have h2 : c.ww ≤ 8 := HWW.out.2; omega
        by_cases hlt : n < p.length
        · obtain ⟨_, _, he, _, _, hrp⟩ := HRP.out
          injection he with he1 _ he2
          subst he1 he2
          rcases hrp with hrp | ⟨b, off, rfl, hbl, hcell⟩
          · rw [hrp] at hlt; cases hlt
          obtain ⟨u, hu0, hu2⟩ := hcell n hlt
          have hu1 := (HV.out.cell (p := ⟨b, off + n, none⟩) hbl).trans hu0
          have hblr := Nat.lt_of_lt_of_le hbl HV.out.size
          obtain ⟨au, cu, rfl, hcu, hcm, hru⟩ := hu2
          obtain ⟨q, hq⟩ : ∃ q, q = p[n] := ⟨_, rfl⟩
          have hqd : p.getD n [] = q := by rw [hq]; simp [List.getD_eq_getElem?_getD, hlt]
          have hq200 : q.length ≤ 200 := (HR5.out p[n] (List.getElem_mem hlt)).1 |> fun h => by rw [hq]; exact h
          rw [← hq] at hu1 hcu hru hu0
          have HU0 := Lib.hid hu0
          have HQD := Lib.hid hqd
          have HRU := Lib.hid hru
          have HBLU := Lib.hid hbl
          have HQ := Lib.hid hq
          clear hcell hru hqd hq hbl hu0
          go_wp2
          clear x7 l7 hu1 hblr
          go_loopw [7, 9] (fun ov jv wi => ∃ (m : Nat) (a : Option Addr) (cap N : Nat), m ≤ q.length ∧ jv = .int .i64 (m : Int) ∧ ov = .slice a N cap ∧ RowKit.Hid (N = (lns c p n m).length) ∧ RowKit.Hid (OwnS w.heap.size wi (.slice a N cap) (lns c p n m)) ∧ RowKit.Hid (Below w.heap.size w wi) ∧ RowKit.Hid (Bk wi w.heap.size (sC c (.slice (some ⟨b, off, none⟩) p.length cp) (.slice ak k.length ck)) 28)) (fun _ j _ => q.length - (intOf j).toNat)
          case atStart => exact ⟨0, a, cap, N, Nat.zero_le _, rfl, rfl, HN, HO, HV, HY⟩
          case round =>
            obtain ⟨m, a2, cap2, N2, hm, rfl, rfl, HN2, HO2, HV2, HY2⟩ := hrel
            have x8 := HY2.out.cells
            have l8 := HY2.out.lt
            have hu1 := (HV2.out.cell (p := ⟨b, off + n, none⟩) HBLU.out).trans HU0.out
            have hblr := Nat.lt_of_lt_of_le HBLU.out HV2.out.size
            by_cases hltm : m < q.length
            · rcases HRU.out with hru | ⟨bu, ou, rfl, hbu, hcl⟩
              · rw [hru] at hltm; cases hltm
              have HRG : RowKit.Hid (wr.rangeAt bu (ou + m * 7) (opC q[m]).toList) := Lib.hid (fun j v hv => (HV2.out.cell (p := ⟨bu, _, none⟩) hbu).trans (hcl m hltm j v hv))
              have HBU := Lib.hid (Nat.lt_of_lt_of_le hbu HV2.out.size)
              have hro : right q[m] = true := by
                have h := (HR5.out p[n] (List.getElem_mem hlt)).2
                rw [← HQ.out] at h
                exact h _ (List.getElem_mem hltm)
              have hfo : q[m].Fits := by
                have h := HFT.out p[n] (List.getElem_mem hlt)
                rw [← HQ.out] at h
                exact h _ (List.getElem_mem hltm)
              have HNX : RowKit.Hid (lns c p n (m + 1) = lns c p n m ++ [doL n q[m]]) := Lib.hid (by
                have hqd := HQD.out
                subst hqd
                exact lns_op c p n m hltm)
              obtain ⟨o, ho⟩ : ∃ o, o = q[m] := ⟨_, rfl⟩
              rw [← ho] at hro hfo HRG HNX
              have HT := Lib.hid (fun (W' : World) => refText o hfo W')
              have htl := text_len hfo
              rw [if_pos hro] at HT
              obtain ⟨tt, htt⟩ : ∃ q, q = text o := ⟨_, rfl⟩
              rw [← htt] at HT htl
              have HTT := Lib.hid htt
              have hn8 : (n : Int) ≤ 9223372036854775807 := by omega
              have HIT := Lib.hid (fun (W' : World) (hb : Below wr.heap.size wr W') => fItoa (n : Int) (by omega) hn8 W' (HL.out.keep (HV2.out.trans (hb.mono HV2.out.size))))
              have hdl := dec_len (n : Int) hn8
              obtain ⟨dn, hdn⟩ : ∃ q, q = dec (n : Int) := ⟨_, rfl⟩
              rw [← hdn] at HIT hdl
              have HDN := Lib.hid hdn
              have hN2 := lns_len c p n m hpl (fun l hl => (HR5.out l hl).1)
              rw [← HN2.out] at hN2
              have OL2 : wr.ownsRow w.heap.size 9 1 (.slice a2 N2 cap2) N2 ((lns c p n m).map strV) := owns_len (by have h := HO2.out; unfold OwnS at h; rw [← HN2.out] at h; exact h) rfl rfl
              have zb0 : Below wr.heap.size wr wr.drew := (Below.refl _ _).drew
              clear htt hdn hro hfo ho hcl
              go_wp2
              have HX8 := Lib.hid x8
              have HU1 := Lib.hid hu1
              clear x8 hu1
              refine wp_region_held_drew (S := fun _ => True) (by kernel_rfl) trivial (fun hHeld => ?_)
              generalize wr.drew = z0 at *
              refine wpAnyH_take (i := 0) (oi := _) (v := .slice a2 N2 cap2) rfl (by kernel_rfl) (by kernel_rfl) (by kernel_rfl) (fun _ _ _ h => h) (Or.inl ⟨by rfl, fun w' hSw => by go_simp⟩) hHeld ?_
              try simp only [Act.put, List.getElem_toArray, List.getElem_cons_succ, List.getElem_cons_zero, List.setIfInBounds_toArray, List.set_cons_succ, List.set_cons_zero]
              refine wpAnyH_take (i := 1) (oi := _) (v := .int .i64 (n : Int)) rfl (by kernel_rfl) (by kernel_rfl) (by kernel_rfl) (fun _ _ _ h => h) (Or.inl ⟨by rfl, fun w' hSw => by go_simp⟩) hHeld ?_
              try simp only [Act.put, List.getElem_toArray, List.getElem_cons_succ, List.getElem_cons_zero, List.setIfInBounds_toArray, List.set_cons_succ, List.set_cons_zero]
              refine wpAnyH_take (i := 5) (oi := _) (v := .pointer (some ⟨w.heap.size, 8, none⟩)) rfl (by kernel_rfl) (by kernel_rfl) (by kernel_rfl) (fun _ _ _ h => h) (Or.inl ⟨by rfl, fun w' hSw => by go_simp⟩) hHeld ?_
              try simp only [Act.put, List.getElem_toArray, List.getElem_cons_succ, List.getElem_cons_zero, List.setIfInBounds_toArray, List.set_cons_succ, List.set_cons_zero]
              refine wpAnyH_take (i := 7) (oi := _) (v := .int .i64 (n : Int)) rfl (by kernel_rfl) (by kernel_rfl) (by kernel_rfl) (fun _ _ _ h => h) (Or.inl ⟨by rfl, fun w' hSw => by go_simp⟩) hHeld ?_
              try simp only [Act.put, List.getElem_toArray, List.getElem_cons_succ, List.getElem_cons_zero, List.setIfInBounds_toArray, List.set_cons_succ, List.set_cons_zero]
              refine wpAnyH_take (i := 10) (oi := _) (v := .int .i64 (m : Int)) rfl (by kernel_rfl) (by kernel_rfl) (by kernel_rfl) (fun _ _ _ h => h) (Or.inl ⟨by rfl, fun w' hSw => by go_simp⟩) hHeld ?_
              try simp only [Act.put, List.getElem_toArray, List.getElem_cons_succ, List.getElem_cons_zero, List.setIfInBounds_toArray, List.set_cons_succ, List.set_cons_zero]
              refine wpAnyH_ready (rs := [2, 6]) (by kernel_rfl) (by simp) ?_
              refine AllReadyH.cons (o := _) rfl (fun K hK => ?_) (AllReadyH.cons (o := _) rfl (fun K hK => ?_) AllReadyH.nil)
              · go_simp
                refine (HIT.out _ zb0).mono ?_
                rintro en zi ⟨rfl, hb9⟩
                have zbzi := zb0.trans (hb9.mono zb0.size)
                refine hK.out _ _ trivial (fun hHeld => ?_)
                clear hK K hb9
                try simp only [Act.put, List.getElem_toArray, List.getElem_cons_succ, List.getElem_cons_zero, List.setIfInBounds_toArray, List.set_cons_succ, List.set_cons_zero]
                refine wpAnyH_take (i := 3) (oi := _) (v := .string (⟨#[100, 111, 32]⟩ ++ ⟨dn.toArray⟩)) rfl (by kernel_rfl) (by kernel_rfl) (by kernel_rfl) (fun _ _ _ h => h) (Or.inl ⟨by rfl, fun w' hSw => by go_simp; omega⟩) hHeld ?_
                try simp only [Act.put, List.getElem_toArray, List.getElem_cons_succ, List.getElem_cons_zero, List.setIfInBounds_toArray, List.set_cons_succ, List.set_cons_zero]
                refine wpAnyH_take (i := 4) (oi := _) (v := .string ((⟨#[100, 111, 32]⟩ ++ ⟨dn.toArray⟩) ++ ⟨#[32]⟩)) rfl (by kernel_rfl) (by kernel_rfl) (by kernel_rfl) (fun _ _ _ h => h) (Or.inl ⟨by rfl, fun w' hSw => by go_simp; omega⟩) hHeld ?_
                try simp only [Act.put, List.getElem_toArray, List.getElem_cons_succ, List.getElem_cons_zero, List.setIfInBounds_toArray, List.set_cons_succ, List.set_cons_zero]
                refine wpAnyH_ready (rs := [6]) (by kernel_rfl) (by simp) ?_
                refine AllReadyH.cons (o := _) rfl (fun K hK => ?_) AllReadyH.nil
                have c0 : zi.cell? ⟨w.heap.size, 8, none⟩ = some (.slice (some ⟨b, off, none⟩) p.length cp) := (zbzi.cell (p := ⟨w.heap.size, 8, none⟩) l8).trans (HX8.out 8)
                go_simp
                refine hK.out _ _ trivial (fun hHeld => ?_)
                clear hK K c0
                try simp only [Act.put, List.getElem_toArray, List.getElem_cons_succ, List.getElem_cons_zero, List.setIfInBounds_toArray, List.set_cons_succ, List.set_cons_zero]
                refine wpAnyH_take (i := 8) (oi := _) (v := .pointer (some ⟨b, off + n, none⟩)) rfl (by kernel_rfl) (by kernel_rfl) (by kernel_rfl) (fun _ _ _ h => h) (Or.inl ⟨by rfl, fun w' hSw => by go_simp⟩) hHeld ?_
                try simp only [Act.put, List.getElem_toArray, List.getElem_cons_succ, List.getElem_cons_zero, List.setIfInBounds_toArray, List.set_cons_succ, List.set_cons_zero]
                refine wpAnyH_ready (rs := [9]) (by kernel_rfl) (by simp) ?_
                refine AllReadyH.cons (o := _) rfl (fun K hK => ?_) AllReadyH.nil
                have c0 : zi.cell? ⟨b, off + n, none⟩ = some (.slice (some ⟨bu, ou, none⟩) q.length cu) := (zbzi.cell (p := ⟨b, off + n, none⟩) hblr).trans HU1.out
                go_simp
                refine hK.out _ _ trivial (fun hHeld => ?_)
                clear hK K c0
                try simp only [Act.put, List.getElem_toArray, List.getElem_cons_succ, List.getElem_cons_zero, List.setIfInBounds_toArray, List.set_cons_succ, List.set_cons_zero]
                refine wpAnyH_take (i := 11) (oi := _) (v := .pointer (some ⟨bu, ou + m * 7, none⟩)) rfl (by kernel_rfl) (by kernel_rfl) (by kernel_rfl) (fun _ _ _ h => h) (Or.inl ⟨by rfl, fun w' hSw => by go_simp⟩) hHeld ?_
                try simp only [Act.put, List.getElem_toArray, List.getElem_cons_succ, List.getElem_cons_zero, List.setIfInBounds_toArray, List.set_cons_succ, List.set_cons_zero]
                refine wpAnyH_ready (rs := [12]) (by kernel_rfl) (by simp) ?_
                refine AllReadyH.cons (o := _) rfl (fun K hK => ?_) AllReadyH.nil
                refine step_load_op rfl _ rfl bu (ou + m * 7) rfl o (fun j v hv => (zbzi.cell (p := ⟨bu, _, none⟩) HBU.out).trans (HRG.out j v hv)) ?_
                refine hK.out _ _ trivial (fun hHeld => ?_)
                clear hK K
                try simp only [Act.put, List.getElem_toArray, List.getElem_cons_succ, List.getElem_cons_zero, List.setIfInBounds_toArray, List.set_cons_succ, List.set_cons_zero]
                refine wpAnyH_ready (rs := [13]) (by kernel_rfl) (by simp) ?_
                refine AllReadyH.cons (o := _) rfl (fun K hK => ?_) AllReadyH.nil
                go_simp
                refine (HT.out zi).mono ?_
                rintro en zt ⟨rfl, hb9⟩
                have zbzt := zbzi.trans (hb9.mono zbzi.size)
                refine hK.out _ _ trivial (fun hHeld => ?_)
                clear hK K hb9
                try simp only [Act.put, List.getElem_toArray, List.getElem_cons_succ, List.getElem_cons_zero, List.setIfInBounds_toArray, List.set_cons_succ, List.set_cons_zero]
                refine wpAnyH_take (i := 14) (oi := _) (v := .string (((⟨#[100, 111, 32]⟩ ++ ⟨dn.toArray⟩) ++ ⟨#[32]⟩) ++ ⟨tt.toArray⟩ : ByteArray)) rfl (by kernel_rfl) (by kernel_rfl) (by kernel_rfl) (fun _ _ _ h => h) (Or.inl ⟨by rfl, fun w' hSw => by go_simp; omega⟩) hHeld ?_
                try simp only [Act.put, List.getElem_toArray, List.getElem_cons_succ, List.getElem_cons_zero, List.setIfInBounds_toArray, List.set_cons_succ, List.set_cons_zero]
                refine wpAnyH_ready (rs := [15]) (by kernel_rfl) (by simp) ?_
                refine AllReadyH.cons (o := _) rfl (fun K hK => ?_) AllReadyH.nil
                go_simp
                obtain ⟨ln, hln⟩ : ∃ q : ByteArray, q = (((⟨#[100, 111, 32]⟩ ++ ⟨dn.toArray⟩) ++ ⟨#[32]⟩) ++ ⟨tt.toArray⟩ : ByteArray) := ⟨_, rfl⟩
                rw [← hln]
                have HLI := Lib.hid hln
                clear hln
                have zb8 := zbzt.alloc zbzt.size (.cells #[.string ln] 9)
                have nb8 : ∀ j, j < [Value.string ln].length → (zt.alloc (.cells #[.string ln] 9)).cell? ⟨zt.heap.size, j, none⟩ = [Value.string ln][j]? := new_cells zt #[.string ln] 9
                obtain ⟨gn, hgn⟩ : ∃ q, q = zt.heap.size := ⟨_, rfl⟩
                obtain ⟨z8, hz8⟩ : ∃ u, u = zt.alloc (.cells #[.string ln] 9) := ⟨_, rfl⟩
                rw [← hz8] at zb8 nb8 ⊢
                rw [← hgn] at nb8 ⊢
                clear hz8 hgn
                refine hK.out _ _ trivial (fun hHeld => ?_)
                clear hK K
                try simp only [Act.put, List.getElem_toArray, List.getElem_cons_succ, List.getElem_cons_zero, List.setIfInBounds_toArray, List.set_cons_succ, List.set_cons_zero]
                refine wpAnyH_ready (rs := [16]) (by kernel_rfl) (by simp) ?_
                refine AllReadyH.cons (o := _) rfl (fun K hK => ?_) AllReadyH.nil
                have OZ := owns_below OL2 zb8 (fun g hg => (World.ownsRow.lt OL2 g hg).2)
                have szw := HV2.out.size
                have szz := zb8.size
                refine step_append elemStr rfl (.tmp 64) (.tmp 79) rfl w.heap.size (.slice a2 N2 cap2) N2 ((lns c p n m).map strV) rfl (by exact OZ) gn 1 1 [.string ln] rfl rfl nb8 (by intro u hu; rw [List.mem_singleton.1 hu]; rfl) (by omega) (by omega) ?_
                intro v7 z9 O9 G9 A9
                have HY9 : RowKit.Hid (Bk z9 w.heap.size (sC c (.slice (some ⟨b, off, none⟩) p.length cp) (.slice ak k.length ck)) 28) := Lib.hid ((G9.block w.heap.size (HY2.out.keep zb8).lt (fun e => bk_row (HY2.out.keep zb8) OZ (by decide) e.symm)).trans (HY2.out.keep zb8))
                have HB9 : RowKit.Hid (Below w.heap.size w z9) := Lib.hid (HV2.out.trans ((zb8.mono szw).trans ((Below.refl _ _).grown G9 (by omega) (fun k hk => (World.ownsRow.lt OZ k hk).1))))
                obtain ⟨a7, c7, rfl, hc7, hm7⟩ := own_slice O9
                have HO9 := Lib.hid O9
                refine hK.out _ _ trivial (fun hHeld => ?_)
                clear hK K nb8 G9 A9 OZ O9
                try simp only [Act.put, List.getElem_toArray, List.getElem_cons_succ, List.getElem_cons_zero, List.setIfInBounds_toArray, List.set_cons_succ, List.set_cons_zero]
                refine wpAnyH_ready (rs := [17]) (by kernel_rfl) (by simp) ?_
                refine AllReadyH.cons (o := _) rfl (fun K hK => ?_) AllReadyH.nil
                go_simp
                refine hK.out _ _ trivial (fun hHeld => ?_)
                clear hK K
                try simp only [Act.put, List.getElem_toArray, List.getElem_cons_succ, List.getElem_cons_zero, List.setIfInBounds_toArray, List.set_cons_succ, List.set_cons_zero]
                refine wpAnyH_done (by kernel_rfl) ?_ _
                have hlen : (lns c p n (m + 1)).length = N2 + 1 := by rw [HNX.out, List.length_append, ← HN2.out]; rfl
                have HN9 : RowKit.Hid (N2 + 1 = (lns c p n (m + 1)).length) := Lib.hid hlen.symm
                have HOX : RowKit.Hid (OwnS w.heap.size z9 (.slice a7 (N2 + 1) c7) (lns c p n (m + 1))) := Lib.hid (by
                  have el : ln = ⟨(doL n o).toArray⟩ := by
                    rw [HLI.out, HDN.out, HTT.out]
                    apply ByteArray.ext
                    simp [doL]
                  unfold OwnS
                  rw [hlen]
                  refine owns_len HO9.out rfl ?_
                  rw [HNX.out, List.map_append, el]
                  rfl)
                clear hlen OL2
                go_wp2
                go_roundw
                case rel => exact ⟨m + 1, a7, c7, N2 + 1, by omega, by go_num, rfl, HN9, HOX, HB9, HY9⟩
                case measure => simp [intOf]; omega
              · have c0 : z0.cell? ⟨w.heap.size, 8, none⟩ = some (.slice (some ⟨b, off, none⟩) p.length cp) := (zb0.cell (p := ⟨w.heap.size, 8, none⟩) l8).trans (HX8.out 8)
                go_simp
                refine hK.out _ _ trivial (fun hHeld => ?_)
                clear hK K c0
                try simp only [Act.put, List.getElem_toArray, List.getElem_cons_succ, List.getElem_cons_zero, List.setIfInBounds_toArray, List.set_cons_succ, List.set_cons_zero]
                refine wpAnyH_take (i := 8) (oi := _) (v := .pointer (some ⟨b, off + n, none⟩)) rfl (by kernel_rfl) (by kernel_rfl) (by kernel_rfl) (fun _ _ _ h => h) (Or.inl ⟨by rfl, fun w' hSw => by go_simp⟩) hHeld ?_
                try simp only [Act.put, List.getElem_toArray, List.getElem_cons_succ, List.getElem_cons_zero, List.setIfInBounds_toArray, List.set_cons_succ, List.set_cons_zero]
                refine wpAnyH_ready (rs := [2, 9]) (by kernel_rfl) (by simp) ?_
                refine AllReadyH.cons (o := _) rfl (fun K hK => ?_) (AllReadyH.cons (o := _) rfl (fun K hK => ?_) AllReadyH.nil)
                · go_simp
                  refine (HIT.out _ zb0).mono ?_
                  rintro en zi ⟨rfl, hb9⟩
                  have zbzi := zb0.trans (hb9.mono zb0.size)
                  refine hK.out _ _ trivial (fun hHeld => ?_)
                  clear hK K hb9
                  try simp only [Act.put, List.getElem_toArray, List.getElem_cons_succ, List.getElem_cons_zero, List.setIfInBounds_toArray, List.set_cons_succ, List.set_cons_zero]
                  refine wpAnyH_take (i := 3) (oi := _) (v := .string (⟨#[100, 111, 32]⟩ ++ ⟨dn.toArray⟩)) rfl (by kernel_rfl) (by kernel_rfl) (by kernel_rfl) (fun _ _ _ h => h) (Or.inl ⟨by rfl, fun w' hSw => by go_simp; omega⟩) hHeld ?_
                  try simp only [Act.put, List.getElem_toArray, List.getElem_cons_succ, List.getElem_cons_zero, List.setIfInBounds_toArray, List.set_cons_succ, List.set_cons_zero]
                  refine wpAnyH_take (i := 4) (oi := _) (v := .string ((⟨#[100, 111, 32]⟩ ++ ⟨dn.toArray⟩) ++ ⟨#[32]⟩)) rfl (by kernel_rfl) (by kernel_rfl) (by kernel_rfl) (fun _ _ _ h => h) (Or.inl ⟨by rfl, fun w' hSw => by go_simp; omega⟩) hHeld ?_
                  try simp only [Act.put, List.getElem_toArray, List.getElem_cons_succ, List.getElem_cons_zero, List.setIfInBounds_toArray, List.set_cons_succ, List.set_cons_zero]
                  refine wpAnyH_ready (rs := [9]) (by kernel_rfl) (by simp) ?_
                  refine AllReadyH.cons (o := _) rfl (fun K hK => ?_) AllReadyH.nil
                  have c0 : zi.cell? ⟨b, off + n, none⟩ = some (.slice (some ⟨bu, ou, none⟩) q.length cu) := (zbzi.cell (p := ⟨b, off + n, none⟩) hblr).trans HU1.out
                  go_simp
                  refine hK.out _ _ trivial (fun hHeld => ?_)
                  clear hK K c0
                  try simp only [Act.put, List.getElem_toArray, List.getElem_cons_succ, List.getElem_cons_zero, List.setIfInBounds_toArray, List.set_cons_succ, List.set_cons_zero]
                  refine wpAnyH_take (i := 11) (oi := _) (v := .pointer (some ⟨bu, ou + m * 7, none⟩)) rfl (by kernel_rfl) (by kernel_rfl) (by kernel_rfl) (fun _ _ _ h => h) (Or.inl ⟨by rfl, fun w' hSw => by go_simp⟩) hHeld ?_
                  try simp only [Act.put, List.getElem_toArray, List.getElem_cons_succ, List.getElem_cons_zero, List.setIfInBounds_toArray, List.set_cons_succ, List.set_cons_zero]
                  refine wpAnyH_ready (rs := [12]) (by kernel_rfl) (by simp) ?_
                  refine AllReadyH.cons (o := _) rfl (fun K hK => ?_) AllReadyH.nil
                  refine step_load_op rfl _ rfl bu (ou + m * 7) rfl o (fun j v hv => (zbzi.cell (p := ⟨bu, _, none⟩) HBU.out).trans (HRG.out j v hv)) ?_
                  refine hK.out _ _ trivial (fun hHeld => ?_)
                  clear hK K
                  try simp only [Act.put, List.getElem_toArray, List.getElem_cons_succ, List.getElem_cons_zero, List.setIfInBounds_toArray, List.set_cons_succ, List.set_cons_zero]
                  refine wpAnyH_ready (rs := [13]) (by kernel_rfl) (by simp) ?_
                  refine AllReadyH.cons (o := _) rfl (fun K hK => ?_) AllReadyH.nil
                  go_simp
                  refine (HT.out zi).mono ?_
                  rintro en zt ⟨rfl, hb9⟩
                  have zbzt := zbzi.trans (hb9.mono zbzi.size)
                  refine hK.out _ _ trivial (fun hHeld => ?_)
                  clear hK K hb9
                  try simp only [Act.put, List.getElem_toArray, List.getElem_cons_succ, List.getElem_cons_zero, List.setIfInBounds_toArray, List.set_cons_succ, List.set_cons_zero]
                  refine wpAnyH_take (i := 14) (oi := _) (v := .string (((⟨#[100, 111, 32]⟩ ++ ⟨dn.toArray⟩) ++ ⟨#[32]⟩) ++ ⟨tt.toArray⟩ : ByteArray)) rfl (by kernel_rfl) (by kernel_rfl) (by kernel_rfl) (fun _ _ _ h => h) (Or.inl ⟨by rfl, fun w' hSw => by go_simp; omega⟩) hHeld ?_
                  try simp only [Act.put, List.getElem_toArray, List.getElem_cons_succ, List.getElem_cons_zero, List.setIfInBounds_toArray, List.set_cons_succ, List.set_cons_zero]
                  refine wpAnyH_ready (rs := [15]) (by kernel_rfl) (by simp) ?_
                  refine AllReadyH.cons (o := _) rfl (fun K hK => ?_) AllReadyH.nil
                  go_simp
                  obtain ⟨ln, hln⟩ : ∃ q : ByteArray, q = (((⟨#[100, 111, 32]⟩ ++ ⟨dn.toArray⟩) ++ ⟨#[32]⟩) ++ ⟨tt.toArray⟩ : ByteArray) := ⟨_, rfl⟩
                  rw [← hln]
                  have HLI := Lib.hid hln
                  clear hln
                  have zb8 := zbzt.alloc zbzt.size (.cells #[.string ln] 9)
                  have nb8 : ∀ j, j < [Value.string ln].length → (zt.alloc (.cells #[.string ln] 9)).cell? ⟨zt.heap.size, j, none⟩ = [Value.string ln][j]? := new_cells zt #[.string ln] 9
                  obtain ⟨gn, hgn⟩ : ∃ q, q = zt.heap.size := ⟨_, rfl⟩
                  obtain ⟨z8, hz8⟩ : ∃ u, u = zt.alloc (.cells #[.string ln] 9) := ⟨_, rfl⟩
                  rw [← hz8] at zb8 nb8 ⊢
                  rw [← hgn] at nb8 ⊢
                  clear hz8 hgn
                  refine hK.out _ _ trivial (fun hHeld => ?_)
                  clear hK K
                  try simp only [Act.put, List.getElem_toArray, List.getElem_cons_succ, List.getElem_cons_zero, List.setIfInBounds_toArray, List.set_cons_succ, List.set_cons_zero]
                  refine wpAnyH_ready (rs := [16]) (by kernel_rfl) (by simp) ?_
                  refine AllReadyH.cons (o := _) rfl (fun K hK => ?_) AllReadyH.nil
                  have OZ := owns_below OL2 zb8 (fun g hg => (World.ownsRow.lt OL2 g hg).2)
                  have szw := HV2.out.size
                  have szz := zb8.size
                  refine step_append elemStr rfl (.tmp 64) (.tmp 79) rfl w.heap.size (.slice a2 N2 cap2) N2 ((lns c p n m).map strV) rfl (by exact OZ) gn 1 1 [.string ln] rfl rfl nb8 (by intro u hu; rw [List.mem_singleton.1 hu]; rfl) (by omega) (by omega) ?_
                  intro v7 z9 O9 G9 A9
                  have HY9 : RowKit.Hid (Bk z9 w.heap.size (sC c (.slice (some ⟨b, off, none⟩) p.length cp) (.slice ak k.length ck)) 28) := Lib.hid ((G9.block w.heap.size (HY2.out.keep zb8).lt (fun e => bk_row (HY2.out.keep zb8) OZ (by decide) e.symm)).trans (HY2.out.keep zb8))
                  have HB9 : RowKit.Hid (Below w.heap.size w z9) := Lib.hid (HV2.out.trans ((zb8.mono szw).trans ((Below.refl _ _).grown G9 (by omega) (fun k hk => (World.ownsRow.lt OZ k hk).1))))
                  obtain ⟨a7, c7, rfl, hc7, hm7⟩ := own_slice O9
                  have HO9 := Lib.hid O9
                  refine hK.out _ _ trivial (fun hHeld => ?_)
                  clear hK K nb8 G9 A9 OZ O9
                  try simp only [Act.put, List.getElem_toArray, List.getElem_cons_succ, List.getElem_cons_zero, List.setIfInBounds_toArray, List.set_cons_succ, List.set_cons_zero]
                  refine wpAnyH_ready (rs := [17]) (by kernel_rfl) (by simp) ?_
                  refine AllReadyH.cons (o := _) rfl (fun K hK => ?_) AllReadyH.nil
                  go_simp
                  refine hK.out _ _ trivial (fun hHeld => ?_)
                  clear hK K
                  try simp only [Act.put, List.getElem_toArray, List.getElem_cons_succ, List.getElem_cons_zero, List.setIfInBounds_toArray, List.set_cons_succ, List.set_cons_zero]
                  refine wpAnyH_done (by kernel_rfl) ?_ _
                  have hlen : (lns c p n (m + 1)).length = N2 + 1 := by rw [HNX.out, List.length_append, ← HN2.out]; rfl
                  have HN9 : RowKit.Hid (N2 + 1 = (lns c p n (m + 1)).length) := Lib.hid hlen.symm
                  have HOX : RowKit.Hid (OwnS w.heap.size z9 (.slice a7 (N2 + 1) c7) (lns c p n (m + 1))) := Lib.hid (by
                    have el : ln = ⟨(doL n o).toArray⟩ := by
                      rw [HLI.out, HDN.out, HTT.out]
                      apply ByteArray.ext
                      simp [doL]
                    unfold OwnS
                    rw [hlen]
                    refine owns_len HO9.out rfl ?_
                    rw [HNX.out, List.map_append, el]
                    rfl)
                  clear hlen OL2
                  go_wp2
                  go_roundw
                  case rel => exact ⟨m + 1, a7, c7, N2 + 1, by omega, by go_num, rfl, HN9, HOX, HB9, HY9⟩
                  case measure => simp [intOf]; omega
                · have c0 : z0.cell? ⟨b, off + n, none⟩ = some (.slice (some ⟨bu, ou, none⟩) q.length cu) := (zb0.cell (p := ⟨b, off + n, none⟩) hblr).trans HU1.out
                  go_simp
                  refine hK.out _ _ trivial (fun hHeld => ?_)
                  clear hK K c0
                  try simp only [Act.put, List.getElem_toArray, List.getElem_cons_succ, List.getElem_cons_zero, List.setIfInBounds_toArray, List.set_cons_succ, List.set_cons_zero]
                  refine wpAnyH_take (i := 11) (oi := _) (v := .pointer (some ⟨bu, ou + m * 7, none⟩)) rfl (by kernel_rfl) (by kernel_rfl) (by kernel_rfl) (fun _ _ _ h => h) (Or.inl ⟨by rfl, fun w' hSw => by go_simp⟩) hHeld ?_
                  try simp only [Act.put, List.getElem_toArray, List.getElem_cons_succ, List.getElem_cons_zero, List.setIfInBounds_toArray, List.set_cons_succ, List.set_cons_zero]
                  refine wpAnyH_ready (rs := [2, 12]) (by kernel_rfl) (by simp) ?_
                  refine AllReadyH.cons (o := _) rfl (fun K hK => ?_) (AllReadyH.cons (o := _) rfl (fun K hK => ?_) AllReadyH.nil)
                  · go_simp
                    refine (HIT.out _ zb0).mono ?_
                    rintro en zi ⟨rfl, hb9⟩
                    have zbzi := zb0.trans (hb9.mono zb0.size)
                    refine hK.out _ _ trivial (fun hHeld => ?_)
                    clear hK K hb9
                    try simp only [Act.put, List.getElem_toArray, List.getElem_cons_succ, List.getElem_cons_zero, List.setIfInBounds_toArray, List.set_cons_succ, List.set_cons_zero]
                    refine wpAnyH_take (i := 3) (oi := _) (v := .string (⟨#[100, 111, 32]⟩ ++ ⟨dn.toArray⟩)) rfl (by kernel_rfl) (by kernel_rfl) (by kernel_rfl) (fun _ _ _ h => h) (Or.inl ⟨by rfl, fun w' hSw => by go_simp; omega⟩) hHeld ?_
                    try simp only [Act.put, List.getElem_toArray, List.getElem_cons_succ, List.getElem_cons_zero, List.setIfInBounds_toArray, List.set_cons_succ, List.set_cons_zero]
                    refine wpAnyH_take (i := 4) (oi := _) (v := .string ((⟨#[100, 111, 32]⟩ ++ ⟨dn.toArray⟩) ++ ⟨#[32]⟩)) rfl (by kernel_rfl) (by kernel_rfl) (by kernel_rfl) (fun _ _ _ h => h) (Or.inl ⟨by rfl, fun w' hSw => by go_simp; omega⟩) hHeld ?_
                    try simp only [Act.put, List.getElem_toArray, List.getElem_cons_succ, List.getElem_cons_zero, List.setIfInBounds_toArray, List.set_cons_succ, List.set_cons_zero]
                    refine wpAnyH_ready (rs := [12]) (by kernel_rfl) (by simp) ?_
                    refine AllReadyH.cons (o := _) rfl (fun K hK => ?_) AllReadyH.nil
                    refine step_load_op rfl _ rfl bu (ou + m * 7) rfl o (fun j v hv => (zbzi.cell (p := ⟨bu, _, none⟩) HBU.out).trans (HRG.out j v hv)) ?_
                    refine hK.out _ _ trivial (fun hHeld => ?_)
                    clear hK K
                    try simp only [Act.put, List.getElem_toArray, List.getElem_cons_succ, List.getElem_cons_zero, List.setIfInBounds_toArray, List.set_cons_succ, List.set_cons_zero]
                    refine wpAnyH_ready (rs := [13]) (by kernel_rfl) (by simp) ?_
                    refine AllReadyH.cons (o := _) rfl (fun K hK => ?_) AllReadyH.nil
                    go_simp
                    refine (HT.out zi).mono ?_
                    rintro en zt ⟨rfl, hb9⟩
                    have zbzt := zbzi.trans (hb9.mono zbzi.size)
                    refine hK.out _ _ trivial (fun hHeld => ?_)
                    clear hK K hb9
                    try simp only [Act.put, List.getElem_toArray, List.getElem_cons_succ, List.getElem_cons_zero, List.setIfInBounds_toArray, List.set_cons_succ, List.set_cons_zero]
                    refine wpAnyH_take (i := 14) (oi := _) (v := .string (((⟨#[100, 111, 32]⟩ ++ ⟨dn.toArray⟩) ++ ⟨#[32]⟩) ++ ⟨tt.toArray⟩ : ByteArray)) rfl (by kernel_rfl) (by kernel_rfl) (by kernel_rfl) (fun _ _ _ h => h) (Or.inl ⟨by rfl, fun w' hSw => by go_simp; omega⟩) hHeld ?_
                    try simp only [Act.put, List.getElem_toArray, List.getElem_cons_succ, List.getElem_cons_zero, List.setIfInBounds_toArray, List.set_cons_succ, List.set_cons_zero]
                    refine wpAnyH_ready (rs := [15]) (by kernel_rfl) (by simp) ?_
                    refine AllReadyH.cons (o := _) rfl (fun K hK => ?_) AllReadyH.nil
                    go_simp
                    obtain ⟨ln, hln⟩ : ∃ q : ByteArray, q = (((⟨#[100, 111, 32]⟩ ++ ⟨dn.toArray⟩) ++ ⟨#[32]⟩) ++ ⟨tt.toArray⟩ : ByteArray) := ⟨_, rfl⟩
                    rw [← hln]
                    have HLI := Lib.hid hln
                    clear hln
                    have zb8 := zbzt.alloc zbzt.size (.cells #[.string ln] 9)
                    have nb8 : ∀ j, j < [Value.string ln].length → (zt.alloc (.cells #[.string ln] 9)).cell? ⟨zt.heap.size, j, none⟩ = [Value.string ln][j]? := new_cells zt #[.string ln] 9
                    obtain ⟨gn, hgn⟩ : ∃ q, q = zt.heap.size := ⟨_, rfl⟩
                    obtain ⟨z8, hz8⟩ : ∃ u, u = zt.alloc (.cells #[.string ln] 9) := ⟨_, rfl⟩
                    rw [← hz8] at zb8 nb8 ⊢
                    rw [← hgn] at nb8 ⊢
                    clear hz8 hgn
                    refine hK.out _ _ trivial (fun hHeld => ?_)
                    clear hK K
                    try simp only [Act.put, List.getElem_toArray, List.getElem_cons_succ, List.getElem_cons_zero, List.setIfInBounds_toArray, List.set_cons_succ, List.set_cons_zero]
                    refine wpAnyH_ready (rs := [16]) (by kernel_rfl) (by simp) ?_
                    refine AllReadyH.cons (o := _) rfl (fun K hK => ?_) AllReadyH.nil
                    have OZ := owns_below OL2 zb8 (fun g hg => (World.ownsRow.lt OL2 g hg).2)
                    have szw := HV2.out.size
                    have szz := zb8.size
                    refine step_append elemStr rfl (.tmp 64) (.tmp 79) rfl w.heap.size (.slice a2 N2 cap2) N2 ((lns c p n m).map strV) rfl (by exact OZ) gn 1 1 [.string ln] rfl rfl nb8 (by intro u hu; rw [List.mem_singleton.1 hu]; rfl) (by omega) (by omega) ?_
                    intro v7 z9 O9 G9 A9
                    have HY9 : RowKit.Hid (Bk z9 w.heap.size (sC c (.slice (some ⟨b, off, none⟩) p.length cp) (.slice ak k.length ck)) 28) := Lib.hid ((G9.block w.heap.size (HY2.out.keep zb8).lt (fun e => bk_row (HY2.out.keep zb8) OZ (by decide) e.symm)).trans (HY2.out.keep zb8))
                    have HB9 : RowKit.Hid (Below w.heap.size w z9) := Lib.hid (HV2.out.trans ((zb8.mono szw).trans ((Below.refl _ _).grown G9 (by omega) (fun k hk => (World.ownsRow.lt OZ k hk).1))))
                    obtain ⟨a7, c7, rfl, hc7, hm7⟩ := own_slice O9
                    have HO9 := Lib.hid O9
                    refine hK.out _ _ trivial (fun hHeld => ?_)
                    clear hK K nb8 G9 A9 OZ O9
                    try simp only [Act.put, List.getElem_toArray, List.getElem_cons_succ, List.getElem_cons_zero, List.setIfInBounds_toArray, List.set_cons_succ, List.set_cons_zero]
                    refine wpAnyH_ready (rs := [17]) (by kernel_rfl) (by simp) ?_
                    refine AllReadyH.cons (o := _) rfl (fun K hK => ?_) AllReadyH.nil
                    go_simp
                    refine hK.out _ _ trivial (fun hHeld => ?_)
                    clear hK K
                    try simp only [Act.put, List.getElem_toArray, List.getElem_cons_succ, List.getElem_cons_zero, List.setIfInBounds_toArray, List.set_cons_succ, List.set_cons_zero]
                    refine wpAnyH_done (by kernel_rfl) ?_ _
                    have hlen : (lns c p n (m + 1)).length = N2 + 1 := by rw [HNX.out, List.length_append, ← HN2.out]; rfl
                    have HN9 : RowKit.Hid (N2 + 1 = (lns c p n (m + 1)).length) := Lib.hid hlen.symm
                    have HOX : RowKit.Hid (OwnS w.heap.size z9 (.slice a7 (N2 + 1) c7) (lns c p n (m + 1))) := Lib.hid (by
                      have el : ln = ⟨(doL n o).toArray⟩ := by
                        rw [HLI.out, HDN.out, HTT.out]
                        apply ByteArray.ext
                        simp [doL]
                      unfold OwnS
                      rw [hlen]
                      refine owns_len HO9.out rfl ?_
                      rw [HNX.out, List.map_append, el]
                      rfl)
                    clear hlen OL2
                    go_wp2
                    go_roundw
                    case rel => exact ⟨m + 1, a7, c7, N2 + 1, by omega, by go_num, rfl, HN9, HOX, HB9, HY9⟩
                    case measure => simp [intOf]; omega
                  · refine step_load_op rfl _ rfl bu (ou + m * 7) rfl o (fun j v hv => (zb0.cell (p := ⟨bu, _, none⟩) HBU.out).trans (HRG.out j v hv)) ?_
                    refine hK.out _ _ trivial (fun hHeld => ?_)
                    clear hK K
                    try simp only [Act.put, List.getElem_toArray, List.getElem_cons_succ, List.getElem_cons_zero, List.setIfInBounds_toArray, List.set_cons_succ, List.set_cons_zero]
                    refine wpAnyH_ready (rs := [2]) (by kernel_rfl) (by simp) ?_
                    refine AllReadyH.cons (o := _) rfl (fun K hK => ?_) AllReadyH.nil
                    go_simp
                    refine (HIT.out _ zb0).mono ?_
                    rintro en zi ⟨rfl, hb9⟩
                    have zbzi := zb0.trans (hb9.mono zb0.size)
                    refine hK.out _ _ trivial (fun hHeld => ?_)
                    clear hK K hb9
                    try simp only [Act.put, List.getElem_toArray, List.getElem_cons_succ, List.getElem_cons_zero, List.setIfInBounds_toArray, List.set_cons_succ, List.set_cons_zero]
                    refine wpAnyH_take (i := 3) (oi := _) (v := .string (⟨#[100, 111, 32]⟩ ++ ⟨dn.toArray⟩)) rfl (by kernel_rfl) (by kernel_rfl) (by kernel_rfl) (fun _ _ _ h => h) (Or.inl ⟨by rfl, fun w' hSw => by go_simp; omega⟩) hHeld ?_
                    try simp only [Act.put, List.getElem_toArray, List.getElem_cons_succ, List.getElem_cons_zero, List.setIfInBounds_toArray, List.set_cons_succ, List.set_cons_zero]
                    refine wpAnyH_take (i := 4) (oi := _) (v := .string ((⟨#[100, 111, 32]⟩ ++ ⟨dn.toArray⟩) ++ ⟨#[32]⟩)) rfl (by kernel_rfl) (by kernel_rfl) (by kernel_rfl) (fun _ _ _ h => h) (Or.inl ⟨by rfl, fun w' hSw => by go_simp; omega⟩) hHeld ?_
                    try simp only [Act.put, List.getElem_toArray, List.getElem_cons_succ, List.getElem_cons_zero, List.setIfInBounds_toArray, List.set_cons_succ, List.set_cons_zero]
                    refine wpAnyH_ready (rs := [13]) (by kernel_rfl) (by simp) ?_
                    refine AllReadyH.cons (o := _) rfl (fun K hK => ?_) AllReadyH.nil
                    go_simp
                    refine (HT.out zi).mono ?_
                    rintro en zt ⟨rfl, hb9⟩
                    have zbzt := zbzi.trans (hb9.mono zbzi.size)
                    refine hK.out _ _ trivial (fun hHeld => ?_)
                    clear hK K hb9
                    try simp only [Act.put, List.getElem_toArray, List.getElem_cons_succ, List.getElem_cons_zero, List.setIfInBounds_toArray, List.set_cons_succ, List.set_cons_zero]
                    refine wpAnyH_take (i := 14) (oi := _) (v := .string (((⟨#[100, 111, 32]⟩ ++ ⟨dn.toArray⟩) ++ ⟨#[32]⟩) ++ ⟨tt.toArray⟩ : ByteArray)) rfl (by kernel_rfl) (by kernel_rfl) (by kernel_rfl) (fun _ _ _ h => h) (Or.inl ⟨by rfl, fun w' hSw => by go_simp; omega⟩) hHeld ?_
                    try simp only [Act.put, List.getElem_toArray, List.getElem_cons_succ, List.getElem_cons_zero, List.setIfInBounds_toArray, List.set_cons_succ, List.set_cons_zero]
                    refine wpAnyH_ready (rs := [15]) (by kernel_rfl) (by simp) ?_
                    refine AllReadyH.cons (o := _) rfl (fun K hK => ?_) AllReadyH.nil
                    go_simp
                    obtain ⟨ln, hln⟩ : ∃ q : ByteArray, q = (((⟨#[100, 111, 32]⟩ ++ ⟨dn.toArray⟩) ++ ⟨#[32]⟩) ++ ⟨tt.toArray⟩ : ByteArray) := ⟨_, rfl⟩
                    rw [← hln]
                    have HLI := Lib.hid hln
                    clear hln
                    have zb8 := zbzt.alloc zbzt.size (.cells #[.string ln] 9)
                    have nb8 : ∀ j, j < [Value.string ln].length → (zt.alloc (.cells #[.string ln] 9)).cell? ⟨zt.heap.size, j, none⟩ = [Value.string ln][j]? := new_cells zt #[.string ln] 9
                    obtain ⟨gn, hgn⟩ : ∃ q, q = zt.heap.size := ⟨_, rfl⟩
                    obtain ⟨z8, hz8⟩ : ∃ u, u = zt.alloc (.cells #[.string ln] 9) := ⟨_, rfl⟩
                    rw [← hz8] at zb8 nb8 ⊢
                    rw [← hgn] at nb8 ⊢
                    clear hz8 hgn
                    refine hK.out _ _ trivial (fun hHeld => ?_)
                    clear hK K
                    try simp only [Act.put, List.getElem_toArray, List.getElem_cons_succ, List.getElem_cons_zero, List.setIfInBounds_toArray, List.set_cons_succ, List.set_cons_zero]
                    refine wpAnyH_ready (rs := [16]) (by kernel_rfl) (by simp) ?_
                    refine AllReadyH.cons (o := _) rfl (fun K hK => ?_) AllReadyH.nil
                    have OZ := owns_below OL2 zb8 (fun g hg => (World.ownsRow.lt OL2 g hg).2)
                    have szw := HV2.out.size
                    have szz := zb8.size
                    refine step_append elemStr rfl (.tmp 64) (.tmp 79) rfl w.heap.size (.slice a2 N2 cap2) N2 ((lns c p n m).map strV) rfl (by exact OZ) gn 1 1 [.string ln] rfl rfl nb8 (by intro u hu; rw [List.mem_singleton.1 hu]; rfl) (by omega) (by omega) ?_
                    intro v7 z9 O9 G9 A9
                    have HY9 : RowKit.Hid (Bk z9 w.heap.size (sC c (.slice (some ⟨b, off, none⟩) p.length cp) (.slice ak k.length ck)) 28) := Lib.hid ((G9.block w.heap.size (HY2.out.keep zb8).lt (fun e => bk_row (HY2.out.keep zb8) OZ (by decide) e.symm)).trans (HY2.out.keep zb8))
                    have HB9 : RowKit.Hid (Below w.heap.size w z9) := Lib.hid (HV2.out.trans ((zb8.mono szw).trans ((Below.refl _ _).grown G9 (by omega) (fun k hk => (World.ownsRow.lt OZ k hk).1))))
                    obtain ⟨a7, c7, rfl, hc7, hm7⟩ := own_slice O9
                    have HO9 := Lib.hid O9
                    refine hK.out _ _ trivial (fun hHeld => ?_)
                    clear hK K nb8 G9 A9 OZ O9
                    try simp only [Act.put, List.getElem_toArray, List.getElem_cons_succ, List.getElem_cons_zero, List.setIfInBounds_toArray, List.set_cons_succ, List.set_cons_zero]
                    refine wpAnyH_ready (rs := [17]) (by kernel_rfl) (by simp) ?_
                    refine AllReadyH.cons (o := _) rfl (fun K hK => ?_) AllReadyH.nil
                    go_simp
                    refine hK.out _ _ trivial (fun hHeld => ?_)
                    clear hK K
                    try simp only [Act.put, List.getElem_toArray, List.getElem_cons_succ, List.getElem_cons_zero, List.setIfInBounds_toArray, List.set_cons_succ, List.set_cons_zero]
                    refine wpAnyH_done (by kernel_rfl) ?_ _
                    have hlen : (lns c p n (m + 1)).length = N2 + 1 := by rw [HNX.out, List.length_append, ← HN2.out]; rfl
                    have HN9 : RowKit.Hid (N2 + 1 = (lns c p n (m + 1)).length) := Lib.hid hlen.symm
                    have HOX : RowKit.Hid (OwnS w.heap.size z9 (.slice a7 (N2 + 1) c7) (lns c p n (m + 1))) := Lib.hid (by
                      have el : ln = ⟨(doL n o).toArray⟩ := by
                        rw [HLI.out, HDN.out, HTT.out]
                        apply ByteArray.ext
                        simp [doL]
                      unfold OwnS
                      rw [hlen]
                      refine owns_len HO9.out rfl ?_
                      rw [HNX.out, List.map_append, el]
                      rfl)
                    clear hlen OL2
                    go_wp2
                    go_roundw
                    case rel => exact ⟨m + 1, a7, c7, N2 + 1, by omega, by go_num, rfl, HN9, HOX, HB9, HY9⟩
                    case measure => simp [intOf]; omega
            · obtain rfl : m = q.length := by omega
              have hL : lns c p n q.length = lns c p (n + 1) 0 := by rw [lns_prog c p n hlt, HQD.out]
              have HNZ : RowKit.Hid (N2 = (lns c p (n + 1) 0).length) := Lib.hid (by rw [← hL]; exact HN2.out)
              have HOZ : RowKit.Hid (OwnS w.heap.size wr (.slice a2 N2 cap2) (lns c p (n + 1) 0)) := Lib.hid (by rw [← hL]; exact HO2.out)
              clear hL
              go_wp2
              go_roundw
              case rel => exact ⟨n + 1, a2, cap2, N2, by omega, by go_num, rfl, HNZ, HOZ, HV2, HY2⟩
              case measure => simp [intOf]; omega
        · obtain rfl : n = p.length := by omega
          have HNA : RowKit.Hid (N = ((hallL c :: progL 0 p) ++ pk k 0).length) := Lib.hid (by rw [pk_zero, List.append_nil, ← lns_done]; exact HN.out)
          have HOA : RowKit.Hid (OwnS w.heap.size wr (.slice a N cap) ((hallL c :: progL 0 p) ++ pk k 0)) := Lib.hid (by rw [pk_zero, List.append_nil, ← lns_done]; exact HO.out)
          have hplen : (hallL c :: progL 0 p).length ≤ 1700 := by
            have h1 := progL_len p 0 (fun l hl => (HR5.out l hl).1)
            rw [List.length_cons]
            omega
          have hk2 : k.length ≤ 2000 := HR3.out
          have HPR := Lib.hid (show ∀ i, ((hallL c :: progL 0 p) ++ pk k i).length ≤ 1700 + k.length from fun i => by
            have h2 : (pk k i).length ≤ k.length := by
              unfold pk
              rw [chunk_pieces, List.length_map, List.length_map, List.length_range, List.length_take]
              omega
            rw [List.length_append]
            omega)
          have HWR := Lib.hid HV.out.size
          go_upto_region 1 with fail
          clear x7 l7
          go_loopw [7, 10] (fun ov jv wi => ∃ (i : Nat) (a : Option Addr) (cap N : Nat), i ≤ k.length ∧ jv = .int .i64 (i : Int) ∧ ov = .slice a N cap ∧ RowKit.Hid (N = ((hallL c :: progL 0 p) ++ pk k i).length) ∧ RowKit.Hid (OwnS w.heap.size wi (.slice a N cap) ((hallL c :: progL 0 p) ++ pk k i)) ∧ RowKit.Hid (Below w.heap.size w wi) ∧ RowKit.Hid (Bk wi w.heap.size (sC c (.slice ap p.length cp) (.slice ak k.length ck)) 28)) (fun _ j _ => k.length - (intOf j).toNat)
          case atStart => exact ⟨0, a, cap, N, Nat.zero_le _, rfl, rfl, HNA, HOA, HV, HY⟩
          case round =>
            obtain ⟨i, a3, cap3, N3, hi, rfl, rfl, HN3, HO3, HV3, HY3⟩ := hrel
            have x8 := HY3.out.cells
            have l8 := HY3.out.lt
            have hN3 : N3 ≤ 1700 + k.length := by rw [HN3.out]; exact HPR.out i
            by_cases hlt3 : i < k.length
            · obtain ⟨_, _, he, _, _, hrk⟩ := HRK.out
              injection he with he1 _ he2
              subst he1 he2
              rcases hrk with hrk | ⟨bk, ok, rfl, hbk, hck⟩
              · rw [hrk] at hlt3; cases hlt3
              obtain ⟨x, hx⟩ : ∃ x, x = k[i] := ⟨_, rfl⟩
              have hx1 : 0 ≤ x ∧ x ≤ 9223372036854775807 := by
                have := List.all_eq_true.1 HR6.out k[i] (List.getElem_mem hlt3)
                simp only [Bool.and_eq_true, decide_eq_true_eq] at this
                have h8 : c.ww ≤ 8 := HWW.out.2
                omega
              have hu : wr.cell? ⟨bk, ok + i, none⟩ = some (.int .i64 x) := (HV3.out.cell (p := ⟨bk, ok + i, none⟩) hbk).trans (by rw [hx]; exact hck i hlt3)
              have hbr := Nat.lt_of_lt_of_le hbk HV3.out.size
              have hbk0 : ∀ W', Below w.heap.size w W' → W'.cell? ⟨bk, ok + i, none⟩ = some (.int .i64 x) := fun W' hb => (hb.cell (p := ⟨bk, ok + i, none⟩) hbk).trans (by rw [hx]; exact hck i hlt3)
              have HBKL := Lib.hid hbk
              have HU := Lib.hid hu
              have HBR := Lib.hid hbr
              have hdl := dec_len x hx1.2
              have HIT := Lib.hid (fun (W' : World) (hb : Below w.heap.size w W') => fItoa x hx1.1 hx1.2 W' (HL.out.keep hb))
              obtain ⟨d, hd⟩ : ∃ d, d = dec x := ⟨_, rfl⟩
              rw [← hd] at HIT hdl
              have HLE := Lib.hid (pk_len HR6.out HWW.out.2 (i + 1))
              have OL3 : wr.ownsRow w.heap.size 9 1 (.slice a3 N3 cap3) N3 (((hallL c :: progL 0 p) ++ pk k i).map strV) := owns_len (by have h := HO3.out; unfold OwnS at h; rw [← HN3.out] at h; exact h) rfl rfl
              have HOL3 := Lib.hid OL3
              have HD := Lib.hid hd
              have HX := Lib.hid hx
              have hsum : IntKind.i64.wrap ((i : Int) + 1) = (i : Int) + 1 := IntWalk.i64_in _ (by omega)
              clear hck hu hbr hbk hd hx OL3
              by_cases hm : i % 20 = 0
              · have hm1 : ((i : Int) % 20 == 0) = true := by simp; omega
                have HPK : RowKit.Hid (pk k (i + 1) = pk k i ++ [pickW ++ (32 :: dec k[i])]) := Lib.hid (pk_new hlt3 hm)
                clear hm
                obtain ⟨l, hl⟩ : ∃ q, q = pickW := ⟨_, rfl⟩
                obtain ⟨pv, hpv⟩ : ∃ q : Value, q = .string ⟨#[112, 105, 99, 107]⟩ := ⟨_, rfl⟩
                have hpl2 : pv = strV l := by rw [hpv, hl]
                obtain ⟨z3, hz3⟩ : ∃ q, q = wr.alloc (.cells #[.string ⟨#[112, 105, 99, 107]⟩] 9) := ⟨_, rfl⟩
                have OB : z3.ownsRow w.heap.size 9 1 (.slice a3 N3 cap3) N3 (List.map strV (hallL c :: progL 0 p ++ pk k i)) := by rw [hz3]; exact (HOL3.out).alloc _
                have nb : ∀ j, j < [pv].length → z3.cell? ⟨wr.heap.size, j, none⟩ = [pv][j]? := by rw [hz3, hpv]; exact new_cells wr #[.string ⟨#[112, 105, 99, 107]⟩] 9
                have nbs : w.heap.size ≤ z3.heap.size := by rw [hz3]; simp; have := HV3.out.size; omega
                have o1 : ∀ u ∈ [pv], u.oneCell' = true := fun u hu => by obtain rfl := List.mem_singleton.1 hu; rw [hpv]; rfl
                have BY3 : Bk z3 w.heap.size (sC c (.slice ap p.length cp) (.slice (some ⟨bk, ok, none⟩) k.length ck)) 28 := by rw [hz3]; exact HY3.out.alloc _
                have BB3 : Below w.heap.size w z3 := by rw [hz3]; exact HV3.out.alloc HV3.out.size _
                have hwz : Below wr.heap.size wr z3 := by rw [hz3]; exact (Below.refl _ _).alloc (Nat.le_refl _) _
                have hu3 : z3.cell? ⟨bk, ok + i, none⟩ = some (.int .i64 x) := (hwz.cell (p := ⟨bk, ok + i, none⟩) HBR.out).trans HU.out
                have hb3 := Nat.lt_of_lt_of_le HBR.out hwz.size
                obtain ⟨gn, hgn⟩ : ∃ q, q = wr.heap.size := ⟨_, rfl⟩
                rw [← hgn] at nb
                have HPL := Lib.hid hpl2
                have HPW := Lib.hid hl
                have HBK := Lib.hid hbk0
                clear hl hpl2 hwz hbk0
                go_upto_region 20 with fail
                go_wp2_with (at_builtin; rw [← hz3, ← hgn]; refine append_g elemStr rfl (.tmp 91) (.tmp 92) rfl w.heap.size (.slice a3 N3 cap3) N3 _ rfl OB gn 1 1 [pv] rfl rfl nb o1 (by omega) nbs ?_; intro vv W ON G4 A4; have BYW : Bk W w.heap.size (sC c (.slice ap p.length cp) (.slice (some ⟨bk, ok, none⟩) k.length ck)) 28 := (G4.block w.heap.size BY3.lt (fun e => bk_row BY3 OB (by decide) e.symm)).trans BY3; have BBW := BB3.trans ((Below.refl w.heap.size z3).grown G4 nbs (fun k hk => (World.ownsRow.lt OB k hk).1)); have huW := HBK.out W BBW; have hbW := Nat.lt_of_lt_of_le HBKL.out BBW.size; rw [HPL.out] at ON; obtain ⟨a7, c7, rfl, hc7, hm7⟩ := own_slice ON; clear OB nb nbs o1 BY3 BB3 hz3 hgn hpv G4 A4 hu3 hb3)
                have OW : W.ownsRow w.heap.size 9 1 (.slice a7 (N3 + 1) c7) (N3 + 1) (((hallL c :: progL 0 p ++ pk k i) ++ [l]).map strV) := by rw [List.map_append]; exact ON
                obtain ⟨N, hN⟩ : ∃ N, N = N3 + 1 := ⟨_, rfl⟩
                rw [← hN] at OW ⊢
                have HNM := Lib.hid hN
                clear ON hN
                obtain ⟨LA, hLA⟩ : ∃ q, q = (hallL c :: progL 0 p) ++ pk k i := ⟨_, rfl⟩
                have HPE : RowKit.Hid ((hallL c :: progL 0 p) ++ pk k (i + 1) = LA ++ [l ++ (32 :: d)]) := Lib.hid (by rw [HPK.out, HD.out, HX.out, hLA, HPW.out, ← List.append_assoc])
                rw [← hLA] at OW
                have hlen := HLE.out (l ++ (32 :: d)) (by rw [HPK.out, HD.out, HX.out, HPW.out]; simp)
                have hal : LA.length = N3 := by have h := OW.1; have h2 := HNM.out; simp at h; omega
                obtain ⟨g, cap4, he, hge, hgl, hnc, hcm, hcl⟩ := owns_cells OW (by have := HNM.out; omega)
                injection he with e1 e2 e3
                subst e1 e3
                try clear e2
                have hcell : W.cell? ⟨g, N3, none⟩ = some (strV l) := by
                  rw [hcl N3 (by simp [hal]), List.map_append, List.getElem?_append_right (by simp [hal])]
                  simp [hal]
                have hMN : N3 < N := by have := HNM.out; omega
                have hnm : IntKind.i64.wrap ((N : Int) - 1) = (N3 : Int) := (IntWalk.i64_in _ (by have := HNM.out; omega)).trans (by have := HNM.out; omega)
                have hs1 : ¬ 9223372036854775807 < (l.length : Int) + 1 := by rw [List.length_append] at hlen; omega
                have hs2 : ¬ 9223372036854775807 < (l.length : Int) + 1 + (d.length : Int) := by rw [List.length_append, List.length_cons] at hlen; omega
                have HIW : RowKit.Hid (∀ n : Gr W, Calls Tryz.prog 35 #[.int .i64 x] n.1 fun e w' => e = .returned (strV d) ∧ Below n.1.heap.size n.1 w') := Lib.hid (fun n => HIT.out n.1 (BBW.trans (n.2.mono BBW.size)))
                have HLW := Lib.hid hLA
                have HOW := Lib.hid OW
                have HBYW := Lib.hid BYW
                have HBBW := Lib.hid BBW
                have HALL := Lib.hid hal
                have HGE := Lib.hid hge
                have x9 := BYW.cells
                have l9 := BYW.lt
                have f9 := World.ownsRow.frozenAt OW N3
                have HF9 := Lib.hid f9
                clear hLA hlen hcl OW BYW BBW hal hge f9
                go_upto_region 21 with fail
                refine wp_region_grown_tail 18 (by kernel_rfl) (by kernel_rfl) ?_
                simp only [List.take_succ_cons, List.take_zero, List.drop_succ_cons, List.drop_zero]
                have hg := @gcell
                repeat (go_big_quiet_step (first | exact grown_of (HIW.out _)))
                refine wpQuiet_nil ?_
                rintro w9 ⟨⟨_, hb9⟩, rfl⟩
                have el : ((⟨l.toArray⟩ ++ ⟨#[32]⟩) ++ ⟨d.toArray⟩ : ByteArray) = ⟨(l ++ (32 :: d)).toArray⟩ := by
                  apply ByteArray.ext
                  simp
                rw [el]
                have O9 := owns_below HOW.out hb9 (fun g hg => (World.ownsRow.lt HOW.out g hg).2)
                have hc9 : w9.cell? ⟨g, N3, none⟩ = some (strV l) := (hb9.cell (p := ⟨g, N3, none⟩) hgl).trans hcell
                have f9 := World.ownsRow.frozenAt O9 N3
                have lt9 := Nat.lt_of_lt_of_le hgl hb9.size
                have HNE : RowKit.Hid (N = ((hallL c :: progL 0 p) ++ pk k (i + 1)).length) := Lib.hid (by rw [HPE.out, List.length_append, HALL.out, HNM.out]; rfl)
                have HOE : RowKit.Hid (OwnS w.heap.size (w9.setCell ⟨g, N3, none⟩ (strV (l ++ (32 :: d)))) (.slice (some ⟨g, 0, none⟩) N c7) ((hallL c :: progL 0 p) ++ pk k (i + 1))) := Lib.hid (by
                  unfold OwnS
                  rw [← HNE.out]
                  refine owns_len (World.ownsRow.stored O9 N3 (strV (l ++ (32 :: d)))).1 rfl ?_
                  rw [HPE.out, List.map_append, List.map_append, List.set_append_right _ _ (by simp [HALL.out])]
                  simp [HALL.out])
                have HBE : RowKit.Hid (Below w.heap.size w (w9.setCell ⟨g, N3, none⟩ (strV (l ++ (32 :: d))))) := Lib.hid ((HBBW.out.trans (hb9.mono HBBW.out.size)).setCell (p := ⟨g, N3, none⟩) HGE.out _)
                have HYE : RowKit.Hid (Bk (w9.setCell ⟨g, N3, none⟩ (strV (l ++ (32 :: d)))) w.heap.size (sC c (.slice ap p.length cp) (.slice (some ⟨bk, ok, none⟩) k.length ck)) 28) := Lib.hid ((HBYW.out.keep hb9).setCell_far (a := ⟨g, N3, none⟩) (fun e => bk_row HBYW.out HOW.out (by decide) (by rw [e]; rfl)) _)
                clear hg hb9 x9 l9 el O9 hcell hs1 hs2
                go_wp2
                go_roundw
                case rel => exact ⟨i + 1, some ⟨g, 0, none⟩, c7, N, by omega, by go_num, rfl, HNE, HOE, HBE, HYE⟩
                case measure => simp [intOf]; omega
              · have hm1 : ((i : Int) % 20 == 0) = false := by simp; omega
                obtain ⟨A, l, hA1, hA2⟩ := pk_more hlt3 hm
                clear hm
                have OW0 := HOL3.out
                rw [hA1, ← List.append_assoc] at OW0
                obtain ⟨M, hM⟩ : ∃ M, N3 = M + 1 := ⟨N3 - 1, by have h := OW0.1; simp at h; omega⟩
                have OW : wr.ownsRow w.heap.size 9 1 (.slice a3 N3 cap3) N3 (((hallL c :: progL 0 p) ++ A ++ [l]).map strV) := OW0
                have HNM := Lib.hid hM
                have BYW := HY3.out
                have BBW := HV3.out
                have huW := HU.out
                have hbW := HBR.out
                clear OW0 hbk0 hM
                obtain ⟨LA, hLA⟩ : ∃ q, q = (hallL c :: progL 0 p) ++ A := ⟨_, rfl⟩
                have HPE : RowKit.Hid ((hallL c :: progL 0 p) ++ pk k (i + 1) = LA ++ [l ++ (32 :: d)]) := Lib.hid (by rw [hA2, HD.out, HX.out, hLA, ← List.append_assoc])
                rw [← hLA] at OW
                have hlen := HLE.out (l ++ (32 :: d)) (by rw [hA2, HD.out, HX.out]; simp)
                have hal : LA.length = M := by have h := OW.1; have h2 := HNM.out; simp at h; omega
                obtain ⟨g, cap4, he, hge, hgl, hnc, hcm, hcl⟩ := owns_cells OW (by have := HNM.out; omega)
                injection he with e1 e2 e3
                subst e1 e3
                try clear e2
                have hcell : wr.cell? ⟨g, M, none⟩ = some (strV l) := by
                  rw [hcl M (by simp [hal]), List.map_append, List.getElem?_append_right (by simp [hal])]
                  simp [hal]
                have hMN : M < N3 := by have := HNM.out; omega
                have hnm : IntKind.i64.wrap ((N3 : Int) - 1) = (M : Int) := (IntWalk.i64_in _ (by have := HNM.out; omega)).trans (by have := HNM.out; omega)
                have hs1 : ¬ 9223372036854775807 < (l.length : Int) + 1 := by rw [List.length_append] at hlen; omega
                have hs2 : ¬ 9223372036854775807 < (l.length : Int) + 1 + (d.length : Int) := by rw [List.length_append, List.length_cons] at hlen; omega
                have HIW : RowKit.Hid (∀ n : Gr wr, Calls Tryz.prog 35 #[.int .i64 x] n.1 fun e w' => e = .returned (strV d) ∧ Below n.1.heap.size n.1 w') := Lib.hid (fun n => HIT.out n.1 (BBW.trans (n.2.mono BBW.size)))
                have HLW := Lib.hid hLA
                have HOW := Lib.hid OW
                have HBYW := Lib.hid BYW
                have HBBW := Lib.hid BBW
                have HALL := Lib.hid hal
                have HGE := Lib.hid hge
                have x9 := BYW.cells
                have l9 := BYW.lt
                have f9 := World.ownsRow.frozenAt OW M
                have HF9 := Lib.hid f9
                clear hLA hlen hcl OW BYW BBW hal hge f9
                go_upto_region 21 with fail
                refine wp_region_grown_tail 18 (by kernel_rfl) (by kernel_rfl) ?_
                simp only [List.take_succ_cons, List.take_zero, List.drop_succ_cons, List.drop_zero]
                have hg := @gcell
                repeat (go_big_quiet_step (first | exact grown_of (HIW.out _)))
                refine wpQuiet_nil ?_
                rintro w9 ⟨⟨_, hb9⟩, rfl⟩
                have el : ((⟨l.toArray⟩ ++ ⟨#[32]⟩) ++ ⟨d.toArray⟩ : ByteArray) = ⟨(l ++ (32 :: d)).toArray⟩ := by
                  apply ByteArray.ext
                  simp
                rw [el]
                have O9 := owns_below HOW.out hb9 (fun g hg => (World.ownsRow.lt HOW.out g hg).2)
                have hc9 : w9.cell? ⟨g, M, none⟩ = some (strV l) := (hb9.cell (p := ⟨g, M, none⟩) hgl).trans hcell
                have f9 := World.ownsRow.frozenAt O9 M
                have lt9 := Nat.lt_of_lt_of_le hgl hb9.size
                have HNE : RowKit.Hid (N3 = ((hallL c :: progL 0 p) ++ pk k (i + 1)).length) := Lib.hid (by rw [HPE.out, List.length_append, HALL.out, HNM.out]; rfl)
                have HOE : RowKit.Hid (OwnS w.heap.size (w9.setCell ⟨g, M, none⟩ (strV (l ++ (32 :: d)))) (.slice (some ⟨g, 0, none⟩) N3 cap3) ((hallL c :: progL 0 p) ++ pk k (i + 1))) := Lib.hid (by
                  unfold OwnS
                  rw [← HNE.out]
                  refine owns_len (World.ownsRow.stored O9 M (strV (l ++ (32 :: d)))).1 rfl ?_
                  rw [HPE.out, List.map_append, List.map_append, List.set_append_right _ _ (by simp [HALL.out])]
                  simp [HALL.out])
                have HBE : RowKit.Hid (Below w.heap.size w (w9.setCell ⟨g, M, none⟩ (strV (l ++ (32 :: d))))) := Lib.hid ((HBBW.out.trans (hb9.mono HBBW.out.size)).setCell (p := ⟨g, M, none⟩) HGE.out _)
                have HYE : RowKit.Hid (Bk (w9.setCell ⟨g, M, none⟩ (strV (l ++ (32 :: d)))) w.heap.size (sC c (.slice ap p.length cp) (.slice (some ⟨bk, ok, none⟩) k.length ck)) 28) := Lib.hid ((HBYW.out.keep hb9).setCell_far (a := ⟨g, M, none⟩) (fun e => bk_row HBYW.out HOW.out (by decide) (by rw [e]; rfl)) _)
                clear hg hb9 x9 l9 el O9 hcell hs1 hs2
                go_wp2
                go_roundw
                case rel => exact ⟨i + 1, some ⟨g, 0, none⟩, cap3, N3, by omega, by go_num, rfl, HNE, HOE, HBE, HYE⟩
                case measure => simp [intOf]; omega
            · obtain rfl : i = k.length := by omega
              have HLL : RowKit.Hid ((hallL c :: progL 0 p) ++ pk k k.length = lines ⟨c, p, k⟩) := Lib.hid (by rw [pk_all]; rfl)
              have HPZ : RowKit.Hid (0 < N3) := Lib.hid (by rw [HN3.out, List.length_append, List.length_cons]; omega)
              go_wp2_with fail
              have hO := HO3.out
              have hNN := HN3.out
              rw [HLL.out] at hO hNN
              unfold OwnS at hO
              rw [← hNN] at hO
              obtain ⟨g, cap4, he, h1, h2, h3, h4, h5⟩ := owns_cells hO HPZ.out
              injection he with e1 e2 e3
              subst e1 e3
              go_ret
              refine ⟨g, 0, _, by rw [hNN]; rfl, h2, fun j hj => ?_, by rw [← hNN]; exact h3, h4, HV3.out⟩
              rw [Nat.zero_add, h5 j (by rw [List.length_map]; exact hj), List.getElem?_map, List.getElem?_eq_getElem hj]
              rfl
end Go.Proofs.YtpmcedfeiconfaaGreatDoor.Scw

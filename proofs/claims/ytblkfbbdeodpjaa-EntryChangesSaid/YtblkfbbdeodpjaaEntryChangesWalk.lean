/- The law EntryChanges (made by genec.py). -/
import Derived.Test.YtblkfbbdeodpjaaEcNum
import Derived.Test.YtblkfbbdeodpjaaEntryAwake
import Derived.Test.YtblkfbbdeodpjaaBoth
import Derived.Test.YtblkfbbdeodpjaaNilEntry
import Derived.Test.YtblkfbbdeodpjaaSts
namespace Go.Proofs.Ytblkfbbdeodpjaa.Me
open Go Go.RowKit Go.Proofs.Ytblkfbbdeodpjaa.Gro Go.Proofs.Ytblkfbbdeodpjaa.Own Go.Proofs.Ytblkfbbdeodpjaa.Wd Go.Proofs.Ytblkfbbdeodpjaa.Ap Go.Proofs.Ytblkfbbdeodpjaa.Pl Go.Proofs.Ytblkfbbdeodpjaa.Wo
set_option linter.unusedVariables false
set_option linter.unusedSimpArgs false
structure Ecw (w0 : World) (c : Cfg) (g gl cp gx : Nat) (a : Acc) (L : List Int) (s : Wk) (w : World) : Prop where
  C : Bk w w0.heap.size (ccM c) 24
  M : MemAt w0.heap.size w g c a gl cp L
  X : Bk w gx (wc s) 46
  hb : Below w0.heap.size w0 w
  n1 : w0.heap.size < g
  n2 : w0.heap.size < gl
  n3 : gx ≠ g
  n4 : gx ≠ gl
  n5 : w0.heap.size < gx
section
variable {w0 w u : World} {c : Cfg} {g gl cp gx : Nat} {a a' : Acc} {L L' : List Int} {s s' : Wk}
theorem Ecw.keep (h : Ecw w0 c g gl cp gx a L s w) (hb : Below w.heap.size w u) : Ecw w0 c g gl cp gx a L s u :=
  ⟨h.C.keep hb, h.M.keep hb, h.X.keep hb, h.hb.trans (hb.mono h.hb.size), h.n1, h.n2, h.n3, h.n4, h.n5⟩
theorem Ecw.step (h : Ecw w0 c g gl cp gx a L s w) (M' : MemAt w0.heap.size u g c a' gl cp L') (T : Touch g gl w u) (s' : Wk) : Ecw w0 c g gl cp gx a' L' s' (u.setRow gx (wc s')) :=
  have e := h.n1
  have e2 := h.n2
  have e5 := h.n5
  have e3 := h.n3
  have e4 := h.n4
  ⟨(T.bk h.C (by omega) (by omega)).setRow_far (by omega) _, M'.apart (g' := gx) (gl' := gx) ((Touch.refl gx gx u).setRow _) (by omega) (by omega) (by omega) (by omega), (T.bk h.X h.n3 h.n4).setRow _, below_setRow (h.hb.trans (T.below (base := w0.heap.size) (by omega) (by omega) h.hb.size)) (by omega) _, h.n1, h.n2, h.n3, h.n4, h.n5⟩
theorem Ecw.set (h : Ecw w0 c g gl cp gx a L s w) (j : Nat) (v : Value) (e : (wc s).setIfInBounds j v = wc s') : Ecw w0 c g gl cp gx a L s' (w.setCell ⟨gx, j, none⟩ v) :=
  have e1 := h.n1
  have e2 := h.n2
  have e5 := h.n5
  have e3 := h.n3
  have e4 := h.n4
  ⟨h.C.setCell_far (a := ⟨gx, j, none⟩) (by simp; omega) v, h.M.apart (g' := gx) (gl' := gx) ((Touch.refl gx gx w).setCell (.inl rfl) v) (by omega) (by omega) (by omega) (by omega), e ▸ h.X.setCell j v, h.hb.setCell (p := ⟨gx, j, none⟩) (by show w0.heap.size ≤ gx; omega) v, h.n1, h.n2, h.n3, h.n4, h.n5⟩
end
theorem z0r : (0 : Int) ≤ 0 ∧ (0 : Int) < 18446744073709551616 := by decide
theorem prE {p : Pl} (h1 : p.ep = 0) (h2 : p.h = 0) (h3 : p.n = 0) (h4 : 0 ≤ p.v ∧ p.v < 18446744073709551616) (h5 : p.u = 0) (h6 : p.g = 0) (h7 : 0 ≤ p.t ∧ p.t < 18446744073709551616) : PR p := by
  constructor <;> first | assumption | omega
set_option maxRecDepth 100000 in
set_option maxHeartbeats 16000000 in
theorem ecC_no (c : Cfg) (hf : c.Wf) (ad : Option Addr) (n cap : Nat) (t q : Int) (ht : 0 ≤ t ∧ t < 18446744073709551616) (w : World) (HB : RowKit.Hid (∀ {w0 : World}, Below w.heap.size w w0 → Calls Try.prog 20 #[cv c, .slice ad n cap] w0 (BothNo w0))) : Calls Try.prog 12 #[cv c, .slice ad n cap, .int .u64 t, .int .u8 q] w fun e w' => e = .returned (.bool true) ∧ Below w.heap.size w w' := by
  have C0 := Bk.new w (ccM c) 24
  have hw0 : Below w.heap.size w (w.alloc (.cells (ccM c) 24)) := (Below.refl _ _).alloc (Nat.le_refl _) _
  go_enter Try.func12, Try.ntmps12
  go_wp2_with fail
  refine (awake11 _).mono ?_
  rintro e w1 ⟨rfl, hb1⟩
  have C1 := C0.keep hb1
  have hw1 := hw0.trans (hb1.mono hw0.size)
  clear C0 hw0 hb1
  go_wp2_with (refine wpList_load_row rfl 24 _ rfl w.heap.size rfl _ (ccM c) (0, 0) _ (by exact C1) Try.underlying24 rfl (by kernel_rfl) ?_)
  refine (HB.out hw1).mono ?_
  rintro e w2 ⟨⟨v1, v2, rfl⟩, hb2⟩
  have hw2 := hw1.trans (hb2.mono hw1.size)
  go_wp2
  go_ret
  exact ⟨rfl, hw2⟩
set_option maxRecDepth 100000 in
set_option maxHeartbeats 16000000 in
theorem ecC_ill (c : Cfg) (hf : c.Wf) (ad : Option Addr) (n cap : Nat) (t q : Int) (ht : 0 ≤ t ∧ t < 18446744073709551616) (L : List Int) (hm : L.length ≤ 1000) (hL : WR L) (w : World) (hr : Reads w .u64 (.slice ad n cap) L) (HB : RowKit.Hid (∀ {w0 : World}, Below w.heap.size w w0 → Calls Try.prog 20 #[cv c, .slice ad n cap] w0 (BothYes c L w0))) (hg : goodB c t = false) : Calls Try.prog 12 #[cv c, .slice ad n cap, .int .u64 t, .int .u8 q] w fun e w' => e = .returned (.bool true) ∧ Below w.heap.size w w' := by
  obtain ⟨I, hI⟩ : ∃ I, lvI c L t = I := ⟨_, rfl⟩
  obtain ⟨B, hB⟩ : ∃ B, lvB c L t = B := ⟨_, rfl⟩
  have HRL : RowKit.Hid (∀ w', Below w.heap.size w w' → Calls Try.prog 43 #[cv c, .slice ad n cap, .int .u64 t] w' (LvRet (.tuple #[.int .i64 I, .bool B]) w')) := Lib.hid (fun w' hb => by
    have := rLive c hf (v := ⟨ad, n, cap⟩) (hr.keep hb) hL t ht
    unfold LvPost at this
    rwa [hI, hB] at this)
  have HG := Lib.hid (fun w' => hg ▸ rGood c hf t ht w')
  have H60 := Lib.hid (fun (w' : World) g gl cp (M : MemAt w.heap.size w' g c a0 gl cp L) => entryStepAny M hf hm hL { wz with p := ({ pz with ln := 60, t := t } : Pl) } { zS with p := ({ pz with ln := 60, t := t } : Pl) } (few_z6 _) (lies_z6 _ _) (prE rfl rfl rfl z0r rfl rfl ht))
  have hbd60 : ∀ w, (Instr.build 46 #[(0, .int .i64 60), (19, .int .u64 t)]).run Try.prog w = .ok (wv ({ wz with p := { pz with ln := 60, t := t } } : Wk)) w := fun w => run_build w _ _ _ (by kernel_rfl)
  generalize (entryLn c a0 L ({ pz with ln := 60, t := t } : Pl)).fin = r at *
  clear hI hB hr hL hm hg
  have C0 := Bk.new w (ccM c) 24
  have hw0 : Below w.heap.size w (w.alloc (.cells (ccM c) 24)) := (Below.refl _ _).alloc (Nat.le_refl _) _
  go_enter Try.func12, Try.ntmps12
  go_wp2_with fail
  refine (awake11 _).mono ?_
  rintro e w1 ⟨rfl, hb1⟩
  have C1 := C0.keep hb1
  have hw1 := hw0.trans (hb1.mono hw0.size)
  clear C0 hw0 hb1
  go_wp2_with (refine wpList_load_row rfl 24 _ rfl w.heap.size rfl _ (ccM c) (0, 0) _ (by exact C1) Try.underlying24 rfl (by kernel_rfl) ?_)
  refine (HB.out hw1).mono ?_
  rintro e w2 ⟨g, gl, cp, g2, gl2, cp2, rfl, B2⟩
  have M2 := MemAt.base B2.M (B' := w.heap.size) hw1.size
  have lc1 := C1.lt
  have n1 := B2.M.g0
  have n2 := B2.M.gl0
  have C2 := C1.keep B2.below
  have hw2 := hw1.trans (B2.below.mono hw1.size)
  clear B2 C1 hw1
  go_wp2_with (refine wpList_load_row rfl 24 _ rfl w.heap.size rfl _ (ccM c) (0, 0) _ (by exact C2) Try.underlying24 rfl (by kernel_rfl) ?_)
  refine (HRL.out _ hw2).mono ?_
  rintro e w3 ⟨rfl, hb3⟩
  have C3 := C2.keep hb3
  have M3 := M2.keep hb3
  have hw3 := hw2.trans (hb3.mono hw2.size)
  have lt3 := M3.lt
  clear C2 M2 hw2 hb3
  obtain HS := H60.out _ _ _ _ M3
  have HSH := Lib.hid HS
  clear HS
  go_wp2_with fail
  refine HSH.out.mono ?_
  rintro e u1 ⟨s1, rfl, A1, M4, T4⟩
  have hp1 := A1.p
  have C4 := T4.bk C3 (by omega) (by omega)
  have hw4 := hw3.trans (T4.below (base := w.heap.size) (by omega) (by omega) hw3.size)
  have Z4 := Bk.new u1 (wc wz) 46
  have X5 := boxed_bk u1 s1
  have bb := boxed_below u1 s1
  have C5 := C4.keep bb
  have M5 := M4.keep bb
  have hw5 := hw4.trans (bb.mono hw4.size)
  have lm4 := M4.lt
  obtain ⟨u2, hu2⟩ : ∃ u, u = (u1.alloc (.cells (wc wz) 46)).setRow u1.heap.size (wc s1) := ⟨_, rfl⟩
  rw [← hu2] at X5 C5 M5 hw5
  have sz3 := hw3.size
  have sz4 := T4.size
  have E5 : Ecw w c g gl cp u1.heap.size _ _ s1 u2 := ⟨C5, M5, X5, hw5, by omega, by omega, by omega, by omega, by have := C4.lt; omega⟩
  clear bb HSH A1 M4 T4 C3 hw3 M3 C4 hw4 M5 C5 hw5
  go_wp2_with (first | ((with_reducible refine wpList_alloc_wz rfl rfl ?_)) | (refine wpList_store_row rfl 46 _ _ rfl (u1.heap.size) (wc s1) rfl rfl _ _ (by exact Z4) (by kernel_rfl) (by kernel_rfl) (by kernel_rfl) ?_; rw [← hu2]; clear hu2 Z4) | (refine wpList_load_row rfl 24 _ rfl w.heap.size rfl _ (ccM c) (0, 0) _ (by exact E5.C) Try.underlying24 rfl (by kernel_rfl) ?_))
  refine (HG.out _).mono ?_
  rintro e w6 ⟨rfl, hb6⟩
  have E6 := E5.keep hb6
  clear E5 hb6
  go_wp2
  go_ret
  exact ⟨rfl, E6.hb⟩
set_option maxRecDepth 100000 in
set_option maxHeartbeats 16000000 in
theorem ecC_lost (c : Cfg) (hf : c.Wf) (ad : Option Addr) (n cap : Nat) (t q : Int) (ht : 0 ≤ t ∧ t < 18446744073709551616) (L : List Int) (hm : L.length ≤ 1000) (hL : WR L) (w : World) (hr : Reads w .u64 (.slice ad n cap) L) (HB : RowKit.Hid (∀ {w0 : World}, Below w.heap.size w w0 → Calls Try.prog 20 #[cv c, .slice ad n cap] w0 (BothYes c L w0))) (h : chk c = 0) (hs : (L.length : Int) = siz c) (hg : goodB c t = true) (hl : lvB c L t = false) : Calls Try.prog 12 #[cv c, .slice ad n cap, .int .u64 t, .int .u8 q] w fun e w' => e = .returned (.bool true) ∧ Below w.heap.size w w' := by
  obtain ⟨j, hj, hjl⟩ := ec_adr h hs hg
  have er := fun a : Acc => ec_lost (a := a) hj hjl (by rw [← lv_good h hs hg]; exact hl)
  obtain ⟨I, hI⟩ : ∃ I, lvI c L t = I := ⟨_, rfl⟩
  obtain ⟨B, hB⟩ : ∃ B, lvB c L t = B := ⟨_, rfl⟩
  have HRL : RowKit.Hid (∀ w', Below w.heap.size w w' → Calls Try.prog 43 #[cv c, .slice ad n cap, .int .u64 t] w' (LvRet (.tuple #[.int .i64 I, .bool B]) w')) := Lib.hid (fun w' hb => by
    have := rLive c hf (v := ⟨ad, n, cap⟩) (hr.keep hb) hL t ht
    unfold LvPost at this
    rwa [hI, hB] at this)
  rw [hl] at hB
  subst hB
  have HG := Lib.hid (fun w' => hg ▸ rGood c hf t ht w')
  have H60 := Lib.hid (fun (w' : World) g gl cp (M : MemAt w.heap.size w' g c a0 gl cp L) => er a0 ▸ entryStepAny M hf hm hL { wz with p := ({ pz with ln := 60, t := t } : Pl) } { zS with p := ({ pz with ln := 60, t := t } : Pl) } (few_z6 _) (lies_z6 _ _) (prE rfl rfl rfl z0r rfl rfl ht))
  have hbd60 : ∀ w, (Instr.build 46 #[(0, .int .i64 60), (19, .int .u64 t)]).run Try.prog w = .ok (wv ({ wz with p := { pz with ln := 60, t := t } } : Wk)) w := fun w => run_build w _ _ _ (by kernel_rfl)
  generalize acc L 1 (aEnt c (t % 65536 - 1)) 0 0 = ra at *
  clear hI hr hL hm hg h hs hl er hj hjl
  have C0 := Bk.new w (ccM c) 24
  have hw0 : Below w.heap.size w (w.alloc (.cells (ccM c) 24)) := (Below.refl _ _).alloc (Nat.le_refl _) _
  go_enter Try.func12, Try.ntmps12
  go_wp2_with fail
  refine (awake11 _).mono ?_
  rintro e w1 ⟨rfl, hb1⟩
  have C1 := C0.keep hb1
  have hw1 := hw0.trans (hb1.mono hw0.size)
  clear C0 hw0 hb1
  go_wp2_with (refine wpList_load_row rfl 24 _ rfl w.heap.size rfl _ (ccM c) (0, 0) _ (by exact C1) Try.underlying24 rfl (by kernel_rfl) ?_)
  refine (HB.out hw1).mono ?_
  rintro e w2 ⟨g, gl, cp, g2, gl2, cp2, rfl, B2⟩
  have M2 := MemAt.base B2.M (B' := w.heap.size) hw1.size
  have lc1 := C1.lt
  have n1 := B2.M.g0
  have n2 := B2.M.gl0
  have C2 := C1.keep B2.below
  have hw2 := hw1.trans (B2.below.mono hw1.size)
  clear B2 C1 hw1
  go_wp2_with (refine wpList_load_row rfl 24 _ rfl w.heap.size rfl _ (ccM c) (0, 0) _ (by exact C2) Try.underlying24 rfl (by kernel_rfl) ?_)
  refine (HRL.out _ hw2).mono ?_
  rintro e w3 ⟨rfl, hb3⟩
  have C3 := C2.keep hb3
  have M3 := M2.keep hb3
  have hw3 := hw2.trans (hb3.mono hw2.size)
  have lt3 := M3.lt
  clear C2 M2 hw2 hb3
  obtain HS := H60.out _ _ _ _ M3
  have HSH := Lib.hid HS
  clear HS
  go_wp2_with fail
  refine HSH.out.mono ?_
  rintro e u1 ⟨s1, rfl, A1, M4, T4⟩
  have hp1 := A1.p
  have C4 := T4.bk C3 (by omega) (by omega)
  have hw4 := hw3.trans (T4.below (base := w.heap.size) (by omega) (by omega) hw3.size)
  have Z4 := Bk.new u1 (wc wz) 46
  have X5 := boxed_bk u1 s1
  have bb := boxed_below u1 s1
  have C5 := C4.keep bb
  have M5 := M4.keep bb
  have hw5 := hw4.trans (bb.mono hw4.size)
  have lm4 := M4.lt
  obtain ⟨u2, hu2⟩ : ∃ u, u = (u1.alloc (.cells (wc wz) 46)).setRow u1.heap.size (wc s1) := ⟨_, rfl⟩
  rw [← hu2] at X5 C5 M5 hw5
  have sz3 := hw3.size
  have sz4 := T4.size
  have E5 : Ecw w c g gl cp u1.heap.size _ _ s1 u2 := ⟨C5, M5, X5, hw5, by omega, by omega, by omega, by omega, by have := C4.lt; omega⟩
  clear bb HSH A1 M4 T4 C3 hw3 M3 C4 hw4 M5 C5 hw5
  go_wp2_with (first | ((with_reducible refine wpList_alloc_wz rfl rfl ?_)) | (refine wpList_store_row rfl 46 _ _ rfl (u1.heap.size) (wc s1) rfl rfl _ _ (by exact Z4) (by kernel_rfl) (by kernel_rfl) (by kernel_rfl) ?_; rw [← hu2]; clear hu2 Z4) | (refine wpList_load_row rfl 24 _ rfl w.heap.size rfl _ (ccM c) (0, 0) _ (by exact E5.C) Try.underlying24 rfl (by kernel_rfl) ?_))
  refine (HG.out _).mono ?_
  rintro e w6 ⟨rfl, hb6⟩
  have E6 := E5.keep hb6
  clear E5 hb6
  go_wp2
  go_ret
  exact ⟨rfl, E6.hb⟩
set_option maxRecDepth 100000 in
set_option maxHeartbeats 16000000 in
theorem ecC_main (c : Cfg) (hf : c.Wf) (ad : Option Addr) (n cap : Nat) (t q : Int) (ht : 0 ≤ t ∧ t < 18446744073709551616) (L : List Int) (hm : L.length ≤ 1000) (hL : WR L) (w : World) (hr : Reads w .u64 (.slice ad n cap) L) (HB : RowKit.Hid (∀ {w0 : World}, Below w.heap.size w w0 → Calls Try.prog 20 #[cv c, .slice ad n cap] w0 (BothYes c L w0))) (h : chk c = 0) (hs : (L.length : Int) = siz c) (hg : goodB c t = true) (hl : lvB c L t = true) (hq : 0 ≤ q ∧ q < 256) : Calls Try.prog 12 #[cv c, .slice ad n cap, .int .u64 t, .int .u8 q] w fun e w' => e = .returned (.bool true) ∧ Below w.heap.size w w' := by
  obtain ⟨j, hj, hjl⟩ := ec_adr h hs hg
  have hgood := good_has hg
  have hla := (chk_ok.1 h).la
  have hen : enB (lvW c L t) (t / 65536) = true := by rw [← lv_good h hs hg]; exact hl
  have hV0 : ldV L (aEnt c (t % 65536 - 1)) = lvW c L t := ec_ld hj hjl
  have hVr : 0 ≤ lvW c L t ∧ lvW c L t < 18446744073709551616 := by rw [← hV0]; exact ldV_wr hL _
  have hI : lvI c L t = lvW c L t / 16 % 65536 - 1 := by rw [lvI, if_pos hl]
  have er60 := fun a : Acc => ec_find (a := a) hj hjl hen 60 (.inl rfl)
  have er44 := fun a : Acc => ec_find (a := a) hj hjl hen 44 (.inr (.inl rfl))
  have er45 := fun a : Acc => ec_45 (a := a) hj hjl (q % 40 + 1) (lvW c L t / 16 % 65536)
  have hwq : wrap64 (q % 40 + 1 - 1) = q % 40 := by unfold wrap64; omega
  rw [hwq] at er45
  obtain ⟨L1, hL1e⟩ : ∃ L1, L1 = csL L (aEnt c (t % 65536 - 1)) (lvW c L t) (Pk.en (t / 65536) (q % 40) 1) := ⟨_, rfl⟩
  have hn1 : lvW c L1 t = Pk.en (t / 65536) (q % 40) 1 := by rw [hL1e]; exact ec_new hj hjl _
  have hlen1 : L1.length = L.length := by rw [hL1e]; exact csL_len _ _ _
  have hL1 : WR L1 := by rw [hL1e]; exact csL_wr hL _ _ (Pk.en_rng _ _ _).1 (Pk.en_rng _ _ _).2
  have hm1 : L1.length ≤ 1000 := by omega
  have hjl1 : j < L1.length := by omega
  have hbk := ec_back (g := t / 65536) (q := q % 40) (by omega) (by omega)
  rw [← hL1e] at er45
  have hE1r := Pk.en_rng (t / 65536) (q % 40) 1
  obtain ⟨E1, hE1⟩ : ∃ E1, E1 = Pk.en (t / 65536) (q % 40) 1 := ⟨_, rfl⟩
  rw [← hE1] at hn1 hbk hE1r er45
  have hs1 : (L1.length : Int) = siz c := by omega
  have hlv1 : lvB c L1 t = true := by rw [lv_good h hs1 hg, hn1]; exact hbk.1
  have hli1 : lvI c L1 t = q % 40 := by rw [lvI, if_pos hlv1, hn1, hbk.2]; omega
  have er42 := fun a : Acc => ec_find (a := a) hj hjl1 (by rw [hn1]; exact hbk.1) 42 (.inr (.inr rfl))
  have er43 := fun a : Acc => ec_43 (a := a) hj hjl1 (E1 / 16 % 65536)
  rw [hn1] at er42 er43
  obtain ⟨L2, hL2e⟩ : ∃ L2, L2 = csL L1 (aEnt c (t % 65536 - 1)) E1 (ecE c t) := ⟨_, rfl⟩
  have hn2 : lvW c L2 t = ecE c t := by rw [hL2e, ← hn1]; exact ec_new hj hjl1 _
  have hlen2 : L2.length = L.length := by rw [hL2e, csL_len]; exact hlen1
  have hd2 := fun g => ec_dead (c := c) (t := t) g (by omega)
  have hL2 : WR L2 := by rw [hL2e]; exact csL_wr hL1 _ _ (hd2 0).2.1 (hd2 0).2.2.1
  rw [← hL2e] at er43
  have hs2 : (L2.length : Int) = siz c := by omega
  have hlv2 : lvB c L2 t = false := by rw [lv_good h hs2 hg, hn2]; exact (hd2 _).1
  have hli2 := lv_no hlv2
  have hpk : ldV L2 (aEnt c (t % 65536 - 1)) = ecE c t := by rw [← hn2]; exact ec_ld hj (by omega)
  obtain ⟨V, hV⟩ : ∃ V, V = lvW c L t := ⟨_, rfl⟩
  rw [← hV] at hVr hI er60 er44 er45
  have hm2 : L2.length ≤ 1000 := by omega
  have HVR := hVr
  have HM1 := Lib.hid hm1
  have HM2 := Lib.hid hm2
  have HRL : RowKit.Hid (∀ w', Below w.heap.size w w' → Calls Try.prog 43 #[cv c, .slice ad n cap, .int .u64 t] w' (LvRet (.tuple #[.int .i64 (V / 16 % 65536 - 1), .bool true]) w')) := Lib.hid (fun w' hb => by
    have := rLive c hf (v := ⟨ad, n, cap⟩) (hr.keep hb) hL t ht
    unfold LvPost at this
    rwa [hI, hl] at this)
  have HG := Lib.hid (fun w' => hg ▸ rGood c hf t ht w')
  have H60 := Lib.hid (fun (w' : World) g gl cp (M : MemAt w.heap.size w' g c a0 gl cp L) => er60 a0 ▸ entryStepAny M hf hm hL { wz with p := ({ pz with ln := 60, t := t } : Pl) } { zS with p := ({ pz with ln := 60, t := t } : Pl) } (few_z6 _) (lies_z6 _ _) (prE rfl rfl rfl z0r rfl rfl ht))
  have hbd60 : ∀ w, (Instr.build 46 #[(0, .int .i64 60), (19, .int .u64 t)]).run Try.prog w = .ok (wv ({ wz with p := { pz with ln := 60, t := t } } : Wk)) w := fun w => run_build w _ _ _ (by kernel_rfl)
  have hbd44 : ∀ w, (Instr.build 46 #[(0, .int .i64 44), (19, .int .u64 t)]).run Try.prog w = .ok (wv ({ wz with p := { pz with ln := 44, t := t } } : Wk)) w := fun w => run_build w _ _ _ (by kernel_rfl)
  have hbd42 : ∀ w, (Instr.build 46 #[(0, .int .i64 42), (19, .int .u64 t)]).run Try.prog w = .ok (wv ({ wz with p := { pz with ln := 42, t := t } } : Wk)) w := fun w => run_build w _ _ _ (by kernel_rfl)
  have H44 := Lib.hid (fun (w' : World) g gl cp a (M : MemAt w.heap.size w' g c a gl cp L) => er44 a ▸ entryStepAny M hf hm hL { wz with p := ({ pz with ln := 44, t := t } : Pl) } { zS with p := ({ pz with ln := 44, t := t } : Pl) } (few_z6 _) (lies_z6 _ _) (prE rfl rfl rfl z0r rfl rfl ht))
  have H45 := Lib.hid (fun (w' : World) g gl cp a (M : MemAt w.heap.size w' g c a gl cp L) (s : Wk) (hl : Lies w' s { zS with p := ({ pz with ln := 45, t := t, v := V, c := V / 16 % 65536, b := q % 40 + 1 } : Pl) }) => er45 a ▸ entryStepAny M hf hm hL s { zS with p := ({ pz with ln := 45, t := t, v := V, c := V / 16 % 65536, b := q % 40 + 1 } : Pl) } (few_z6 _) hl (prE rfl rfl rfl HVR rfl rfl ht))
  have HVR := hE1r
  have H42 := Lib.hid (fun (w' : World) g gl cp a (M : MemAt w.heap.size w' g c a gl cp L1) => er42 a ▸ entryStepAny M hf hm1 hL1 { wz with p := ({ pz with ln := 42, t := t } : Pl) } { zS with p := ({ pz with ln := 42, t := t } : Pl) } (few_z6 _) (lies_z6 _ _) (prE rfl rfl rfl z0r rfl rfl ht))
  have H43 := Lib.hid (fun (w' : World) g gl cp a (M : MemAt w.heap.size w' g c a gl cp L1) (s : Wk) (hl : Lies w' s { zS with p := ({ pz with ln := 43, t := t, v := E1, c := E1 / 16 % 65536 } : Pl) }) => er43 a ▸ entryStepAny M hf hm1 hL1 s { zS with p := ({ pz with ln := 43, t := t, v := E1, c := E1 / 16 % 65536 } : Pl) } (few_z6 _) hl (prE rfl rfl rfl HVR rfl rfl ht))
  have HE1 : RowKit.Hid (∀ (v : Sl) w', Reads w' .u64 v.v L1 → Calls Try.prog 42 #[cv c, v.v, .int .u64 t] w' (LvRet (.tuple #[.int .i64 (q % 40), .bool true]) w')) := Lib.hid (fun v w' hr => by
    have := eLive c hf (v := v) hr hL1 t ht
    unfold LvPost at this
    rwa [hli1, hlv1] at this)
  have HE2 : RowKit.Hid (∀ (v : Sl) w', Reads w' .u64 v.v L2 → Calls Try.prog 42 #[cv c, v.v, .int .u64 t] w' (LvRet (.tuple #[.int .i64 (-1), .bool false]) w')) := Lib.hid (fun v w' hr => by
    have := eLive c hf (v := v) hr hL2 t ht
    unfold LvPost at this
    rwa [hli2, hlv2] at this)
  have HUT := Lib.hid (fun w => Pk.runticket t ht.1 ht.2 w)
  have HAN := Lib.hid (fun w => Pl.entry c hf (t % 65536 - 1) w)
  have HPK : RowKit.Hid (∀ (B : Nat) (w : World) (g gl cap : Nat) (a : Acc) (M : MemAt B w g c a gl cap L2), _) := Lib.hid (fun B w g gl cap a M => hpk ▸ peek_any M hm2 (aEnt c (t % 65536 - 1)))
  have HUE := Lib.hid (fun w => Pk.runentry (ecE c t) (hd2 0).2.1 (hd2 0).2.2.1 w)
  have hnone : ecE c t / 16 % 65536 - 1 = -1 := by rw [(hd2 0).2.2.2.1]; rfl
  have hyes := (hd2 0).2.2.2.2.1
  have hno := (hd2 0).2.2.2.2.2
  have hc1 : (V / 16 % 65536 != wrap64 (V / 16 % 65536 - 1 + 1)) = false := by
    rw [IntWalk.wrap64_in _ (by omega)]
    simp
  clear er60 er44 er45 er42 er43 hlv1 hli1 hlv2 hli2 hd2 hpk hn1 hn2 hL1 hL2 hL1e hL2e hbk hE1 hV hI hlen1 hlen2 hs1 hs2 hVr hE1r HVR hL hm1 hm2 hm hr hg h hs hl hj hjl hjl1 hV0 hen hgood hwq
  have C0 := Bk.new w (ccM c) 24
  have hw0 : Below w.heap.size w (w.alloc (.cells (ccM c) 24)) := (Below.refl _ _).alloc (Nat.le_refl _) _
  go_enter Try.func12, Try.ntmps12
  go_wp2_with fail
  refine (awake11 _).mono ?_
  rintro e w1 ⟨rfl, hb1⟩
  have C1 := C0.keep hb1
  have hw1 := hw0.trans (hb1.mono hw0.size)
  clear C0 hw0 hb1
  go_wp2_with (refine wpList_load_row rfl 24 _ rfl w.heap.size rfl _ (ccM c) (0, 0) _ (by exact C1) Try.underlying24 rfl (by kernel_rfl) ?_)
  refine (HB.out hw1).mono ?_
  rintro e w2 ⟨g, gl, cp, g2, gl2, cp2, rfl, B2⟩
  have M2 := MemAt.base B2.M (B' := w.heap.size) hw1.size
  have lc1 := C1.lt
  have n1 := B2.M.g0
  have n2 := B2.M.gl0
  have C2 := C1.keep B2.below
  have hw2 := hw1.trans (B2.below.mono hw1.size)
  clear B2 C1 hw1
  go_wp2_with (refine wpList_load_row rfl 24 _ rfl w.heap.size rfl _ (ccM c) (0, 0) _ (by exact C2) Try.underlying24 rfl (by kernel_rfl) ?_)
  refine (HRL.out _ hw2).mono ?_
  rintro e w3 ⟨rfl, hb3⟩
  have C3 := C2.keep hb3
  have M3 := M2.keep hb3
  have hw3 := hw2.trans (hb3.mono hw2.size)
  have lt3 := M3.lt
  clear C2 M2 hw2 hb3
  obtain HS := H60.out _ _ _ _ M3
  have HSH := Lib.hid HS
  clear HS
  go_wp2_with fail
  refine HSH.out.mono ?_
  rintro e u1 ⟨s1, rfl, A1, M4, T4⟩
  have hp1 := A1.p
  have C4 := T4.bk C3 (by omega) (by omega)
  have hw4 := hw3.trans (T4.below (base := w.heap.size) (by omega) (by omega) hw3.size)
  have Z4 := Bk.new u1 (wc wz) 46
  have X5 := boxed_bk u1 s1
  have bb := boxed_below u1 s1
  have C5 := C4.keep bb
  have M5 := M4.keep bb
  have hw5 := hw4.trans (bb.mono hw4.size)
  have lm4 := M4.lt
  obtain ⟨u2, hu2⟩ : ∃ u, u = (u1.alloc (.cells (wc wz) 46)).setRow u1.heap.size (wc s1) := ⟨_, rfl⟩
  rw [← hu2] at X5 C5 M5 hw5
  have sz3 := hw3.size
  have sz4 := T4.size
  have E5 : Ecw w c g gl cp u1.heap.size _ _ s1 u2 := ⟨C5, M5, X5, hw5, by omega, by omega, by omega, by omega, by have := C4.lt; omega⟩
  clear bb HSH A1 M4 T4 C3 hw3 M3 C4 hw4 M5 C5 hw5
  go_wp2_with (first | ((with_reducible refine wpList_alloc_wz rfl rfl ?_)) | (refine wpList_store_row rfl 46 _ _ rfl (u1.heap.size) (wc s1) rfl rfl _ _ (by exact Z4) (by kernel_rfl) (by kernel_rfl) (by kernel_rfl) ?_; rw [← hu2]; clear hu2 Z4) | (refine wpList_load_row rfl 24 _ rfl w.heap.size rfl _ (ccM c) (0, 0) _ (by exact E5.C) Try.underlying24 rfl (by kernel_rfl) ?_))
  refine (HG.out _).mono ?_
  rintro e w6 ⟨rfl, hb6⟩
  have E6 := E5.keep hb6
  clear E5 hb6
  have f21 : ∀ s : Wk, (wc s)[21]? = some (.int .i64 s.p.c) := fun _ => rfl
  have f18 : ∀ s : Wk, (wc s)[18]? = some (.int .i64 s.p.b) := fun _ => rfl
  have f20 : ∀ s : Wk, (wc s)[20]? = some (.int .i64 s.p.i) := fun _ => rfl
  have f0 : ∀ s : Wk, (wc s)[0]? = some (.int .i64 s.p.ln) := fun _ => rfl
  have x6 : w6.cell? ⟨u1.heap.size, 21, none⟩ = some (.int .i64 (V / 16 % 65536)) := by rw [E6.X.cells, f21, hp1]
  have sx6 : u1.heap.size < w6.heap.size := E6.X.lt
  clear hp1
  have HS7 := Lib.hid (H44.out _ _ _ _ _ E6.M)
  go_wp2_with fail
  refine HS7.out.mono ?_
  rintro e u7 ⟨s7, rfl, A7, M7, T7⟩
  have X7 := T7.bk E6.X E6.n3 E6.n4
  have E7 := E6.step M7 T7 s7
  have lx7 := E6.X.lt
  have Ar7 := A7.setRow (g := u1.heap.size) lx7 (wc s7)
  obtain ⟨v7, hv7⟩ : ∃ u, u = u7.setRow u1.heap.size (wc s7) := ⟨_, rfl⟩
  rw [← hv7] at E7 Ar7
  have hp7 := Ar7.p
  clear HS7 A7 M7 T7 E6 x6
  have E8 := E7.set (s' := { s7 with p := { s7.p with ln := 45 } }) 0 (.int .i64 45) rfl
  have E9 := E8.set (s' := { s7 with p := { s7.p with ln := 45, b := q % 40 + 1 } }) 18 (.int .i64 (q % 40 + 1)) rfl
  have e9 : ({ s7 with p := { s7.p with ln := 45, b := q % 40 + 1 } } : Wk) = { s7 with p := ({ pz with ln := 45, t := t, v := V, c := V / 16 % 65536, b := q % 40 + 1 } : Pl) } := by rw [hp7]
  rw [e9] at E9
  have A9 := (Ar7.setCell (g := u1.heap.size) lx7 0 (.int .i64 45)).setCell (g := u1.heap.size) lx7 18 (.int .i64 (q % 40 + 1))
  obtain ⟨v9, hv9⟩ : ∃ u, u = (v7.setCell ⟨u1.heap.size, 0, none⟩ (.int .i64 45)).setCell ⟨u1.heap.size, 18, none⟩ (.int .i64 (q % 40 + 1)) := ⟨_, rfl⟩
  rw [← hv9] at E9 A9
  have l9 : Lies v9 { s7 with p := ({ pz with ln := 45, t := t, v := V, c := V / 16 % 65536, b := q % 40 + 1 } : Pl) } { zS with p := ({ pz with ln := 45, t := t, v := V, c := V / 16 % 65536, b := q % 40 + 1 } : Pl) } := liesPlain A9.lies ({ pz with ln := 45, t := t, v := V, c := V / 16 % 65536, b := q % 40 + 1 } : Pl)
  have x70 : v7.cell? ⟨u1.heap.size, 0, none⟩ = some (.int .i64 s7.p.ln) := (E7.X.cells 0).trans (f0 _)
  have x718 : v7.cell? ⟨u1.heap.size, 18, none⟩ = some (.int .i64 s7.p.b) := (E7.X.cells 18).trans (f18 _)
  have z7 := E7.X.frozen
  have hqm : wrap64 (q.tmod 40 + 1) = q % 40 + 1 := by rw [Int.tmod_eq_emod_of_nonneg hq.1]; unfold wrap64; omega
  clear Ar7 E8 e9 A9 E7
  have HS9 := Lib.hid (H45.out _ _ _ _ _ E9.M _ l9)
  go_wp2_with (first | ((refine wpList_store_row rfl 46 _ _ rfl (u1.heap.size) (wc s7) rfl rfl _ _ (by exact X7) (by kernel_rfl) (by kernel_rfl) (by kernel_rfl) ?_); rw [← hv7]; clear hv7 X7) | (rw [hqm]) | (rw [← hv9]; clear hv9 x70 x718 z7) | (refine wpList_load_row rfl 46 _ rfl (u1.heap.size) rfl _ (wc { s7 with p := ({ pz with ln := 45, t := t, v := V, c := V / 16 % 65536, b := q % 40 + 1 } : Pl) }) (0, 0) _ (by exact E9.X) Try.underlying46 rfl (by kernel_rfl) ?_))
  refine HS9.out.mono ?_
  rintro e u10 ⟨s10, rfl, A10, M10, T10⟩
  have X10 := T10.bk E9.X E9.n3 E9.n4
  have E10 := E9.step M10 T10 s10
  have hp10 := A10.p
  obtain ⟨v10, hv10⟩ : ∃ u, u = u10.setRow u1.heap.size (wc s10) := ⟨_, rfl⟩
  rw [← hv10] at E10
  clear HS9 A10 M10 T10 E9 l9 hp7
  go_wp2_with ((refine wpList_store_row rfl 46 _ _ rfl (u1.heap.size) (wc s10) rfl rfl _ _ (by exact X10) (by kernel_rfl) (by kernel_rfl) (by kernel_rfl) ?_); rw [← hv10]; clear hv10 X10)
  have hS0 : Below v10.heap.size v10 v10.drew := Below.drew (Below.refl _ _)
  refine wp_region_held_drew (S := fun w' => Below v10.heap.size v10 w') (by kernel_rfl) hS0 (fun hHeld => ?_)
  clear hS0
  generalize v10.drew = y0 at *
  refine wpAnyH_take (i := 0) (oi := _) (v := cv c) rfl (by kernel_rfl) (by kernel_rfl) (by kernel_rfl) (fun _ _ _ h => h) (Or.inl ⟨by rfl, fun w' hSw => by have xx := (E10.C.keep hSw).cells; go_simp⟩) hHeld ?_
  try simp only [Act.put, List.getElem_toArray, List.getElem_cons_succ, List.getElem_cons_zero, List.setIfInBounds_toArray, List.set_cons_succ, List.set_cons_zero]
  refine wpAnyH_take (i := 1) (oi := _) (v := .pointer (some ⟨g, 0, none⟩)) rfl (by kernel_rfl) (by kernel_rfl) (by kernel_rfl) (fun _ _ _ h => h) (Or.inl ⟨by rfl, fun w' hSw => by go_simp⟩) hHeld ?_
  try simp only [Act.put, List.getElem_toArray, List.getElem_cons_succ, List.getElem_cons_zero, List.setIfInBounds_toArray, List.set_cons_succ, List.set_cons_zero]
  refine wpAnyH_take (i := 3) (oi := _) (v := .int .u64 t) rfl (by kernel_rfl) (by kernel_rfl) (by kernel_rfl) (fun _ _ _ h => h) (Or.inl ⟨by rfl, fun w' hSw => by go_simp⟩) hHeld ?_
  try simp only [Act.put, List.getElem_toArray, List.getElem_cons_succ, List.getElem_cons_zero, List.setIfInBounds_toArray, List.set_cons_succ, List.set_cons_zero]
  refine wpAnyH_ready (rs := [2]) (by kernel_rfl) (by simp) ?_
  refine AllReadyH.cons (o := _) rfl (fun K hK => ?_) AllReadyH.nil
  go_simp
  refine (all_in (E10.M.keep hHeld) HM1.out).mono ?_
  rintro e y1 ⟨ya, rfl, hya, hb⟩
  have hHeld' := hHeld.trans (hb.mono hHeld.size)
  refine hK.out _ _ hHeld' (fun hHeld => ?_)
  clear hK K hHeld'
  try simp only [Act.put, List.getElem_toArray, List.getElem_cons_succ, List.getElem_cons_zero, List.setIfInBounds_toArray, List.set_cons_succ, List.set_cons_zero]
  have rd1 := Reads.of_own hya rfl
  clear hb hya
  have HIN := Lib.hid (HE1.out _ _ rd1)
  clear rd1
  refine wpAnyH_ready (rs := [4]) (by kernel_rfl) (by simp) ?_
  refine AllReadyH.cons (o := _) rfl (fun K hK => ?_) AllReadyH.nil
  go_simp
  refine (HIN.out).mono ?_
  rintro e y2 ⟨rfl, hb⟩
  have hHeld' := hHeld.trans (hb.mono hHeld.size)
  refine hK.out _ _ hHeld' (fun hHeld => ?_)
  clear hK K hHeld' HIN
  try simp only [Act.put, List.getElem_toArray, List.getElem_cons_succ, List.getElem_cons_zero, List.setIfInBounds_toArray, List.set_cons_succ, List.set_cons_zero]
  clear hb
  refine wpAnyH_take (i := 5) (oi := _) (v := .tuple #[.int .i64 (q % 40), .bool true]) rfl (by kernel_rfl) (by kernel_rfl) (by kernel_rfl) (fun _ _ _ h => h) (Or.inl ⟨by rfl, fun w' hSw => by go_simp⟩) hHeld ?_
  try simp only [Act.put, List.getElem_toArray, List.getElem_cons_succ, List.getElem_cons_zero, List.setIfInBounds_toArray, List.set_cons_succ, List.set_cons_zero]
  refine wpAnyH_take (i := 6) (oi := _) (v := .int .i64 (q % 40)) rfl (by kernel_rfl) (by kernel_rfl) (by kernel_rfl) (fun _ _ _ h => h) (Or.inl ⟨by rfl, fun w' hSw => by go_simp⟩) hHeld ?_
  try simp only [Act.put, List.getElem_toArray, List.getElem_cons_succ, List.getElem_cons_zero, List.setIfInBounds_toArray, List.set_cons_succ, List.set_cons_zero]
  refine wpAnyH_take (i := 7) (oi := _) (v := .bool true) rfl (by kernel_rfl) (by kernel_rfl) (by kernel_rfl) (fun _ _ _ h => h) (Or.inl ⟨by rfl, fun w' hSw => by go_simp⟩) hHeld ?_
  try simp only [Act.put, List.getElem_toArray, List.getElem_cons_succ, List.getElem_cons_zero, List.setIfInBounds_toArray, List.set_cons_succ, List.set_cons_zero]
  refine wpAnyH_take (i := 8) (oi := _) (v := .int .i64 (q % 40)) rfl (by kernel_rfl) (by kernel_rfl) (by kernel_rfl) (fun _ _ _ h => h) (Or.inl ⟨by rfl, fun w' hSw => by go_simp⟩) hHeld ?_
  try simp only [Act.put, List.getElem_toArray, List.getElem_cons_succ, List.getElem_cons_zero, List.setIfInBounds_toArray, List.set_cons_succ, List.set_cons_zero]
  refine wpAnyH_take (i := 9) (oi := _) (v := .bool true) rfl (by kernel_rfl) (by kernel_rfl) (by kernel_rfl) (fun _ _ _ h => h) (Or.inl ⟨by rfl, fun w' hSw => by go_simp⟩) hHeld ?_
  try simp only [Act.put, List.getElem_toArray, List.getElem_cons_succ, List.getElem_cons_zero, List.setIfInBounds_toArray, List.set_cons_succ, List.set_cons_zero]
  refine wpAnyH_done (by kernel_rfl) ?_ _
  have E11 := E10.keep hHeld
  clear hHeld E10
  have xb : y2.cell? ⟨u1.heap.size, 18, none⟩ = some (.int .i64 0) := by rw [E11.X.cells, f18, hp10]; rfl
  have xc : y2.cell? ⟨u1.heap.size, 21, none⟩ = some (.int .i64 (V / 16 % 65536)) := by rw [E11.X.cells, f21, hp10]
  have hqt : q.tmod 40 = q % 40 := Int.tmod_eq_emod_of_nonneg hq.1
  have hqe : (q % 40 != q.tmod 40) = false := by rw [hqt]; simp
  have HQT := Lib.hid hqt
  clear hqt hp10
  have HS12 := Lib.hid (H42.out _ _ _ _ _ E11.M)
  go_wp2_with (rw [HQT.out])
  refine HS12.out.mono ?_
  rintro e u12 ⟨s12, rfl, A12, M12, T12⟩
  have X12 := T12.bk E11.X E11.n3 E11.n4
  have E12 := E11.step M12 T12 s12
  have lx12 := E11.X.lt
  have Ar12 := A12.setRow (g := u1.heap.size) lx12 (wc s12)
  obtain ⟨v12, hv12⟩ : ∃ u, u = u12.setRow u1.heap.size (wc s12) := ⟨_, rfl⟩
  rw [← hv12] at E12 Ar12
  have hp12 := Ar12.p
  clear HS12 A12 M12 T12 E11 xb xc hqe hc1
  have E13 := E12.set (s' := { s12 with p := { s12.p with ln := 43 } }) 0 (.int .i64 43) rfl
  have e13 : ({ s12 with p := { s12.p with ln := 43 } } : Wk) = { s12 with p := ({ pz with ln := 43, t := t, v := E1, c := E1 / 16 % 65536 } : Pl) } := by rw [hp12]
  rw [e13] at E13
  have A13 := Ar12.setCell (g := u1.heap.size) lx12 0 (.int .i64 43)
  obtain ⟨v13, hv13⟩ : ∃ u, u = v12.setCell ⟨u1.heap.size, 0, none⟩ (.int .i64 43) := ⟨_, rfl⟩
  rw [← hv13] at E13 A13
  have l13 : Lies v13 { s12 with p := ({ pz with ln := 43, t := t, v := E1, c := E1 / 16 % 65536 } : Pl) } { zS with p := ({ pz with ln := 43, t := t, v := E1, c := E1 / 16 % 65536 } : Pl) } := liesPlain A13.lies ({ pz with ln := 43, t := t, v := E1, c := E1 / 16 % 65536 } : Pl)
  have x120 : v12.cell? ⟨u1.heap.size, 0, none⟩ = some (.int .i64 s12.p.ln) := (E12.X.cells 0).trans (f0 _)
  have z12 := E12.X.frozen
  clear Ar12 e13 A13 E12
  have HS13 := Lib.hid (H43.out _ _ _ _ _ E13.M _ l13)
  go_wp2_with (first | ((refine wpList_store_row rfl 46 _ _ rfl (u1.heap.size) (wc s12) rfl rfl _ _ (by exact X12) (by kernel_rfl) (by kernel_rfl) (by kernel_rfl) ?_); rw [← hv12]; clear hv12 X12) | (rw [← hv13]; clear hv13 x120 z12) | (refine wpList_load_row rfl 46 _ rfl (u1.heap.size) rfl _ (wc { s12 with p := ({ pz with ln := 43, t := t, v := E1, c := E1 / 16 % 65536 } : Pl) }) (0, 0) _ (by exact E13.X) Try.underlying46 rfl (by kernel_rfl) ?_))
  refine HS13.out.mono ?_
  rintro e u14 ⟨s14, rfl, A14, M14, T14⟩
  have X14 := T14.bk E13.X E13.n3 E13.n4
  have E14 := E13.step M14 T14 s14
  have hp14 := A14.p
  obtain ⟨v14, hv14⟩ : ∃ u, u = u14.setRow u1.heap.size (wc s14) := ⟨_, rfl⟩
  rw [← hv14] at E14
  clear HS13 A14 M14 T14 E13 l13 hp12
  go_wp2_with ((refine wpList_store_row rfl 46 _ _ rfl (u1.heap.size) (wc s14) rfl rfl _ _ (by exact X14) (by kernel_rfl) (by kernel_rfl) (by kernel_rfl) ?_); rw [← hv14]; clear hv14 X14)
  have hS0 : Below v14.heap.size v14 v14.drew := Below.drew (Below.refl _ _)
  refine wp_region_held_drew (S := fun w' => Below v14.heap.size v14 w') (by kernel_rfl) hS0 (fun hHeld => ?_)
  clear hS0
  generalize v14.drew = z0 at *
  refine wpAnyH_take (i := 0) (oi := _) (v := cv c) rfl (by kernel_rfl) (by kernel_rfl) (by kernel_rfl) (fun _ _ _ h => h) (Or.inl ⟨by rfl, fun w' hSw => by have xx := (E14.C.keep hSw).cells; go_simp⟩) hHeld ?_
  try simp only [Act.put, List.getElem_toArray, List.getElem_cons_succ, List.getElem_cons_zero, List.setIfInBounds_toArray, List.set_cons_succ, List.set_cons_zero]
  refine wpAnyH_take (i := 1) (oi := _) (v := .pointer (some ⟨g, 0, none⟩)) rfl (by kernel_rfl) (by kernel_rfl) (by kernel_rfl) (fun _ _ _ h => h) (Or.inl ⟨by rfl, fun w' hSw => by go_simp⟩) hHeld ?_
  try simp only [Act.put, List.getElem_toArray, List.getElem_cons_succ, List.getElem_cons_zero, List.setIfInBounds_toArray, List.set_cons_succ, List.set_cons_zero]
  refine wpAnyH_take (i := 3) (oi := _) (v := .int .u64 t) rfl (by kernel_rfl) (by kernel_rfl) (by kernel_rfl) (fun _ _ _ h => h) (Or.inl ⟨by rfl, fun w' hSw => by go_simp⟩) hHeld ?_
  try simp only [Act.put, List.getElem_toArray, List.getElem_cons_succ, List.getElem_cons_zero, List.setIfInBounds_toArray, List.set_cons_succ, List.set_cons_zero]
  refine wpAnyH_ready (rs := [2]) (by kernel_rfl) (by simp) ?_
  refine AllReadyH.cons (o := _) rfl (fun K hK => ?_) AllReadyH.nil
  go_simp
  refine (all_in (E14.M.keep hHeld) HM2.out).mono ?_
  rintro e z1 ⟨ya, rfl, hya, hb⟩
  have hHeld' := hHeld.trans (hb.mono hHeld.size)
  refine hK.out _ _ hHeld' (fun hHeld => ?_)
  clear hK K hHeld'
  try simp only [Act.put, List.getElem_toArray, List.getElem_cons_succ, List.getElem_cons_zero, List.setIfInBounds_toArray, List.set_cons_succ, List.set_cons_zero]
  have rd1 := Reads.of_own hya rfl
  clear hb hya
  have HIN := Lib.hid (HE2.out _ _ rd1)
  clear rd1
  refine wpAnyH_ready (rs := [4]) (by kernel_rfl) (by simp) ?_
  refine AllReadyH.cons (o := _) rfl (fun K hK => ?_) AllReadyH.nil
  go_simp
  refine (HIN.out).mono ?_
  rintro e z2 ⟨rfl, hb⟩
  have hHeld' := hHeld.trans (hb.mono hHeld.size)
  refine hK.out _ _ hHeld' (fun hHeld => ?_)
  clear hK K hHeld' HIN
  try simp only [Act.put, List.getElem_toArray, List.getElem_cons_succ, List.getElem_cons_zero, List.setIfInBounds_toArray, List.set_cons_succ, List.set_cons_zero]
  clear hb
  refine wpAnyH_take (i := 5) (oi := _) (v := .tuple #[.int .i64 (-1), .bool false]) rfl (by kernel_rfl) (by kernel_rfl) (by kernel_rfl) (fun _ _ _ h => h) (Or.inl ⟨by rfl, fun w' hSw => by go_simp⟩) hHeld ?_
  try simp only [Act.put, List.getElem_toArray, List.getElem_cons_succ, List.getElem_cons_zero, List.setIfInBounds_toArray, List.set_cons_succ, List.set_cons_zero]
  refine wpAnyH_take (i := 6) (oi := _) (v := .int .i64 (-1)) rfl (by kernel_rfl) (by kernel_rfl) (by kernel_rfl) (fun _ _ _ h => h) (Or.inl ⟨by rfl, fun w' hSw => by go_simp⟩) hHeld ?_
  try simp only [Act.put, List.getElem_toArray, List.getElem_cons_succ, List.getElem_cons_zero, List.setIfInBounds_toArray, List.set_cons_succ, List.set_cons_zero]
  refine wpAnyH_take (i := 7) (oi := _) (v := .bool false) rfl (by kernel_rfl) (by kernel_rfl) (by kernel_rfl) (fun _ _ _ h => h) (Or.inl ⟨by rfl, fun w' hSw => by go_simp⟩) hHeld ?_
  try simp only [Act.put, List.getElem_toArray, List.getElem_cons_succ, List.getElem_cons_zero, List.setIfInBounds_toArray, List.set_cons_succ, List.set_cons_zero]
  refine wpAnyH_take (i := 8) (oi := _) (v := .bool false) rfl (by kernel_rfl) (by kernel_rfl) (by kernel_rfl) (fun _ _ _ h => h) (Or.inl ⟨by rfl, fun w' hSw => by go_simp⟩) hHeld ?_
  try simp only [Act.put, List.getElem_toArray, List.getElem_cons_succ, List.getElem_cons_zero, List.setIfInBounds_toArray, List.set_cons_succ, List.set_cons_zero]
  refine wpAnyH_done (by kernel_rfl) ?_ _
  have E15 := E14.keep hHeld
  clear hHeld E14
  have xi : s14.p.i = ecI c t := by rw [hp14]
  go_wp2_with fail
  refine (HUT.out _).mono ?_
  rintro e w15' ⟨rfl, n15, rfl⟩
  have hb15 : Below z2.heap.size z2 (z2.drewN n15) := gro_drewN (Below.refl _ _)
  obtain ⟨w15, hw15⟩ : ∃ u, u = z2.drewN n15 := ⟨_, rfl⟩
  rw [← hw15] at hb15 ⊢
  have E16 := E15.keep hb15
  clear hw15 hb15 E15 hp14
  have m16 := E16.M.B.cells
  go_wp2_with fail
  refine (HAN.out _).mono ?_
  rintro e w17 ⟨rfl, hb17⟩
  have E17 := E16.keep hb17
  clear m16 E16 hb17
  go_wp2_with fail
  refine (HPK.out _ _ _ _ _ _ E17.M).mono ?_
  rintro e w18 ⟨rfl, rfl⟩
  go_wp2_with fail
  refine (HUE.out _).mono ?_
  rintro e w18' ⟨rfl, n18, rfl⟩
  have hb18 : Below w17.heap.size w17 (w17.drewN n18) := gro_drewN (Below.refl _ _)
  obtain ⟨w18, hw18⟩ : ∃ u, u = w17.drewN n18 := ⟨_, rfl⟩
  rw [← hw18] at hb18 ⊢
  have E18 := E17.keep hb18
  clear hw18 hb18 E17
  have xl : w18.cell? ⟨w.heap.size, 7, none⟩ = some (.int .u64 c.la) := E18.C.cells 7
  have xii : w18.cell? ⟨u1.heap.size, 20, none⟩ = some (.int .i64 (ecI c t)) := by rw [E18.X.cells, f20, xi]
  clear xi
  rw [hnone]
  by_cases hla2 : c.la ≤ t / 65536
  · have hd : decide (c.la ≤ t / 65536) = true := by simp [hla2]
    have k1 := (hyes (by omega)).1
    have k2 := (hyes (by omega)).2
    have k3 : ecI c t = 0 := by rw [ecI, if_pos hla2]
    rw [k3] at xii
    rw [k1, k2]
    have b1 : (t / 65536 == t / 65536) = true := by simp
    clear k1 k2 k3 hyes hno hnone hla2
    go_wp2
    go_ret
    exact ⟨rfl, E18.hb⟩
  · have hd : decide (c.la ≤ t / 65536) = false := by simp; omega
    have k1 := (hno (by omega)).1
    have k2 := (hno (by omega)).2
    have k3 : ecI c t = t % 65536 := by rw [ecI, if_neg hla2]
    rw [k3] at xii
    rw [k1, k2]
    have b1 : (t / 65536 + 1 == IntKind.u64.wrap (t / 65536 + 1)) = true := by rw [IntKind.wrap_u64, Int.emod_eq_of_lt (by omega) (by omega)]; simp
    have b2 : (t / 65536 + 1 == t / 65536 + 1) = true := by simp
    have b3 : (t % 65536 == wrap64 (t % 65536 - 1 + 1)) = true := by rw [IntWalk.wrap64_in _ (by omega)]; simp
    clear k1 k2 k3 hyes hno hnone hla2
    go_wp2
    go_ret
    exact ⟨rfl, E18.hb⟩
theorem entryChanges (c : Cfg) (hf : c.Wf) (v : Sl) (t q : Int) (L : List Int) (w : World) (ht : 0 ≤ t ∧ t < 18446744073709551616) (hq : 0 ≤ q ∧ q < 256) (hr : Reads w .u64 v.v L) (hL : WR L) :
    Calls Try.prog 12 #[cv c, v.v, .int .u64 t, .int .u8 q] w fun e w' => e = .returned (.bool true) ∧ Below w.heap.size w w' := by
  obtain ⟨ad, n, cap⟩ := v
  have hl := reads_len hr
  have hc := reads_le hr
  simp only at hl hc
  unfold maxLen at hc
  cases hg : greatC c with
  | true => exact ecC_no c hf ad n cap t q ht w (Lib.hid fun _ => both_great c hf ad n cap hg _)
  | false =>
    by_cases hn : 400 < n
    · exact ecC_no c hf ad n cap t q ht w (Lib.hid fun _ => both_long c hf ad n cap hg hn (by omega) _)
    · by_cases hk : chk c = 0
      · by_cases hs : (n : Int) = siz c
        · have HB : RowKit.Hid (∀ {w0 : World}, Below w.heap.size w w0 → Calls Try.prog 20 #[cv c, .slice ad n cap] w0 (BothYes c L w0)) := Lib.hid fun hb => both_yes c hf ad n cap hg (by omega) (chk_ok.1 hk) L hl.symm hs _ (hr.keep hb)
          cases hgd : goodB c t with
          | false => exact ecC_ill c hf ad n cap t q ht L (by omega) hL w hr HB hgd
          | true =>
            cases hlv : lvB c L t with
            | false => exact ecC_lost c hf ad n cap t q ht L (by omega) hL w hr HB hk (by omega) hgd hlv
            | true => exact ecC_main c hf ad n cap t q ht L (by omega) hL w hr HB hk (by omega) hgd hlv hq
        · exact ecC_no c hf ad n cap t q ht w (Lib.hid fun hb => both_form c hf ad n cap hg (by omega) (chk_ok.1 hk) hs L hl.symm _ (hr.keep hb))
      · exact ecC_no c hf ad n cap t q ht w (Lib.hid fun hb => both_bad c hf ad n cap hg (by omega) hk L hl.symm _ (hr.keep hb))
end Go.Proofs.Ytblkfbbdeodpjaa.Me

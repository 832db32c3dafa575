/- Layer 21: the law ScriptTexts, walked (made by gensctx.py). -/
import Derived.Test.YtpmcedfeiconfaaGreatDoorScBck
import Derived.Test.YtpmcedfeiconfaaGreatDoorScRefs
namespace Go.Proofs.YtpmcedfeiconfaaGreatDoor.Scw
open Go Go.RowKit Go.ChangeMaps Go.Proofs.YtpmcedfeiconfaaGreatDoor.Gro Go.Proofs.YtpmcedfeiconfaaGreatDoor.Own Go.Proofs.YtpmcedfeiconfaaGreatDoor.Mr Go.Proofs.YtpmcedfeiconfaaGreatDoor.Opn Go.Proofs.YtpmcedfeiconfaaGreatDoor.Opw Go.Proofs.YtpmcedfeiconfaaGreatDoor.Pl Go.Proofs.YtpmcedfeiconfaaGreatDoor.Scr Go.Proofs.YtpmcedfeiconfaaGreatDoor.Wd
set_option linter.unusedVariables false
set_option linter.unusedSimpArgs false
theorem rText (s : ScD) (hr : rightS s = true) (FT : ∀ l ∈ s.p, ∀ o ∈ l, o.Fits) (ap ak : Option Addr) (cp ck : Nat) (w : World) (L : Lb w) (RK : Reads w .i64 (.slice ak s.k.length ck) s.k) (RP : ReadsP w (.slice ap s.p.length cp) s.p) :
    Calls Tryz.prog 15 #[sV s.c (.slice ap s.p.length cp) (.slice ak s.k.length ck)] w fun e w' => e = .returned (strV (textS s)) ∧ Below w.heap.size w w' :=
  rTextOf s hr FT _ _ w fun w0 hb => rLines s hr FT ap ak cp ck w0 (L.keep hb) (RK.keep hb) (RP.keep hb)
theorem str_eqT (t : List UInt8) : ((ByteArray.mk t.toArray).toList == (ByteArray.mk t.toArray).toList) = true := by simp
set_option maxRecDepth 100000 in
set_option maxHeartbeats 16000000 in
theorem scriptTexts (s r : ScD) (W : s.c.Wf) (FT : FitS s) (ap ak bp bk : Option Addr) (cp ck dp dk : Nat) (w : World) (L : Lb w) (RK : Reads w .i64 (.slice ak s.k.length ck) s.k) (RP : ReadsP w (.slice ap s.p.length cp) s.p) (RK2 : Reads w .i64 (.slice bk r.k.length dk) r.k) (RP2 : ReadsP w (.slice bp r.p.length dp) r.p) :
    Calls Tryz.prog 3 #[sV s.c (.slice ap s.p.length cp) (.slice ak s.k.length ck), sV r.c (.slice bp r.p.length dp) (.slice bk r.k.length dk)] w fun e w' => e = .returned (.bool true) ∧ Below w.heap.size w w' := by
  obtain ⟨w1, hw1⟩ : ∃ q, q = (w.alloc (.cells (sC s.c (.slice ap s.p.length cp) (.slice ak s.k.length ck)) 28)).alloc (.cells (sC r.c (.slice bp r.p.length dp) (.slice bk r.k.length dk)) 28) := ⟨_, rfl⟩
  have b1 : Below w.heap.size w w1 := by rw [hw1]; exact ((Below.refl _ _).alloc (Nat.le_refl _) _).alloc (by simp) _
  have X1 : Bk w1 w.heap.size (sC s.c (.slice ap s.p.length cp) (.slice ak s.k.length ck)) 28 := by rw [hw1]; exact (Bk.new w _ _).alloc _
  have Y1 : Bk w1 (w.heap.size + 1) (sC r.c (.slice bp r.p.length dp) (.slice bk r.k.length dk)) 28 := by
    have h := Bk.new (w.alloc (.cells (sC s.c (.slice ap s.p.length cp) (.slice ak s.k.length ck)) 28)) (sC r.c (.slice bp r.p.length dp) (.slice bk r.k.length dk)) 28
    rw [World.size_alloc] at h
    rw [hw1]
    exact h
  have RK1 := RK.keep b1
  have RP1 := RP.keep b1
  have RK3 := RK2.keep b1
  have RP3 := RP2.keep b1
  have HL := Lib.hid (L.keep b1)
  obtain ⟨tx, htx⟩ : ∃ q, q = textS s := ⟨_, rfl⟩
  have HGA := Lib.hid (fun w0 (hb : Below w1.heap.size w1 w0) => fGreat s ap ak cp ck w0 (RK1.keep hb) (RP1.keep hb))
  have HGB := Lib.hid (fun w0 (hb : Below w1.heap.size w1 w0) => fGreat r bp bk dp dk w0 (RK3.keep hb) (RP3.keep hb))
  have HGI := Lib.hid (fun w0 => fGiven s.c ap ak s.p.length cp s.k.length ck w0)
  have HGJ := Lib.hid (fun w0 => fGiven r.c bp bk r.p.length dp r.k.length dk w0)
  have HRR := Lib.hid (fun w0 (hb : Below w1.heap.size w1 w0) => rRight s W ap ak cp ck w0 (RK1.keep hb) (RP1.keep hb))
  have HRI := Lib.hid (fun w0 (hb : Below w1.heap.size w1 w0) => fRightA s W ap ak cp ck w0 (RK1.keep hb) (RP1.keep hb))
  have HTN := Lib.hid (fun (hr : rightS s = false) w0 (hb : Below w1.heap.size w1 w0) => fScTextNo s W ap ak cp ck w0 (RK1.keep hb) (RP1.keep hb) hr)
  have HTY := Lib.hid (fun (hr : rightS s = true) w0 (hb : Below w1.heap.size w1 w0) => fScText s W FT ap ak cp ck w0 (HL.out.keep hb) (RK1.keep hb) (RP1.keep hb) hr)
  have HTR := Lib.hid (fun (hr : rightS s = true) w0 (hb : Below w1.heap.size w1 w0) => rText s hr FT ap ak cp ck w0 (HL.out.keep hb) (RK1.keep hb) (RP1.keep hb))
  have HS1 := Lib.hid (fun w0 (hb : Below w1.heap.size w1 w0) => fSame s.c r.c s.p r.p s.k r.k ap ak bp bk cp ck dp dk w0 (RP1.keep hb) (RK1.keep hb) (RP3.keep hb) (RK3.keep hb))
  have HS2 : RowKit.Hid (∀ w0, Below w1.heap.size w1 w0 → Calls Tryz.prog 13 #[sV s.c (.slice ap s.p.length cp) (.slice ak s.k.length ck), sV s.c (.slice ap s.p.length cp) (.slice ak s.k.length ck)] w0 fun e w' => e = .returned (.bool true) ∧ Below w0.heap.size w0 w') := Lib.hid (fun w0 (hb : Below w1.heap.size w1 w0) => by
    have h := fSame s.c s.c s.p s.p s.k s.k ap ak ap ak cp ck cp ck w0 (RP1.keep hb) (RK1.keep hb) (RP1.keep hb) (RK1.keep hb)
    have e : sameS ⟨s.c, s.p, s.k⟩ ⟨s.c, s.p, s.k⟩ = true := same_self _
    rw [e] at h
    exact h)
  have HS3 := Lib.hid (fun w0 (hb : Below w1.heap.size w1 w0) => rSame s.c r.c s.p r.p s.k r.k ap ak bp bk cp ck dp dk w0 (RP1.keep hb) (RK1.keep hb) (RP3.keep hb) (RK3.keep hb))
  obtain ⟨sm, hsm⟩ : ∃ q, q = sameS ⟨s.c, s.p, s.k⟩ ⟨r.c, r.p, r.k⟩ := ⟨_, rfl⟩
  rw [← hsm] at HS1 HS3
  rw [← htx] at HTY HTR
  clear htx RK RP RK1 RP1 RK2 RP2 RK3 RP3 hsm
  obtain ⟨vp, hvp⟩ : ∃ q, q = Value.slice ap s.p.length cp := ⟨_, rfl⟩
  obtain ⟨vk, hvk⟩ : ∃ q, q = Value.slice ak s.k.length ck := ⟨_, rfl⟩
  obtain ⟨up, hup⟩ : ∃ q, q = Value.slice bp r.p.length dp := ⟨_, rfl⟩
  obtain ⟨uk, huk⟩ : ∃ q, q = Value.slice bk r.k.length dk := ⟨_, rfl⟩
  rw [← hvp, ← hvk] at HGA HGI HRR HRI HTN HTY HTR HS1 HS2 HS3 X1 hw1 ⊢
  rw [← hup, ← huk] at HGB HGJ HS1 HS3 Y1 hw1 ⊢
  obtain ⟨gr, hgr⟩ : ∃ q, q = greatS s := ⟨_, rfl⟩
  obtain ⟨gb, hgb⟩ : ∃ q, q = greatS r := ⟨_, rfl⟩
  rw [← hgr] at HGA
  rw [← hgb] at HGB
  clear hvp hvk hup huk L hgr hgb
  have HX1 := Lib.hid X1
  have HY1 := Lib.hid Y1
  have HB1 := Lib.hid b1
  clear X1 Y1 b1
  go_enter Tryz.func3, Tryz.ntmps3
  go_upto_region 1 with fail
  rw [← hw1]
  clear hw1
  go_wp2_with fail
  refine (awake w1 HL.out).mono ?_
  rintro e w2 ⟨rfl, hb2⟩
  have HX2 := Lib.hid (HX1.out.keep hb2)
  have HY2 := Lib.hid (HY1.out.keep hb2)
  have HB2 := Lib.hid hb2
  clear hb2
  go_wp2_with (first | (refine wpList_load_row rfl 28 _ rfl (w.heap.size) rfl _ (sC s.c vp vk) (0, 0) _ (by exact HX2.out) Tryz.underlying28 rfl (by kernel_rfl) ?_) | (refine wpList_load_row_w rfl 28 _ rfl (w.heap.size) rfl _ (sC s.c vp vk) (0, 0) _ (by exact HX2.out) Tryz.underlying28 rfl (by kernel_rfl) ?_))
  refine (HGA.out w2 HB2.out).mono ?_
  rintro e w3 ⟨rfl, hb3⟩
  have HX3 := Lib.hid (HX2.out.keep hb3)
  have HY3 := Lib.hid (HY2.out.keep hb3)
  have HB3 := Lib.hid (HB2.out.trans (hb3.mono HB2.out.size))
  clear hb3
  cases gr with
  | true =>
    go_wp2_with fail
    go_ret
    exact ⟨rfl, HB1.out.trans (HB3.out.mono HB1.out.size)⟩
  | false =>
  go_wp2_with (first | (refine wpList_load_row rfl 28 _ rfl (w.heap.size + 1) rfl _ (sC r.c up uk) (0, 0) _ (by exact HY3.out) Tryz.underlying28 rfl (by kernel_rfl) ?_) | (refine wpList_load_row_w rfl 28 _ rfl (w.heap.size + 1) rfl _ (sC r.c up uk) (0, 0) _ (by exact HY3.out) Tryz.underlying28 rfl (by kernel_rfl) ?_))
  refine (HGB.out w3 HB3.out).mono ?_
  rintro e w4 ⟨rfl, hb4⟩
  have HX4 := Lib.hid (HX3.out.keep hb4)
  have HY4 := Lib.hid (HY3.out.keep hb4)
  have HB4 := Lib.hid (HB3.out.trans (hb4.mono HB3.out.size))
  clear hb4
  cases gb with
  | true =>
    go_wp2_with fail
    go_ret
    exact ⟨rfl, HB1.out.trans (HB4.out.mono HB1.out.size)⟩
  | false =>
  go_wp2_with (first | (refine wpList_load_row rfl 28 _ rfl (w.heap.size) rfl _ (sC s.c vp vk) (0, 0) _ (by exact HX4.out) Tryz.underlying28 rfl (by kernel_rfl) ?_) | (refine wpList_load_row_w rfl 28 _ rfl (w.heap.size) rfl _ (sC s.c vp vk) (0, 0) _ (by exact HX4.out) Tryz.underlying28 rfl (by kernel_rfl) ?_))
  refine (HGI.out w4).mono ?_
  rintro e w5 ⟨rfl, hb5⟩
  have HX5 := Lib.hid (HX4.out.keep hb5)
  have HY5 := Lib.hid (HY4.out.keep hb5)
  have HB5 := Lib.hid (HB4.out.trans (hb5.mono HB4.out.size))
  clear hb5
  go_wp2_with fail
  cases hr : rightS s with
  | false =>
    have HR := Lib.hid hr
    refine (HTN.out hr w5 HB5.out).mono ?_
    rintro e w6 ⟨rfl, hb6⟩
    have HX6 := Lib.hid (HX5.out.keep hb6)
    have HY6 := Lib.hid (HY5.out.keep hb6)
    have HB6 := Lib.hid (HB5.out.trans (hb6.mono HB5.out.size))
    clear hb6
    rw [hr] at HRR HRI
    clear hr
    go_wp2_with (first | (refine wpList_load_row rfl 28 _ rfl (w.heap.size) rfl _ (sC s.c vp vk) (0, 0) _ (by exact HX6.out) Tryz.underlying28 rfl (by kernel_rfl) ?_) | (refine wpList_load_row_w rfl 28 _ rfl (w.heap.size) rfl _ (sC s.c vp vk) (0, 0) _ (by exact HX6.out) Tryz.underlying28 rfl (by kernel_rfl) ?_))
    refine (HRR.out w6 HB6.out).mono ?_
    rintro e w7 ⟨rfl, hb7⟩
    have X7 := HX6.out.keep hb7
    have Y7 := HY6.out.keep hb7
    have HX7 := Lib.hid X7
    have HY7 := Lib.hid Y7
    have HB7 := Lib.hid (HB6.out.trans (hb7.mono HB6.out.size))
    clear hb7
    have H1 : RowKit.Hid (∀ n : Gr w7, Below w1.heap.size w1 n.1) := Lib.hid (fun n => HB7.out.trans (n.2.mono HB7.out.size))
    cases sm
    all_goals
      go_upto_region 7 with fail
      refine wp_region_grown (by kernel_rfl) (by kernel_rfl) ?_
      repeat (first | (refine wpQuiet_load_row_w rfl 28 _ rfl w.heap.size rfl (sC s.c vp vk) 28 _ (by rintro _ ⟨n, rfl⟩; exact Bk.keep X7 n.2) Tryz.underlying28 rfl (by kernel_rfl) ?_; simp only [Act.put, List.setIfInBounds_toArray, List.set_cons_succ, List.set_cons_zero]) | (refine wpQuiet_load_row_w rfl 28 _ rfl (w.heap.size + 1) rfl (sC r.c up uk) 28 _ (by rintro _ ⟨n, rfl⟩; exact Bk.keep Y7 n.2) Tryz.underlying28 rfl (by kernel_rfl) ?_; simp only [Act.put, List.setIfInBounds_toArray, List.set_cons_succ, List.set_cons_zero]) | go_big_quiet_step (first | with_reducible exact grown_of (HGI.out _) | with_reducible exact grown_of (HGJ.out _) | with_reducible exact grown_of (HRI.out _ (H1.out _)) | with_reducible exact grown_of (HS1.out _ (H1.out _)) | with_reducible exact grown_of (HS2.out _ (H1.out _)) | with_reducible exact grown_of (HS3.out _ (H1.out _))))
      refine wpQuiet_nil ?_
      rintro w8 ⟨⟨_, hb8⟩, rfl⟩
      have HB8 := Lib.hid (HB7.out.trans (hb8.mono HB7.out.size))
      have HX8 := Lib.hid (HX7.out.keep hb8)
      clear hb8 X7 Y7
      go_wp2_with fail
      go_ret
      exact ⟨rfl, HB1.out.trans (HB8.out.mono HB1.out.size)⟩
  | true =>
    have HR := Lib.hid hr
    refine (HTY.out hr w5 HB5.out).mono ?_
    rintro e w6 ⟨rfl, hb6⟩
    have HX6 := Lib.hid (HX5.out.keep hb6)
    have HY6 := Lib.hid (HY5.out.keep hb6)
    have HB6 := Lib.hid (HB5.out.trans (hb6.mono HB5.out.size))
    clear hb6
    rw [hr] at HRR HRI
    clear hr
    go_wp2_with (first | (refine wpList_load_row rfl 28 _ rfl (w.heap.size) rfl _ (sC s.c vp vk) (0, 0) _ (by exact HX6.out) Tryz.underlying28 rfl (by kernel_rfl) ?_) | (refine wpList_load_row_w rfl 28 _ rfl (w.heap.size) rfl _ (sC s.c vp vk) (0, 0) _ (by exact HX6.out) Tryz.underlying28 rfl (by kernel_rfl) ?_))
    refine (HRR.out w6 HB6.out).mono ?_
    rintro e w7 ⟨rfl, hb7⟩
    have X7 := HX6.out.keep hb7
    have Y7 := HY6.out.keep hb7
    have HX7 := Lib.hid X7
    have HY7 := Lib.hid Y7
    have HB7 := Lib.hid (HB6.out.trans (hb7.mono HB6.out.size))
    clear hb7
    have H1 : RowKit.Hid (∀ n : Gr w7, Below w1.heap.size w1 n.1) := Lib.hid (fun n => HB7.out.trans (n.2.mono HB7.out.size))
    cases sm
    all_goals
      go_upto_region 7 with fail
      refine wp_region_grown (by kernel_rfl) (by kernel_rfl) ?_
      repeat (first | (refine wpQuiet_load_row_w rfl 28 _ rfl w.heap.size rfl (sC s.c vp vk) 28 _ (by rintro _ ⟨n, rfl⟩; exact Bk.keep X7 n.2) Tryz.underlying28 rfl (by kernel_rfl) ?_; simp only [Act.put, List.setIfInBounds_toArray, List.set_cons_succ, List.set_cons_zero]) | (refine wpQuiet_load_row_w rfl 28 _ rfl (w.heap.size + 1) rfl (sC r.c up uk) 28 _ (by rintro _ ⟨n, rfl⟩; exact Bk.keep Y7 n.2) Tryz.underlying28 rfl (by kernel_rfl) ?_; simp only [Act.put, List.setIfInBounds_toArray, List.set_cons_succ, List.set_cons_zero]) | go_big_quiet_step (first | with_reducible exact grown_of (HGI.out _) | with_reducible exact grown_of (HGJ.out _) | with_reducible exact grown_of (HRI.out _ (H1.out _)) | with_reducible exact grown_of (HS1.out _ (H1.out _)) | with_reducible exact grown_of (HS2.out _ (H1.out _)) | with_reducible exact grown_of (HS3.out _ (H1.out _))))
      refine wpQuiet_nil ?_
      rintro w8 ⟨⟨_, hb8⟩, rfl⟩
      have HB8 := Lib.hid (HB7.out.trans (hb8.mono HB7.out.size))
      have HX8 := Lib.hid (HX7.out.keep hb8)
      clear hb8 X7 Y7
      have hse := str_eqT tx
      go_wp2_with (first | (refine wpList_load_row rfl 28 _ rfl (w.heap.size) rfl _ (sC s.c vp vk) (0, 0) _ (by exact HX8.out) Tryz.underlying28 rfl (by kernel_rfl) ?_) | (refine wpList_load_row_w rfl 28 _ rfl (w.heap.size) rfl _ (sC s.c vp vk) (0, 0) _ (by exact HX8.out) Tryz.underlying28 rfl (by kernel_rfl) ?_))
      refine (HTR.out HR.out _ HB8.out).mono ?_
      rintro e w9 ⟨rfl, hb9⟩
      have HB9 := Lib.hid (HB8.out.trans (hb9.mono HB8.out.size))
      clear hb9
      go_wp2_with fail
      go_ret
      exact ⟨by simp, HB1.out.trans (HB9.out.mono HB1.out.size)⟩
end Go.Proofs.YtpmcedfeiconfaaGreatDoor.Scw

/- Layer 21: the law ScriptWhere, walked (made by genscwh.py). -/
namespace Go.Proofs.YtpmcedfeiconfaaGreatDoor.Scw
open Go Go.RowKit Go.ChangeMaps Go.Proofs.YtpmcedfeiconfaaGreatDoor.Gro Go.Proofs.YtpmcedfeiconfaaGreatDoor.Own Go.Proofs.YtpmcedfeiconfaaGreatDoor.Mr Go.Proofs.YtpmcedfeiconfaaGreatDoor.Opn Go.Proofs.YtpmcedfeiconfaaGreatDoor.Opw Go.Proofs.YtpmcedfeiconfaaGreatDoor.Pl Go.Proofs.YtpmcedfeiconfaaGreatDoor.Scr Go.Proofs.YtpmcedfeiconfaaGreatDoor.Wd
set_option linter.unusedVariables false
set_option linter.unusedSimpArgs false
theorem small_len5 {s : ScD} (hr : rightS s = true) (FT : FitS s) (hg : greatS s = false) : (textS s).length ≤ 50000 := by
  obtain ⟨g1, g2, g3⟩ := great_iff hg
  obtain ⟨r1, r2, r3, r4, r5, r6⟩ := (right_iff _).1 hr
  have hw := ok_ww r1
  have h0 : (hallL s.c).length ≤ 200 := by
    have := numsT_len (cfgL s.c) (ok_in r1)
    have e8 : (cfgL s.c).length = 8 := rfl
    rw [e8] at this
    unfold hallL
    rw [List.length_append]
    show 4 + _ ≤ _
    omega
  have h1 : (((progL 0 s.p).map (· ++ [10])).flatten).length ≤ (progL 0 s.p).length * (130 + 1) := flat_len _ _ fun l hl => by
    obtain ⟨w, o, q, rfl, h2, h3, h4⟩ := mem_progL _ _ _ hl
    have h5 := text_len (FT q h2 o h3)
    have h6 := dec_len (w : Int) (by omega)
    unfold doL
    simp only [List.length_append, List.length_cons]
    show 2 + _ ≤ _
    omega
  have h2 : ((((chunk s.k).map pickL).map (· ++ [10])).flatten).length ≤ ((chunk s.k).map pickL).length * (500 + 1) := flat_len _ _ fun l hl => by
    refine line_le hr FT l ?_
    unfold lines
    exact List.mem_cons_of_mem _ (List.mem_append_right _ hl)
  have h3 : (progL 0 s.p).length ≤ 30 * s.p.length := progL_lenN 30 s.p 0 g3
  have h4 : ((chunk s.k).map pickL).length ≤ 10 := by
    rw [chunk_pieces]
    simp only [List.length_map, List.length_range]
    omega
  have e : textS s = (hallL s.c ++ [10]) ++ ((((progL 0 s.p).map (· ++ [10])).flatten) ++ ((((chunk s.k).map pickL).map (· ++ [10])).flatten)) := by
    unfold textS lines
    simp only [List.map_cons, List.flatten_cons, List.map_append, List.flatten_append]
  rw [e, List.length_append, List.length_append, List.length_append, List.length_singleton]
  have h5 : (progL 0 s.p).length * (130 + 1) ≤ 300 * 131 := Nat.mul_le_mul_right _ (by omega)
  have h6 : ((chunk s.k).map pickL).length * (500 + 1) ≤ 10 * 501 := Nat.mul_le_mul_right _ h4
  omega
theorem endl_set : ∀ (L : List (List UInt8)) (k : Nat) (x : List UInt8), (endl (L.set k x)).length ≤ (endl L).length + x.length + 1
  | [], _, _ => by simp [endl]
  | l :: r, 0, x => by
    rw [List.set_cons_zero, endl_cons, endl_cons]
    simp only [List.length_append, List.length_cons]
    omega
  | l :: r, k + 1, x => by
    have := endl_set r k x
    rw [List.set_cons_succ, endl_cons, endl_cons]
    simp only [List.length_append, List.length_cons]
    omega
theorem bad_step {L : List (List UInt8)} {k i : Nat} (h : i < L.length) : endl ((L.set k walkL).take (i + 1)) = endl ((L.set k walkL).take i) ++ ((if i = k then walkL else L[i]) ++ [10]) := by
  rw [endl_take (L := L.set k walkL) (i := i) (by rw [List.length_set]; exact h)]
  congr 2
  rw [List.getElem_set]
  by_cases hk : k = i
  · rw [if_pos hk, if_pos hk.symm]
  · rw [if_neg hk, if_neg (fun e => hk e.symm)]
theorem front_step {L : List (List UInt8)} {k i : Nat} (h : i < L.length) : endl (L.take (min (i + 1) k)) = if i < k then endl (L.take (min i k)) ++ (L[i] ++ [10]) else endl (L.take (min i k)) := by
  by_cases hk : i < k
  · rw [if_pos hk, Nat.min_eq_left (by omega), Nat.min_eq_left (by omega), endl_take h]
  · rw [if_neg hk, Nat.min_eq_right (by omega), Nat.min_eq_right (by omega)]
theorem extract_last (t : List UInt8) (n : Nat) (h : n + 1 = t.length) : (ByteArray.mk t.toArray).extract 0 n = ⟨t.dropLast.toArray⟩ := by
  apply ByteArray.ext
  rw [ByteArray.data_extract]
  apply Array.ext'
  rw [Array.toList_extract]
  rw [List.dropLast_eq_take]
  simp [List.extract]
  omega
theorem where_front2 {s : ScD} (hr : rightS s = true) (F : FitS s) {k : Nat} (h0 : 0 < k) (hk : k < (lines s).length) {f : Nat} (hf : k ≤ f) :
    ∃ s', parseS f 1 (endl ((lines s).take k)) st0 = (some s', 0) := by
  obtain ⟨b, h⟩ := feed_lines hr F
  have e : lines s = (lines s).take k ++ (lines s).drop k := (List.take_append_drop _ _).symm
  rw [e] at h
  obtain ⟨s1, h1⟩ := feed_front h
  refine ⟨s1.s, parse_ok _ f 1 st0 s1 (fun hn => ?_) (fun x hx => lines_no10 s x (List.mem_of_mem_take hx)) (by rw [List.length_take]; omega) h1⟩
  have := congrArg List.length hn
  rw [List.length_take, List.length_nil] at this
  omega
set_option maxRecDepth 100000 in
set_option maxHeartbeats 16000000 in
theorem scriptWhere (s : ScD) (W : s.c.Wf) (FT : FitS s) (ap ak : Option Addr) (cp ck v : Nat) (hv : v ≤ 65535) (w : World) (L : Lb w) (RK : Reads w .i64 (.slice ak s.k.length ck) s.k) (RP : ReadsP w (.slice ap s.p.length cp) s.p) :
    Calls Tryz.prog 6 #[sV s.c (.slice ap s.p.length cp) (.slice ak s.k.length ck), .int .u16 (v : Int)] w fun e w' => e = .returned (.bool true) ∧ Below w.heap.size w w' := by
  obtain ⟨w1, hw1⟩ : ∃ q, q = w.alloc (.cells (sC s.c (.slice ap s.p.length cp) (.slice ak s.k.length ck)) 28) := ⟨_, rfl⟩
  have b1 : Below w.heap.size w w1 := by rw [hw1]; exact (Below.refl _ _).alloc (Nat.le_refl _) _
  have X1 : Bk w1 w.heap.size (sC s.c (.slice ap s.p.length cp) (.slice ak s.k.length ck)) 28 := by rw [hw1]; exact Bk.new w _ _
  have RK1 := RK.keep b1
  have RP1 := RP.keep b1
  have HL := Lib.hid (L.keep b1)
  have HGA := Lib.hid (fun w0 (hb : Below w1.heap.size w1 w0) => fGreat s ap ak cp ck w0 (RK1.keep hb) (RP1.keep hb))
  have HRR := Lib.hid (fun w0 (hb : Below w1.heap.size w1 w0) => rRight s W ap ak cp ck w0 (RK1.keep hb) (RP1.keep hb))
  have HLI := Lib.hid (fun (hr : rightS s = true) w0 (hb : Below w1.heap.size w1 w0) => rLines s hr FT ap ak cp ck w0 (HL.out.keep hb) (RK1.keep hb) (RP1.keep hb))
  have HTR := Lib.hid (fun (hr : rightS s = true) w0 (hb : Below w1.heap.size w1 w0) => rText s hr FT ap ak cp ck w0 (HL.out.keep hb) (RK1.keep hb) (RP1.keep hb))
  clear RK RP RK1 RP1 L
  obtain ⟨vp, hvp⟩ : ∃ q, q = Value.slice ap s.p.length cp := ⟨_, rfl⟩
  obtain ⟨vk, hvk⟩ : ∃ q, q = Value.slice ak s.k.length ck := ⟨_, rfl⟩
  rw [← hvp, ← hvk] at HGA HRR HLI HTR X1 hw1 ⊢
  clear hvp hvk
  have HX1 := Lib.hid X1
  have HB1 := Lib.hid b1
  have HF := Lib.hid FT
  have hvw : IntKind.i64.wrap (v : Int) = (v : Int) := IntWalk.i64_in _ (by omega)
  clear X1 b1 FT
  go_enter Tryz.func6, Tryz.ntmps6
  go_upto_region 1 with fail
  rw [← hw1]
  clear hw1
  go_wp2_with fail
  refine (awake w1 HL.out).mono ?_
  rintro e w2 ⟨rfl, hb2⟩
  have HX2 := Lib.hid (HX1.out.keep hb2)
  have HB2 := Lib.hid hb2
  clear hb2
  go_wp2_with (first | (refine wpList_load_row rfl 28 _ rfl (w.heap.size) rfl _ (sC s.c vp vk) (0, 0) _ (by exact HX2.out) Tryz.underlying28 rfl (by kernel_rfl) ?_) | (refine wpList_load_row_w rfl 28 _ rfl (w.heap.size) rfl _ (sC s.c vp vk) (0, 0) _ (by exact HX2.out) Tryz.underlying28 rfl (by kernel_rfl) ?_))
  refine (HGA.out w2 HB2.out).mono ?_
  rintro e w3 ⟨rfl, hb3⟩
  have HX3 := Lib.hid (HX2.out.keep hb3)
  have HB3 := Lib.hid (HB2.out.trans (hb3.mono HB2.out.size))
  clear hb3
  cases hg : greatS s with
  | true =>
    go_wp2_with fail
    go_ret
    exact ⟨rfl, HB1.out.trans (HB3.out.mono HB1.out.size)⟩
  | false =>
  have HG := Lib.hid hg
  clear hg
  go_wp2_with (first | (refine wpList_load_row rfl 28 _ rfl (w.heap.size) rfl _ (sC s.c vp vk) (0, 0) _ (by exact HX3.out) Tryz.underlying28 rfl (by kernel_rfl) ?_) | (refine wpList_load_row_w rfl 28 _ rfl (w.heap.size) rfl _ (sC s.c vp vk) (0, 0) _ (by exact HX3.out) Tryz.underlying28 rfl (by kernel_rfl) ?_))
  refine (HRR.out w3 HB3.out).mono ?_
  rintro e w4 ⟨rfl, hb4⟩
  have HX4 := Lib.hid (HX3.out.keep hb4)
  have HB4 := Lib.hid (HB3.out.trans (hb4.mono HB3.out.size))
  clear hb4
  cases hr : rightS s with
  | false =>
    go_wp2_with fail
    go_ret
    exact ⟨rfl, HB1.out.trans (HB4.out.mono HB1.out.size)⟩
  | true =>
  have HR := Lib.hid hr
  clear hr
  go_wp2_with (first | (refine wpList_load_row rfl 28 _ rfl (w.heap.size) rfl _ (sC s.c vp vk) (0, 0) _ (by exact HX4.out) Tryz.underlying28 rfl (by kernel_rfl) ?_) | (refine wpList_load_row_w rfl 28 _ rfl (w.heap.size) rfl _ (sC s.c vp vk) (0, 0) _ (by exact HX4.out) Tryz.underlying28 rfl (by kernel_rfl) ?_))
  refine (HLI.out HR.out w4 HB4.out).mono ?_
  rintro e w5 ⟨g, off, cap, rfl, hg, hc, h1, h2, hb5⟩
  have HX5 := Lib.hid (HX4.out.keep hb5)
  have HB5 := Lib.hid (HB4.out.trans (hb5.mono HB4.out.size))
  have hN := lines_count HR.out
  have hT5 := small_len5 HR.out HF.out HG.out
  have hpos : 0 < (lines s).length := by simp [lines]
  rw [textS_endl] at hT5
  have hk0 := Nat.mod_lt v hpos
  have HBAD := Lib.hid (fun k (hk : k < (lines s).length) {f : Nat} (hf : (lines s).length ≤ f) => where_bad HR.out HF.out hk hf)
  have HFRO := Lib.hid (fun k (h0 : 0 < k) (hk : k < (lines s).length) {f : Nat} (hf : k ≤ f) => where_front2 HR.out HF.out h0 hk hf)
  have HOPE := Lib.hid (fun (f : Nat) (hf : (lines s).length ≤ f) => where_open HR.out HF.out hf)
  have hte := textS_endl s
  obtain ⟨L, hL⟩ : ∃ L, L = lines s := ⟨_, rfl⟩
  rw [← hL] at hN hT5 hpos hk0 HBAD HFRO HOPE hte hc h1 ⊢
  obtain ⟨k, hk⟩ : ∃ k, k = v % L.length := ⟨_, rfl⟩
  rw [← hk] at hk0
  have htm : Int.tmod (v : Int) (L.length : Int) = (k : Int) := by rw [hk]; rfl
  have hnz : ¬ (L.length : Int) = 0 := by omega
  have hnz2 : ((L.length : Int) == 0) = false := by rw [beq_eq_false_iff_ne]; omega
  have HC := Lib.hid hc
  have HG5 := Lib.hid hg
  have HTE := Lib.hid hte
  have HPOS := Lib.hid hpos
  clear hc hg hb5 hL hk HLI hte hpos
  go_wp2_with fail
  go_loopw [7, 8, 9] (fun bv fv iv wr => ∃ n : Nat, n ≤ L.length ∧ iv = .int .i64 (n : Int) ∧ bv = strV (endl ((L.set k walkL).take n)) ∧ fv = strV (endl (L.take (min n k))) ∧ RowKit.Hid (Below w5.heap.size w5 wr)) (fun _ _ i _ => L.length - (intOf i).toNat)
  case atStart => exact ⟨0, Nat.zero_le _, rfl, by simp [endl], by simp [endl], Lib.hid (Below.refl _ _)⟩
  case round =>
    obtain ⟨n, hn, rfl, rfl, rfl, HW⟩ := hrel
    by_cases hlt : n < L.length
    · have hcell : wr.cell? ⟨g, off + n, none⟩ = some (strV L[n]) := (HW.out.cell (p := ⟨g, off + n, none⟩) HG5.out).trans (HC.out n hlt)
      have hgl := Nat.lt_of_lt_of_le HG5.out HW.out.size
      have hb1 := endl_take_le (L.set k walkL) (n + 1)
      have hb2 := endl_set L k walkL
      have hb3 := endl_take_le L (min (n + 1) k)
      have hs1 := bad_step (L := L) (k := k) hlt
      have hs2 := front_step (L := L) (k := k) hlt
      rw [hs1] at hb1
      rw [hs2] at hb3
      have HS1 := Lib.hid hs1
      have HS2 := Lib.hid hs2
      clear hs1 hs2
      obtain ⟨x, hx⟩ : ∃ x, x = endl ((L.set k walkL).take n) := ⟨_, rfl⟩
      obtain ⟨z, hz⟩ : ∃ z, z = endl (L.take (min n k)) := ⟨_, rfl⟩
      obtain ⟨y, hy⟩ : ∃ y, y = L[n] := ⟨_, rfl⟩
      rw [← hx, ← hz]
      rw [← hx, ← hy] at HS1 hb1
      rw [← hz, ← hy] at HS2 hb3
      rw [← hy] at hcell
      have hwl : walkL.length = 6 := rfl
      have hsum : IntKind.i64.wrap ((n : Int) + 1) = (n : Int) + 1 := IntWalk.i64_in _ (by omega)
      by_cases hnk : n = k
      · have hd1 : decide (n = k) = true := by simp [hnk]
        have hd2 : ¬ (n : Int) < (k : Int) := by omega
        have hd3 : ((n : Int) == (k : Int)) = true := by simp [hnk]
        have hlk : ¬ n < k := by omega
        rw [if_pos hnk] at HS1 hb1
        rw [if_neg hlk] at HS2 hb3
        have hq1 : ¬ 9223372036854775807 < (x.length : Int) + 7 := by
          rw [List.length_append, List.length_append] at hb1
          omega
        clear hx hy hz hb1 hb2 hb3 hwl hnk hd1 hlk
        go_wp2
        go_roundw
        case rel => exact ⟨n + 1, by omega, by go_num, by
          rw [HS1.out]
          refine congrArg Value.string ?_
          apply ByteArray.ext
          simp, by rw [HS2.out], HW⟩
        case measure => simp [intOf]; omega
      · have hd3 : ((n : Int) == (k : Int)) = false := by simp; omega
        rw [if_neg hnk] at HS1 hb1
        have hq1 : ¬ 9223372036854775807 < (x.length : Int) + (y.length : Int) := by
          rw [List.length_append, List.length_append] at hb1
          omega
        have hq2 : ¬ 9223372036854775807 < (x.length : Int) + (y.length : Int) + 1 := by
          rw [List.length_append, List.length_append] at hb1
          omega
        by_cases hlk : n < k
        · have hd2 : (n : Int) < (k : Int) := by omega
          rw [if_pos hlk] at HS2 hb3
          have hq3 : ¬ 9223372036854775807 < (z.length : Int) + (y.length : Int) := by
            rw [List.length_append, List.length_append] at hb3
            omega
          have hq4 : ¬ 9223372036854775807 < (z.length : Int) + (y.length : Int) + 1 := by
            rw [List.length_append, List.length_append] at hb3
            omega
          clear hx hy hz hb1 hb2 hb3 hwl hnk hlk
          go_wp2
          go_roundw
          case rel => exact ⟨n + 1, by omega, by go_num, by
            rw [HS1.out]
            refine congrArg Value.string ?_
            apply ByteArray.ext
            simp, by
            rw [HS2.out]
            refine congrArg Value.string ?_
            apply ByteArray.ext
            simp, HW⟩
          case measure => simp [intOf]; omega
        · have hd2 : ¬ (n : Int) < (k : Int) := by omega
          rw [if_neg hlk] at HS2 hb3
          clear hx hy hz hb1 hb2 hb3 hwl hnk hlk
          go_wp2
          go_roundw
          case rel => exact ⟨n + 1, by omega, by go_num, by
            rw [HS1.out]
            refine congrArg Value.string ?_
            apply ByteArray.ext
            simp, by rw [HS2.out], HW⟩
          case measure => simp [intOf]; omega
    · obtain rfl : n = L.length := by omega
      have e1 : (L.set k walkL).take L.length = L.set k walkL := List.take_of_length_le (by rw [List.length_set]; exact Nat.le_refl _)
      have e2 : min L.length k = k := Nat.min_eq_right (by omega)
      rw [e1, e2]
      have HB6 := Lib.hid (HB5.out.trans (HW.out.mono HB5.out.size))
      have HX6 := Lib.hid (HX5.out.keep HW.out)
      have hb2 := endl_set L k walkL
      have hwl : walkL.length = 6 := rfl
      have hb3 := endl_take_le L k
      have hfl : L.length ≤ (endl (L.set k walkL)).length + 1 := by
        have := endl_count (L.set k walkL)
        rw [List.length_set] at this
        omega
      have HP1 : RowKit.Hid (∀ w0, Below w1.heap.size w1 w0 → Calls Tryz.prog 16 #[strV (endl (L.set k walkL))] w0 (ParP (none, k + 1) w0)) := Lib.hid (fun w0 hb => by
        have h := fParseS (endl (L.set k walkL)) (by omega) w0 (HL.out.keep hb)
        rw [HBAD.out k hk0 hfl] at h
        exact h)
      have hkf : k ≤ (endl (L.take k)).length + 1 := by
        have := endl_count (L.take k)
        rw [List.length_take, Nat.min_eq_left (by omega)] at this
        omega
      obtain ⟨r2, hr2, hr3⟩ : ∃ r2, parseS ((endl (L.take k)).length + 1) 1 (endl (L.take k)) st0 = r2 ∧ ((k = 0 ∧ r2 = (none, 1)) ∨ (0 < k ∧ ∃ s', r2 = (some s', 0))) := by
        by_cases h0 : k = 0
        · refine ⟨_, rfl, .inl ⟨h0, ?_⟩⟩
          rw [h0]
          exact where_none (f := 1) (by decide)
        · obtain ⟨s', hs'⟩ := HFRO.out k (by omega) hk0 hkf
          exact ⟨_, rfl, .inr ⟨by omega, s', hs'⟩⟩
      have HP2 : RowKit.Hid (∀ w0, Below w1.heap.size w1 w0 → Calls Tryz.prog 16 #[strV (endl (L.take k))] w0 (ParP r2 w0)) := Lib.hid (fun w0 hb => by
        have h := fParseS (endl (L.take k)) (by omega) w0 (HL.out.keep hb)
        rw [hr2] at h
        exact h)
      obtain ⟨bd, hbd⟩ : ∃ q, q = endl (L.set k walkL) := ⟨_, rfl⟩
      obtain ⟨fr, hfr⟩ : ∃ q, q = endl (L.take k) := ⟨_, rfl⟩
      rw [← hbd] at HP1 ⊢
      rw [← hfr] at HP2 ⊢
      have HR3 := Lib.hid hr3
      obtain ⟨tx, htx⟩ : ∃ q, q = textS s := ⟨_, rfl⟩
      have htl : L.length ≤ tx.length ∧ tx.length ≤ 50000 := by rw [htx, HTE.out]; exact ⟨endl_count L, hT5⟩
      rw [← htx] at HTR HOPE
      have HTL := Lib.hid htl
      clear htx htl hT5
      clear e1 e2 hfl hkf hr2 hbd hfr hb2 hb3 hwl hr3
      go_wp2_with fail
      refine (HP1.out _ HB6.out).mono ?_
      rintro e A ⟨hbA, -, hn⟩
      obtain rfl := hn rfl
      clear hn
      have XA := Bk.new A scZ 34
      have bA : Below A.heap.size A (A.alloc (.cells scZ 34)) := (Below.refl _ _).alloc (Nat.le_refl _) _
      obtain ⟨A1, hA1⟩ : ∃ q, q = A.alloc (.cells scZ 34) := ⟨_, rfl⟩
      rw [← hA1] at XA bA
      obtain ⟨A2, hA2⟩ : ∃ q, q = A1.setRow A.heap.size scZ := ⟨_, rfl⟩
      have bA2 : Below A.heap.size A A2 := by rw [hA2]; exact below_setRow bA (Nat.le_refl _) _
      have HBA := Lib.hid (HB6.out.trans ((hbA.trans (bA2.mono hbA.size)).mono HB6.out.size))
      have HXA := Lib.hid XA
      have HYA := Lib.hid (HX6.out.keep (hbA.trans (bA2.mono hbA.size)))
      clear XA bA bA2 hbA
      go_wp2_with (first | (refine wpList_alloc_scz rfl rfl ?_; rw [← hA1]; clear hA1) | ((refine wpList_store_row rfl 34 _ _ rfl A.heap.size scZ rfl rfl _ _ (by exact HXA.out) (by kernel_rfl) (by kernel_rfl) (by kernel_rfl) ?_); rw [← hA2]; clear hA2))
      refine (HP2.out _ HBA.out).mono ?_
      rcases HR3.out with ⟨hk0, rfl⟩ | ⟨hk1, s', rfl⟩
      · clear HR3
        rintro e B ⟨hbB, -, hn⟩
        obtain rfl := hn rfl
        clear hn
        have XB := Bk.new B scZ 34
        have bB : Below B.heap.size B (B.alloc (.cells scZ 34)) := (Below.refl _ _).alloc (Nat.le_refl _) _
        obtain ⟨B1, hB1⟩ : ∃ q, q = B.alloc (.cells scZ 34) := ⟨_, rfl⟩
        rw [← hB1] at XB bB
        obtain ⟨B2, hB2⟩ : ∃ q, q = B1.setRow B.heap.size scZ := ⟨_, rfl⟩
        have bB2 : Below B.heap.size B B2 := by rw [hB2]; exact below_setRow bB (Nat.le_refl _) _
        have HBB := Lib.hid (HBA.out.trans ((hbB.trans (bB2.mono hbB.size)).mono HBA.out.size))
        have HXB := Lib.hid XB
        have HYB := Lib.hid (HYA.out.keep (hbB.trans (bB2.mono hbB.size)))
        clear XB bB bB2 hbB
        go_wp2_with (first |  (refine wpList_alloc_scz rfl rfl ?_; rw [← hB1]; clear hB1) | ((refine wpList_store_row rfl 34 _ _ rfl B.heap.size scZ rfl rfl _ _ (by exact HXB.out) (by kernel_rfl) (by kernel_rfl) (by kernel_rfl) ?_); rw [← hB2]; clear hB2) | (first | (refine wpList_load_row rfl 28 _ rfl (w.heap.size) rfl _ (sC s.c vp vk) (0, 0) _ (by exact HYB.out) Tryz.underlying28 rfl (by kernel_rfl) ?_) | (refine wpList_load_row_w rfl 28 _ rfl (w.heap.size) rfl _ (sC s.c vp vk) (0, 0) _ (by exact HYB.out) Tryz.underlying28 rfl (by kernel_rfl) ?_)))
        refine (HTR.out HR.out _ HBB.out).mono ?_
        rintro e D ⟨rfl, hbD⟩
        have HBD := Lib.hid (HBB.out.trans (hbD.mono HBB.out.size))
        have HYD := Lib.hid (HYB.out.keep hbD)
        clear hbD
        go_upto_region 19 with fail
        have hpos := HPOS.out
        have htl := HTL.out
        obtain ⟨m, hm⟩ : ∃ m, tx.length = m + 1 := ⟨tx.length - 1, by omega⟩
        have hm1 : IntKind.i64.wrap ((tx.length : Int) - 1) = (m : Int) := (IntWalk.i64_in _ (by omega)).trans (by omega)
        have hm2 : m ≤ tx.length := by omega
        have HEX := Lib.hid (extract_last tx m hm.symm)
        have hP3 := fParseS tx.dropLast (by rw [List.length_dropLast]; omega)
        rw [HOPE.out _ (by rw [List.length_dropLast]; omega)] at hP3
        have HP3 := Lib.hid (fun w0 (hb : Below w1.heap.size w1 w0) => hP3 w0 (HL.out.keep hb))
        clear hpos htl hm hP3
        go_wp2_with fail
        rw [HEX.out]
        refine (HP3.out _ HBD.out).mono ?_
        rintro e F ⟨hbF, -, hn⟩
        obtain rfl := hn rfl
        clear hn
        have XF := Bk.new F scZ 34
        have bF : Below F.heap.size F (F.alloc (.cells scZ 34)) := (Below.refl _ _).alloc (Nat.le_refl _) _
        obtain ⟨F1, hF1⟩ : ∃ q, q = F.alloc (.cells scZ 34) := ⟨_, rfl⟩
        rw [← hF1] at XF bF
        obtain ⟨F2, hF2⟩ : ∃ q, q = F1.setRow F.heap.size scZ := ⟨_, rfl⟩
        have bF2 : Below F.heap.size F F2 := by rw [hF2]; exact below_setRow bF (Nat.le_refl _) _
        have HBF := Lib.hid (HBD.out.trans ((hbF.trans (bF2.mono hbF.size)).mono HBD.out.size))
        have HXF := Lib.hid XF
        have HYF := Lib.hid (HYD.out.keep (hbF.trans (bF2.mono hbF.size)))
        clear XF bF bF2 hbF
        subst hk0
        go_wp2_with (first |  (refine wpList_alloc_scz rfl rfl ?_; rw [← hF1]; clear hF1) | ((refine wpList_store_row rfl 34 _ _ rfl F.heap.size scZ rfl rfl _ _ (by exact HXF.out) (by kernel_rfl) (by kernel_rfl) (by kernel_rfl) ?_); rw [← hF2]; clear hF2))
        go_ret
        exact ⟨by simp, HB1.out.trans (HBF.out.mono HB1.out.size)⟩
      · clear HR3
        rintro e B ⟨hbB, hy, -⟩
        obtain ⟨ap2, cp2, ak2, ck2, rfl, -, -⟩ := hy s' rfl
        clear hy
        have XB := Bk.new B scZ 34
        obtain ⟨B2, hB2⟩ : ∃ q, q = (B.alloc (.cells scZ 34)).setRow B.heap.size (sC s'.c (.slice ap2 s'.p.length cp2) (.slice ak2 s'.k.length ck2)) := ⟨_, rfl⟩
        have bB2 : Below B.heap.size B B2 := by rw [hB2]; exact below_setRow ((Below.refl _ _).alloc (Nat.le_refl _) _) (Nat.le_refl _) _
        have HBB := Lib.hid (HBA.out.trans ((hbB.trans (bB2.mono hbB.size)).mono HBA.out.size))
        have HXB := Lib.hid XB
        have HYB := Lib.hid (HYA.out.keep (hbB.trans (bB2.mono hbB.size)))
        clear XB bB2 hbB
        go_wp2_with (first | (refine wpList_alloc_scz rfl rfl ?_) | ((refine wpList_store_row rfl 34 _ _ rfl B.heap.size (sC s'.c (.slice ap2 s'.p.length cp2) (.slice ak2 s'.k.length ck2)) rfl rfl _ _ (by exact HXB.out) (by kernel_rfl) (by kernel_rfl) (by kernel_rfl) ?_); rw [← hB2]; clear hB2) | (first | (refine wpList_load_row rfl 28 _ rfl (w.heap.size) rfl _ (sC s.c vp vk) (0, 0) _ (by exact HYB.out) Tryz.underlying28 rfl (by kernel_rfl) ?_) | (refine wpList_load_row_w rfl 28 _ rfl (w.heap.size) rfl _ (sC s.c vp vk) (0, 0) _ (by exact HYB.out) Tryz.underlying28 rfl (by kernel_rfl) ?_)))
        refine (HTR.out HR.out _ HBB.out).mono ?_
        rintro e D ⟨rfl, hbD⟩
        have HBD := Lib.hid (HBB.out.trans (hbD.mono HBB.out.size))
        have HYD := Lib.hid (HYB.out.keep hbD)
        clear hbD
        go_upto_region 19 with fail
        have hpos := HPOS.out
        have htl := HTL.out
        obtain ⟨m, hm⟩ : ∃ m, tx.length = m + 1 := ⟨tx.length - 1, by omega⟩
        have hm1 : IntKind.i64.wrap ((tx.length : Int) - 1) = (m : Int) := (IntWalk.i64_in _ (by omega)).trans (by omega)
        have hm2 : m ≤ tx.length := by omega
        have HEX := Lib.hid (extract_last tx m hm.symm)
        have hP3 := fParseS tx.dropLast (by rw [List.length_dropLast]; omega)
        rw [HOPE.out _ (by rw [List.length_dropLast]; omega)] at hP3
        have HP3 := Lib.hid (fun w0 (hb : Below w1.heap.size w1 w0) => hP3 w0 (HL.out.keep hb))
        clear hpos htl hm hP3
        go_wp2_with fail
        rw [HEX.out]
        refine (HP3.out _ HBD.out).mono ?_
        rintro e F ⟨hbF, -, hn⟩
        obtain rfl := hn rfl
        clear hn
        have XF := Bk.new F scZ 34
        have bF : Below F.heap.size F (F.alloc (.cells scZ 34)) := (Below.refl _ _).alloc (Nat.le_refl _) _
        obtain ⟨F1, hF1⟩ : ∃ q, q = F.alloc (.cells scZ 34) := ⟨_, rfl⟩
        rw [← hF1] at XF bF
        obtain ⟨F2, hF2⟩ : ∃ q, q = F1.setRow F.heap.size scZ := ⟨_, rfl⟩
        have bF2 : Below F.heap.size F F2 := by rw [hF2]; exact below_setRow bF (Nat.le_refl _) _
        have HBF := Lib.hid (HBD.out.trans ((hbF.trans (bF2.mono hbF.size)).mono HBD.out.size))
        have HXF := Lib.hid XF
        have HYF := Lib.hid (HYD.out.keep (hbF.trans (bF2.mono hbF.size)))
        clear XF bF bF2 hbF
        have hkz : ((k : Int) == 0) = false := by rw [beq_eq_false_iff_ne]; omega
        have hkp : (0 : Int) < (k : Int) := by omega
        have hkw : IntKind.i64.wrap ((k : Int) + 1) = (k : Int) + 1 := IntWalk.i64_in _ (by omega)
        go_wp2_with (first |  (refine wpList_alloc_scz rfl rfl ?_; rw [← hF1]; clear hF1) | ((refine wpList_store_row rfl 34 _ _ rfl F.heap.size scZ rfl rfl _ _ (by exact HXF.out) (by kernel_rfl) (by kernel_rfl) (by kernel_rfl) ?_); rw [← hF2]; clear hF2))
        go_ret
        exact ⟨by simp, HB1.out.trans (HBF.out.mono HB1.out.size)⟩
theorem wf_u16 {n : Int} (h : (Lit.int .u16 n).wf = true) : 0 ≤ n ∧ n < 65536 := by
  simp only [Lit.wf, Bool.and_eq_true, decide_eq_true_eq] at h
  have h1 : IntKind.u16.min = 0 := by decide
  have h2 : IntKind.u16.max = 65535 := by decide
  omega
theorem scriptWhereN (s : ScD) (W : s.c.Wf) (FT : FitS s) (ap ak : Option Addr) (cp ck : Nat) (n : Int) (hn : 0 ≤ n ∧ n < 65536) (w : World) (L : Lb w) (RK : Reads w .i64 (.slice ak s.k.length ck) s.k) (RP : ReadsP w (.slice ap s.p.length cp) s.p) :
    Calls Tryz.prog 6 #[sV s.c (.slice ap s.p.length cp) (.slice ak s.k.length ck), .int .u16 n] w fun e w' => e = .returned (.bool true) ∧ Below w.heap.size w w' := by
  obtain ⟨v, rfl⟩ : ∃ v : Nat, n = v := ⟨n.toNat, by omega⟩
  exact scriptWhere s W FT ap ak cp ck v (by omega) w L RK RP
end Go.Proofs.YtpmcedfeiconfaaGreatDoor.Scw

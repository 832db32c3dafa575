/- Layer 21: the law ScriptBack, walked. -/
import Derived.Test.YtpmcedfeiconfaaGreatDoorScLaws
namespace Go.Proofs.YtpmcedfeiconfaaGreatDoor.Scw
open Go Go.RowKit Go.ChangeMaps Go.Proofs.YtpmcedfeiconfaaGreatDoor.Gro Go.Proofs.YtpmcedfeiconfaaGreatDoor.Own Go.Proofs.YtpmcedfeiconfaaGreatDoor.Mr Go.Proofs.YtpmcedfeiconfaaGreatDoor.Opn Go.Proofs.YtpmcedfeiconfaaGreatDoor.Opw Go.Proofs.YtpmcedfeiconfaaGreatDoor.Pl Go.Proofs.YtpmcedfeiconfaaGreatDoor.Scr Go.Proofs.YtpmcedfeiconfaaGreatDoor.Wd
set_option linter.unusedVariables false
set_option linter.unusedSimpArgs false
theorem progL_lenN (n : Nat) : ∀ (p : List (List OpD)) (w : Nat), (∀ l ∈ p, l.length ≤ n) → (progL w p).length ≤ n * p.length
  | [], w, h => by simp [progL]
  | l :: r, w, h => by
    have h1 := progL_lenN n r (w + 1) (fun x hx => h x (List.mem_cons_of_mem _ hx))
    have h2 := h l (by simp)
    rw [progL, List.length_append, List.length_map, List.length_cons, Nat.mul_succ]
    omega
theorem great_iff {s : ScD} (h : greatS s = false) : s.p.length ≤ 10 ∧ s.k.length ≤ 100 ∧ ∀ l ∈ s.p, l.length ≤ 30 := by
  unfold greatS at h
  simp only [Bool.or_eq_false_iff, decide_eq_false_iff_not] at h
  refine ⟨by omega, by omega, fun l hl => ?_⟩
  have h3 := h.2
  rw [Bool.eq_false_iff] at h3
  by_cases hc : l.length ≤ 30
  · exact hc
  · exact absurd (List.any_eq_true.2 ⟨l, hl, decide_eq_true (by omega)⟩) h3
theorem small_len {s : ScD} (hr : rightS s = true) (FT : FitS s) (hg : greatS s = false) : (textS s).length ≤ 100000 := by
  obtain ⟨g1, g2, g3⟩ := great_iff hg
  obtain ⟨r1, r2, r3, r4, r5, r6⟩ := (right_iff _).1 hr
  have hw := ok_ww r1
  have h0 : (hallL s.c).length ≤ 200 := by
    have := numsT_len (cfgL s.c) (ok_in r1)
    have e8 : (cfgL s.c).length = 8 := rfl
    rw [e8] at this
    unfold hallL
    rw [List.length_append]
    show 4 + _ ≤ _
    omega
  have h1 : (((progL 0 s.p).map (· ++ [10])).flatten).length ≤ (progL 0 s.p).length * (130 + 1) := flat_len _ _ fun l hl => by
    obtain ⟨w, o, q, rfl, h2, h3, h4⟩ := mem_progL _ _ _ hl
    have h5 := text_len (FT q h2 o h3)
    have h6 := dec_len (w : Int) (by omega)
    unfold doL
    simp only [List.length_append, List.length_cons]
    show 2 + _ ≤ _
    omega
  have h2 : ((((chunk s.k).map pickL).map (· ++ [10])).flatten).length ≤ ((chunk s.k).map pickL).length * (500 + 1) := flat_len _ _ fun l hl => by
    refine line_le hr FT l ?_
    unfold lines
    exact List.mem_cons_of_mem _ (List.mem_append_right _ hl)
  have h3 : (progL 0 s.p).length ≤ 30 * s.p.length := progL_lenN 30 s.p 0 g3
  have h4 : ((chunk s.k).map pickL).length ≤ 10 := by
    rw [chunk_pieces]
    simp only [List.length_map, List.length_range]
    omega
  have e : textS s = (hallL s.c ++ [10]) ++ ((((progL 0 s.p).map (· ++ [10])).flatten) ++ ((((chunk s.k).map pickL).map (· ++ [10])).flatten)) := by
    unfold textS lines
    simp only [List.map_cons, List.flatten_cons, List.map_append, List.flatten_append]
  rw [e, List.length_append, List.length_append, List.length_append, List.length_singleton]
  have h5 : (progL 0 s.p).length * (130 + 1) ≤ 300 * 131 := Nat.mul_le_mul_right _ (by omega)
  have h6 : ((chunk s.k).map pickL).length * (500 + 1) ≤ 10 * 501 := Nat.mul_le_mul_right _ h4
  omega
theorem endl_count : ∀ (L : List (List UInt8)), L.length ≤ (endl L).length
  | [] => Nat.zero_le _
  | l :: r => by
    have := endl_count r
    rw [endl_cons]
    simp only [List.length_append, List.length_cons]
    omega
theorem parse_self {s : ScD} (hr : rightS s = true) (FT : FitS s) : parseS ((textS s).length + 1) 1 (textS s) st0 = (some s, 0) :=
  parse_back hr FT (by rw [textS_endl]; exact Nat.le_succ_of_le (endl_count _))
theorem same_self (s : ScD) : sameS s s = true := by
  unfold sameS
  have : SameP s.p s.p := fun i => rfl
  simp [this]
set_option maxRecDepth 100000 in
set_option maxHeartbeats 16000000 in
theorem fScTextNo (s : ScD) (W : s.c.Wf) (ap ak : Option Addr) (cp ck : Nat) (w : World) (RK : Reads w .i64 (.slice ak s.k.length ck) s.k) (RP : ReadsP w (.slice ap s.p.length cp) s.p) (hr : rightS s = false) :
    Calls Tryz.prog 9 #[sV s.c (.slice ap s.p.length cp) (.slice ak s.k.length ck)] w fun e w' => e = .returned (.tuple #[strV [], .int .i64 3]) ∧ Below w.heap.size w w' := by
  obtain ⟨c, p, k⟩ := s
  simp only at W RK RP ⊢
  obtain ⟨vp, hvp⟩ : ∃ q, q = Value.slice ap p.length cp := ⟨_, rfl⟩
  obtain ⟨vk, hvk⟩ : ∃ q, q = Value.slice ak k.length ck := ⟨_, rfl⟩
  rw [← hvp, ← hvk]
  have X1 := Bk.new w (sC c vp vk) 34
  have b1 : Below w.heap.size w (w.alloc (.cells (sC c vp vk) 34)) := (Below.refl _ _).alloc (Nat.le_refl _) _
  have HRT : RowKit.Hid (Calls Tryz.prog 12 #[sV c vp vk] (w.alloc (.cells (sC c vp vk) 34)) fun e w' => e = .returned (.bool false) ∧ Below (w.alloc (.cells (sC c vp vk) 34)).heap.size (w.alloc (.cells (sC c vp vk) 34)) w') := Lib.hid (by
    have h := fRightA ⟨c, p, k⟩ W ap ak cp ck (w.alloc (.cells (sC c vp vk) 34)) (RK.keep b1) (RP.keep b1)
    rw [hr] at h
    rw [hvp, hvk] at h ⊢
    exact h)
  obtain ⟨w1, hw1⟩ : ∃ q, q = w.alloc (.cells (sC c vp vk) 34) := ⟨_, rfl⟩
  rw [← hw1] at X1 b1 HRT
  have HX1 := Lib.hid X1
  have HB1 := Lib.hid b1
  clear X1 b1 RK RP hvp hvk hr
  go_enter Tryz.func9, Tryz.ntmps9
  go_upto_region 1 with fail
  rw [← hw1]
  clear hw1
  have x1 := HX1.out.cells
  have l1 := HX1.out.lt
  go_wp2_with (first | (refine wpList_load_row rfl 34 _ rfl w.heap.size rfl _ (sC c vp vk) (0, 0) _ (by exact HX1.out) Tryz.underlying34 rfl (by kernel_rfl) ?_))
  refine HRT.out.mono ?_
  rintro e w2 ⟨rfl, hb2⟩
  have HB2 := Lib.hid (HB1.out.trans (hb2.mono HB1.out.size))
  clear hb2 x1 l1
  go_wp2_with fail
  refine bodyPost_ret (results_tmp2 rfl _ _ _) rfl ?_
  exact ⟨rfl, HB2.out⟩
set_option maxRecDepth 100000 in
set_option maxHeartbeats 16000000 in
theorem scriptBack (s : ScD) (W : s.c.Wf) (FT : FitS s) (ap ak : Option Addr) (cp ck : Nat) (w : World) (L : Lb w) (RK : Reads w .i64 (.slice ak s.k.length ck) s.k) (RP : ReadsP w (.slice ap s.p.length cp) s.p) :
    Calls Tryz.prog 4 #[sV s.c (.slice ap s.p.length cp) (.slice ak s.k.length ck)] w fun e w' => e = .returned (.bool true) ∧ Below w.heap.size w w' := by
  have b1 : Below w.heap.size w (w.alloc (.cells (sC s.c (.slice ap s.p.length cp) (.slice ak s.k.length ck)) 28)) := (Below.refl _ _).alloc (Nat.le_refl _) _
  have X1 := Bk.new w (sC s.c (.slice ap s.p.length cp) (.slice ak s.k.length ck)) 28
  obtain ⟨w1, hw1⟩ : ∃ q, q = w.alloc (.cells (sC s.c (.slice ap s.p.length cp) (.slice ak s.k.length ck)) 28) := ⟨_, rfl⟩
  rw [← hw1] at b1 X1
  have RK1 := RK.keep b1
  have RP1 := RP.keep b1
  have HL := Lib.hid L
  obtain ⟨tx, htx⟩ : ∃ q, q = textS s := ⟨_, rfl⟩
  have HGR := Lib.hid (fun w0 (hb : Below w1.heap.size w1 w0) => fGreat s ap ak cp ck w0 (RK1.keep hb) (RP1.keep hb))
  have HGI := Lib.hid (fun w0 => fGiven s.c ap ak s.p.length cp s.k.length ck w0)
  have HRR := Lib.hid (fun w0 (hb : Below w1.heap.size w1 w0) => rRight s W ap ak cp ck w0 (RK1.keep hb) (RP1.keep hb))
  have HTN := Lib.hid (fun (hr : rightS s = false) w0 (hb : Below w1.heap.size w1 w0) => fScTextNo s W ap ak cp ck w0 (RK1.keep hb) (RP1.keep hb) hr)
  have HTY := Lib.hid (fun (hr : rightS s = true) w0 (hb : Below w1.heap.size w1 w0) (L0 : Lb w0) => fScText s W FT ap ak cp ck w0 L0 (RK1.keep hb) (RP1.keep hb) hr)
  have HSM := Lib.hid (fun (ap2 ak2 : Option Addr) (cp2 ck2 : Nat) w0 (hb : Below w1.heap.size w1 w0) (R1 : ReadsP w0 (.slice ap2 s.p.length cp2) s.p) (R2 : Reads w0 .i64 (.slice ak2 s.k.length ck2) s.k) => rSame s.c s.c s.p s.p s.k s.k ap2 ak2 ap ak cp2 ck2 cp ck w0 R1 R2 (RP1.keep hb) (RK1.keep hb))
  have HPL := Lib.hid (fun (ap2 ak2 : Option Addr) (cp2 ck2 : Nat) w0 => fPlain s.c ap2 ak2 s.p.length cp2 s.k.length ck2 w0)
  have HPA := Lib.hid (fun (hr : rightS s = true) (hg : greatS s = false) w0 (L0 : Lb w0) => fParseS (textS s) (small_len hr FT hg) w0 L0)
  have HPS := Lib.hid (fun (hr : rightS s = true) => parse_self hr FT)
  rw [← htx] at HTY HPA HPS
  clear htx RK RP RK1 RP1
  obtain ⟨vp, hvp⟩ : ∃ q, q = Value.slice ap s.p.length cp := ⟨_, rfl⟩
  obtain ⟨vk, hvk⟩ : ∃ q, q = Value.slice ak s.k.length ck := ⟨_, rfl⟩
  rw [← hvp, ← hvk] at HGR HGI HRR HTN HTY X1 hw1 ⊢
  simp only [← hvp, ← hvk] at HSM
  have HVP := Lib.hid hvp
  have HVK := Lib.hid hvk
  clear hvp hvk L
  have HX1 := Lib.hid X1
  have HB1 := Lib.hid b1
  clear X1 b1
  go_enter Tryz.func4, Tryz.ntmps4
  go_upto_region 1 with fail
  rw [← hw1]
  clear hw1
  go_wp2_with fail
  refine (awake w1 (HL.out.keep HB1.out)).mono ?_
  rintro e w2 ⟨rfl, hb2⟩
  have HX2 := Lib.hid (HX1.out.keep hb2)
  have HB2 := Lib.hid hb2
  clear hb2
  go_wp2_with (refine wpList_load_row rfl 28 _ rfl w.heap.size rfl _ (sC s.c vp vk) (0, 0) _ (by exact HX2.out) Tryz.underlying28 rfl (by kernel_rfl) ?_)
  refine (HGR.out w2 HB2.out).mono ?_
  rintro e w3 ⟨rfl, hb3⟩
  have HX3 := Lib.hid (HX2.out.keep hb3)
  have HB3 := Lib.hid (HB2.out.trans (hb3.mono HB2.out.size))
  clear hb3
  cases hg : greatS s with
  | true =>
    go_wp2_with fail
    go_ret
    exact ⟨rfl, HB1.out.trans (HB3.out.mono HB1.out.size)⟩
  | false =>
    have HG := Lib.hid hg
    clear hg
    go_wp2_with (refine wpList_load_row rfl 28 _ rfl w.heap.size rfl _ (sC s.c vp vk) (0, 0) _ (by exact HX3.out) Tryz.underlying28 rfl (by kernel_rfl) ?_)
    refine (HGI.out w3).mono ?_
    rintro e w4 ⟨rfl, hb4⟩
    have HX4 := Lib.hid (HX3.out.keep hb4)
    have HB4 := Lib.hid (HB3.out.trans (hb4.mono HB3.out.size))
    clear hb4
    go_wp2_with fail
    cases hr : rightS s with
    | false =>
      have HR := Lib.hid hr
      refine (HTN.out hr w4 HB4.out).mono ?_
      rintro e w5 ⟨rfl, hb5⟩
      have HX5 := Lib.hid (HX4.out.keep hb5)
      have HB5 := Lib.hid (HB4.out.trans (hb5.mono HB4.out.size))
      clear hb5 hr
      go_wp2_with (refine wpList_load_row rfl 28 _ rfl w.heap.size rfl _ (sC s.c vp vk) (0, 0) _ (by exact HX5.out) Tryz.underlying28 rfl (by kernel_rfl) ?_)
      refine (HRR.out w5 HB5.out).mono ?_
      rintro e w6 ⟨rfl, hb6⟩
      have HB6 := Lib.hid (HB5.out.trans (hb6.mono HB5.out.size))
      rw [HR.out]
      clear hb6
      go_wp2_with fail
      go_ret
      exact ⟨rfl, HB1.out.trans (HB6.out.mono HB1.out.size)⟩
    | true =>
      have HR := Lib.hid hr
      refine (HTY.out hr w4 HB4.out (HL.out.keep (HB1.out.trans (HB4.out.mono HB1.out.size)))).mono ?_
      rintro e w5 ⟨rfl, hb5⟩
      have HX5 := Lib.hid (HX4.out.keep hb5)
      have HB5 := Lib.hid (HB4.out.trans (hb5.mono HB4.out.size))
      clear hb5 hr
      go_wp2_with fail
      have hP := HPA.out HR.out HG.out w5 (HL.out.keep (HB1.out.trans (HB5.out.mono HB1.out.size)))
      rw [HPS.out HR.out] at hP
      refine hP.mono ?_
      clear hP
      rintro e w6 ⟨hb6, hy, -⟩
      obtain ⟨ap2, cp2, ak2, ck2, rfl, hRP, hRK⟩ := hy s rfl
      clear hy
      have X6 := Bk.new w6 scZ 34
      obtain ⟨w7, hw7⟩ : ∃ q, q = (w6.alloc (.cells scZ 34)).setRow w6.heap.size (sC s.c (.slice ap2 s.p.length cp2) (.slice ak2 s.k.length ck2)) := ⟨_, rfl⟩
      have X7 : Bk w7 w6.heap.size (sC s.c (.slice ap2 s.p.length cp2) (.slice ak2 s.k.length ck2)) 34 := by rw [hw7]; exact X6.setRow _
      have b67 : Below w6.heap.size w6 w7 := by rw [hw7]; exact below_setRow ((Below.refl _ _).alloc (Nat.le_refl _) _) (Nat.le_refl _) _
      have b57 := hb6.trans (b67.mono hb6.size)
      have HB7 := Lib.hid (HB5.out.trans (b57.mono HB5.out.size))
      have Y7 := HX5.out.keep b57
      have RP7 := hRP.keep b67
      have RK7 := hRK.keep b67
      have HS7 : RowKit.Hid (∀ w0, Below w7.heap.size w7 w0 → Calls Tryz.prog 14 #[sV s.c (.slice ap2 s.p.length cp2) (.slice ak2 s.k.length ck2), sV s.c vp vk] w0 fun e w' => e = .returned (.bool true) ∧ Below w0.heap.size w0 w') := Lib.hid (fun w0 hb => by
        have h := HSM.out ap2 ak2 cp2 ck2 w0 (HB7.out.trans (hb.mono HB7.out.size)) (RP7.keep hb) (RK7.keep hb)
        have e : sameS ⟨s.c, s.p, s.k⟩ ⟨s.c, s.p, s.k⟩ = true := same_self _
        rw [e] at h
        exact h)
      have HP7 := Lib.hid (HPL.out ap2 ak2 cp2 ck2)
      have HX6 := Lib.hid X6
      clear X6 b67 b57 hb6 hRP hRK RP7 RK7 HSM HPL HPA HPS HTY HTN HRR HGI HGR
      go_upto_region 1 with (first | (refine wpList_alloc_scz rfl rfl ?_) | ((refine wpList_store_row rfl 34 _ _ rfl w6.heap.size (sC s.c (.slice ap2 s.p.length cp2) (.slice ak2 s.k.length ck2)) rfl rfl _ _ (by exact HX6.out) (by kernel_rfl) (by kernel_rfl) (by kernel_rfl) ?_); rw [← hw7]; clear hw7))
      refine wp_region_grown (by kernel_rfl) (by kernel_rfl) ?_
      repeat (first | (refine wpQuiet_load_row_w rfl 34 _ rfl w6.heap.size rfl (sC s.c (.slice ap2 s.p.length cp2) (.slice ak2 s.k.length ck2)) 34 _ (by rintro _ ⟨n, rfl⟩; exact Bk.keep X7 n.2) Tryz.underlying34 rfl (by kernel_rfl) ?_; simp only [Act.put, List.setIfInBounds_toArray, List.set_cons_succ, List.set_cons_zero]) | (refine wpQuiet_load_row_w rfl 28 _ rfl w.heap.size rfl (sC s.c vp vk) 28 _ (by rintro _ ⟨n, rfl⟩; exact Bk.keep Y7 n.2) Tryz.underlying28 rfl (by kernel_rfl) ?_; simp only [Act.put, List.setIfInBounds_toArray, List.set_cons_succ, List.set_cons_zero]) | go_big_quiet_step (first | with_reducible exact grown_of (HP7.out _) | with_reducible exact grown_of (HS7.out _ (Subtype.property _))))
      refine wpQuiet_nil ?_
      rintro w8 ⟨⟨_, hb8⟩, rfl⟩
      have HB8 := Lib.hid (HB7.out.trans (hb8.mono HB7.out.size))
      clear hb8 X7 Y7
      go_wp2
      go_ret
      exact ⟨rfl, HB1.out.trans (HB8.out.mono HB1.out.size)⟩
end Go.Proofs.YtpmcedfeiconfaaGreatDoor.Scw

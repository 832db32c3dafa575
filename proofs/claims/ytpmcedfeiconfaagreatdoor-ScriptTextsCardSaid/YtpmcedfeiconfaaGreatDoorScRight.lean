/- Layer 21: script.Right. -/
import Derived.Test.YtpmcedfeiconfaaGreatDoorScOps
import Derived.Test.YtpmcedfeiconfaaGreatDoorScHas
import Derived.Test.YtpmcedfeiconfaaGreatDoorScrs
namespace Go.Proofs.YtpmcedfeiconfaaGreatDoor.Scw
open Go Go.RowKit Go.ChangeMaps Go.Proofs.YtpmcedfeiconfaaGreatDoor.Gro Go.Proofs.YtpmcedfeiconfaaGreatDoor.Own Go.Proofs.YtpmcedfeiconfaaGreatDoor.Mr Go.Proofs.YtpmcedfeiconfaaGreatDoor.Opn Go.Proofs.YtpmcedfeiconfaaGreatDoor.Opw Go.Proofs.YtpmcedfeiconfaaGreatDoor.Pl Go.Proofs.YtpmcedfeiconfaaGreatDoor.Scr Go.Proofs.YtpmcedfeiconfaaGreatDoor.Wd
set_option linter.unusedVariables false
set_option linter.unusedSimpArgs false
/-- A slice of programs that reads as a list of lists. -/
def ReadsP (w : World) (v : Value) (p : List (List OpD)) : Prop :=
  ∃ ad cap, v = .slice ad p.length cap ∧ p.length ≤ cap ∧ cap ≤ maxLen ∧ (p = [] ∨ ∃ b off, ad = some ⟨b, off, none⟩ ∧ b < w.heap.size ∧ ∀ i (h : i < p.length), ∃ u, w.cell? ⟨b, off + i, none⟩ = some u ∧ ReadsO w u p[i])
theorem ReadsP.keep {w w' : World} {v : Value} {p : List (List OpD)} (h : ReadsP w v p) (hb : Below w.heap.size w w') : ReadsP w' v p := by
  obtain ⟨ad, cap, rfl, h1, h2, h3⟩ := h
  refine ⟨ad, cap, rfl, h1, h2, ?_⟩
  rcases h3 with h3 | ⟨b, off, rfl, hl, hc⟩
  · exact .inl h3
  · refine .inr ⟨b, off, rfl, Nat.lt_of_lt_of_le hl hb.size, fun i hi => ?_⟩
    obtain ⟨u, h1, h2⟩ := hc i hi
    exact ⟨u, (hb.cell (p := ⟨b, off + i, none⟩) hl).trans h1, h2.keep hb⟩
abbrev sC (c : Cfg) (vp vk : Value) : Array Value := #[.int .i64 c.ww, .int .i64 c.sl, .int .i64 c.bl, .int .i64 c.wd, .int .i64 c.en, .int .i64 c.rk, .int .i64 c.bg, .int .u64 c.la, vp, vk]
abbrev sV (c : Cfg) (vp vk : Value) : Value := .agg (sC c vp vk)
theorem cfg_mid {w : World} {g : Nat} {c : Cfg} {vp vk : Value} (B : Bk w g (sC c vp vk) 34) : w.rangeAt g 0 (cfgC c).toList := fun j v hv => by
  rw [Nat.zero_add, B.cells j]
  rcases j with _ | _ | _ | _ | _ | _ | _ | _ | j <;> first | exact hv | (simp [cfgC] at hv)
set_option maxRecDepth 100000 in
set_option maxHeartbeats 8000000 in
theorem fRightA (s : ScD) (W : s.c.Wf) (ap ak : Option Addr) (cp ck : Nat) (w : World) (RK : Reads w .i64 (.slice ak s.k.length ck) s.k) (RP : ReadsP w (.slice ap s.p.length cp) s.p) :
    Calls Tryz.prog 12 #[sV s.c (.slice ap s.p.length cp) (.slice ak s.k.length ck)] w fun e w' => e = .returned (.bool (rightS s)) ∧ Below w.heap.size w w' := by
  obtain ⟨c, p, k⟩ := s
  simp only at W RK RP ⊢
  obtain ⟨vp, hvp⟩ : ∃ q, q = Value.slice ap p.length cp := ⟨_, rfl⟩
  obtain ⟨vk, hvk⟩ : ∃ q, q = Value.slice ak k.length ck := ⟨_, rfl⟩
  obtain ⟨w1, hw1⟩ : ∃ q, q = w.alloc (.cells (sC c vp vk) 34) := ⟨_, rfl⟩
  have B1 : Bk w1 w.heap.size (sC c vp vk) 34 := by rw [hw1]; exact Bk.new w _ _
  have b1 : Below w.heap.size w w1 := by rw [hw1]; exact (Below.refl _ _).alloc (Nat.le_refl _) _
  have RK1 := Lib.hid (RK.keep b1)
  have RP1 := Lib.hid (RP.keep b1)
  have HB := Lib.hid b1
  have HC := Lib.hid (check c W w1)
  have x1 := B1.cells
  have lt1 := B1.lt
  have M1 := Lib.hid (cfg_mid B1)
  have HB1 := Lib.hid B1
  have hkl : k.length ≤ 9223372036854775807 := by
    obtain ⟨_, _, he, h1, h2, _⟩ := RK
    unfold maxLen at h2
    injection he with _ _ he
    subst he
    omega
  have hpl : p.length ≤ 9223372036854775807 := by
    obtain ⟨_, _, he, h1, h2, _⟩ := RP
    unfold maxLen at h2
    injection he with _ _ he
    subst he
    omega
  clear RK RP b1 B1
  have HS := Lib.hid (right_iff ⟨c, p, k⟩)
  subst hw1
  by_cases hc : chk c = 0
  · have hq : (chk c != 0) = false := by simp [hc]
    have hok : okC c = true := by unfold okC; simp [hc]
    have hww := ok_ww hok
    by_cases hp : (p.length : Int) ≤ c.ww
    case neg =>
      have HE : RowKit.Hid (rightS ⟨c, p, k⟩ = false) := Lib.hid (by unfold rightS; simp [hp])
      have hp2 : decide (c.ww < (p.length : Int)) = true := by simp; omega
      have hp3 : c.ww < (p.length : Int) := by omega
      clear hc hok
      subst hvp hvk
      go_enter Tryz.func12, Tryz.ntmps12
      go_wp2_with (first | (refine wpList_load_mid rfl 24 _ rfl w.heap.size 0 rfl (cfgC c).toList _ (by exact M1.out) Tryz.underlying24 rfl (by kernel_rfl) ?_))
      refine HC.out.mono ?_
      rintro e w2 ⟨rfl, hb2⟩
  
      have x2 := (HB1.out.keep hb2).cells
      have HB2 := Lib.hid (HB.out.trans (hb2.mono HB.out.size))
      clear hb2 x1
      go_wp2_with fail
      go_ret
      exact ⟨Wd.ret_bool HE.out.symm, HB2.out⟩
    by_cases hk : (k.length : Int) ≤ 2000
    case neg =>
      have HE : RowKit.Hid (rightS ⟨c, p, k⟩ = false) := Lib.hid (by
        have : ¬ k.length ≤ 2000 := by omega
        unfold rightS; simp [this])
      have hp2 : ¬ c.ww < (p.length : Int) := by omega
      have hk2 : 2000 < (k.length : Int) := by omega
      clear hc hok
      subst hvp hvk
      go_enter Tryz.func12, Tryz.ntmps12
      go_wp2_with (first | (refine wpList_load_mid rfl 24 _ rfl w.heap.size 0 rfl (cfgC c).toList _ (by exact M1.out) Tryz.underlying24 rfl (by kernel_rfl) ?_))
      refine HC.out.mono ?_
      rintro e w2 ⟨rfl, hb2⟩
  
      have x2 := (HB1.out.keep hb2).cells
      have HB2 := Lib.hid (HB.out.trans (hb2.mono HB.out.size))
      clear hb2 x1
      go_wp2_with fail
      go_ret
      exact ⟨Wd.ret_bool HE.out.symm, HB2.out⟩
    have hp2 : ¬ c.ww < (p.length : Int) := by omega
    have hk2 : ¬ 2000 < (k.length : Int) := by omega
    by_cases h0 : p = []
    · subst h0
      have HX : RowKit.Hid (rightS ⟨c, [], k⟩ = inR c k) := Lib.hid (by
        have h2 : k.length ≤ 2000 := by omega
        unfold rightS
        simp only [hok, hp, h2, decide_true, Bool.true_and]
        rfl)
      clear hc hok HS
      subst hvp hvk
      go_enter Tryz.func12, Tryz.ntmps12
      go_wp2_with (first | (refine wpList_load_mid rfl 24 _ rfl w.heap.size 0 rfl (cfgC c).toList _ (by exact M1.out) Tryz.underlying24 rfl (by kernel_rfl) ?_))
      refine HC.out.mono ?_
      rintro e w2 ⟨rfl, hb2⟩
      have x2 := (HB1.out.keep hb2).cells
      have HB2 := Lib.hid (HB.out.trans (hb2.mono HB.out.size))

      have B3 := HB1.out.keep hb2
      have M3 := Lib.hid (cfg_mid B3)
      have HK := Lib.hid (fExist c (.slice ak k.length ck) k w2 (RK1.out.keep hb2))
      clear hb2 B3 x1
      go_wp2_with fail
      refine wp_loop_rounds 1 ?_
      rw [rounds_succ]
      go_wp2_with (first | (refine wpList_load_mid rfl 24 _ rfl w.heap.size 0 rfl (cfgC c).toList _ (by exact M3.out) Tryz.underlying24 rfl (by kernel_rfl) ?_))
      refine HK.out.mono ?_
      rintro e w3 ⟨rfl, hb3⟩
      have HB4 := Lib.hid (HB2.out.trans (hb3.mono HB2.out.size))
      clear hb3
      go_wp2_with fail
      go_ret
      exact ⟨Wd.ret_bool HX.out.symm, HB4.out⟩
    · have hpos : 0 < p.length := List.length_pos_iff.2 h0
      obtain ⟨_, _, he, _, _, hrp⟩ := RP1.out
      injection he with he1 _ he2
      subst he1 he2
      rcases hrp with hrp | ⟨b, off, rfl, hbl, hcell⟩
      · exact absurd hrp h0
      obtain ⟨u, hu1, hu2⟩ := hcell (p.length - 1) (by omega)
      obtain ⟨al, cl, rfl, hl1, hl2, _⟩ := hu2
      obtain ⟨q, hq0⟩ : ∃ q, q = p[p.length - 1]'(by omega) := ⟨_, rfl⟩
      rw [← hq0] at hu1 hl1
      have hlast : p.getLast? = some q := by rw [List.getLast?_eq_some_getLast h0, List.getLast_eq_getElem]; simp [hq0]
      by_cases hqe : q = []
      · have HE : RowKit.Hid (rightS ⟨c, p, k⟩ = false) := Lib.hid (by unfold rightS lastOk; rw [hlast]; simp [hqe])
        have hq1 : q.length = 0 := by rw [hqe]; rfl
        rw [hq1] at hu1
        clear hc hok hcell hlast hq0 hqe hq1 HS
        subst hvp hvk
        go_enter Tryz.func12, Tryz.ntmps12
        go_wp2_with (first | (refine wpList_load_mid rfl 24 _ rfl w.heap.size 0 rfl (cfgC c).toList _ (by exact M1.out) Tryz.underlying24 rfl (by kernel_rfl) ?_))
        refine HC.out.mono ?_
        rintro e w2 ⟨rfl, hb2⟩
        have x2 := (HB1.out.keep hb2).cells
        have HB2 := Lib.hid (HB.out.trans (hb2.mono HB.out.size))

        have z2 := (hb2.cell (p := ⟨b, off + (p.length - 1), none⟩) hbl).trans hu1
        clear hb2 x1
        go_wp2_with fail
        go_ret
        exact ⟨Wd.ret_bool HE.out.symm, HB2.out⟩
      · have hq1 : q.length ≠ 0 := fun h => hqe (List.length_eq_zero_iff.1 h)
        have hq2 : ((q.length : Int) == 0) = false := by simp; omega
        have HE : RowKit.Hid (rightS ⟨c, p, k⟩ = (p.all okP && inR c k)) := Lib.hid (by
          have h1 : lastOk p = true := by unfold lastOk; rw [hlast]; simp [hqe]
          have h2 : k.length ≤ 2000 := by omega
          unfold rightS
          simp only [hok, hp, h1, h2, decide_true, Bool.true_and]
          rfl)
        have HCE := Lib.hid hcell
        have HBL := Lib.hid hbl
        have hqm : (q.length : Int) ≤ 9223372036854775807 := by unfold maxLen at hl2; omega
        clear hc hok hcell hlast hq0 hqe hq1 HS
        subst hvp hvk
        go_enter Tryz.func12, Tryz.ntmps12
        go_wp2_with (first | (refine wpList_load_mid rfl 24 _ rfl w.heap.size 0 rfl (cfgC c).toList _ (by exact M1.out) Tryz.underlying24 rfl (by kernel_rfl) ?_))
        refine HC.out.mono ?_
        rintro e w2 ⟨rfl, hb2⟩
        have x2 := (HB1.out.keep hb2).cells
        have HB2 := Lib.hid (HB.out.trans (hb2.mono HB.out.size))

        have z2 := (hb2.cell (p := ⟨b, off + (p.length - 1), none⟩) hbl).trans hu1
        have HX2 := Lib.hid hb2
        clear hb2 x1 hbl hu1
        go_wp2_with fail
        go_loopw [41] (fun i wr => ∃ n : Nat, n ≤ p.length ∧ i = .int .i64 n ∧ RowKit.Hid (∀ j (h : j < n) (h1 : j < p.length), okP p[j] = true) ∧ RowKit.Hid (Below w2.heap.size w2 wr)) (fun i _ => p.length - (intOf i).toNat)
        case atStart => exact ⟨0, Nat.zero_le _, rfl, Lib.hid (fun j h => by omega), Lib.hid (Below.refl _ _)⟩
        case round =>
          obtain ⟨n, hn, rfl, HA, HW⟩ := hrel
          have b3 := (HX2.out).trans (HW.out.mono HX2.out.size)
          have HB3 := Lib.hid (HB.out.trans (b3.mono HB.out.size))
          by_cases hlt : n < p.length
          · obtain ⟨u, hu1, hu2⟩ := HCE.out n hlt
            have hu3 := hu2.keep b3
            have q1 := (b3.cell (p := ⟨b, off + n, none⟩) HBL.out).trans hu1
            have HP := Lib.hid (fRightProgram u p[n] wr hu3)
            obtain ⟨x, hx⟩ : ∃ x, x = okP p[n] := ⟨_, rfl⟩
            rw [← hx] at HP
            obtain ⟨al2, cl2, rfl, hl3, hl4, _⟩ := hu2
            clear hu3 hu1 b3
            cases x with
            | true =>
              have HX := Lib.hid hx
              clear hx x2 z2
              go_wp2_with fail
              refine HP.out.mono ?_
              rintro e w3 ⟨rfl, hb3⟩
              have HW3 := Lib.hid (HW.out.trans (hb3.mono HW.out.size))
              clear hb3
              go_wp2
              go_roundw
              case rel => exact ⟨n + 1, by omega, by go_num, Lib.hid (fun j h h1 => by rcases Nat.lt_succ_iff_lt_or_eq.1 h with h | rfl; exact HA.out j h h1; exact HX.out.symm), HW3⟩
              case measure => simp [intOf]; omega
            | false =>
              have HX : RowKit.Hid (rightS ⟨c, p, k⟩ = false) := Lib.hid (by
                rw [HE.out]
                have : p.all okP = false := by
                  cases ha : p.all okP with
                  | false => rfl
                  | true => rw [List.all_eq_true.1 ha p[n] (List.getElem_mem hlt)] at hx; cases hx
                rw [this]
                rfl)
              clear hx x2 z2
              go_wp2_with fail
              refine HP.out.mono ?_
              rintro e w3 ⟨rfl, hb3⟩
              have HB4 := Lib.hid (HB3.out.trans (hb3.mono HB3.out.size))
              clear hb3
              go_wp2
              go_ret
              exact ⟨Wd.ret_bool HX.out.symm, HB4.out⟩
          · obtain rfl : n = p.length := by omega
            have HX : RowKit.Hid (rightS ⟨c, p, k⟩ = inR c k) := Lib.hid (by
              rw [HE.out]
              have : p.all okP = true := List.all_eq_true.2 fun x hx => by
                obtain ⟨j, hj, rfl⟩ := List.mem_iff_getElem.1 hx
                exact HA.out j hj hj
              rw [this]
              rfl)
            have B3 := HB1.out.keep b3
            have x3 := B3.cells
            have M3 := Lib.hid (cfg_mid B3)
            have HK := Lib.hid (fExist c (.slice ak k.length ck) k wr (RK1.out.keep b3))
            clear b3 B3 x2 z2
            go_wp2_with (first | (refine wpList_load_mid rfl 24 _ rfl w.heap.size 0 rfl (cfgC c).toList _ (by exact M3.out) Tryz.underlying24 rfl (by kernel_rfl) ?_))
            refine HK.out.mono ?_
            rintro e w3 ⟨rfl, hb3⟩
            have HB4 := Lib.hid (HB3.out.trans (hb3.mono HB3.out.size))
            clear hb3
            go_wp2_with fail
            go_ret
            exact ⟨Wd.ret_bool HX.out.symm, HB4.out⟩
  · have hq : (chk c != 0) = true := by simp [hc]
    have HE : RowKit.Hid (rightS ⟨c, p, k⟩ = false) := Lib.hid (by unfold rightS okC; simp [hc])
    clear hc
    subst hvp hvk
    go_enter Tryz.func12, Tryz.ntmps12
    go_wp2_with (first | (refine wpList_load_mid rfl 24 _ rfl w.heap.size 0 rfl (cfgC c).toList _ (by exact M1.out) Tryz.underlying24 rfl (by kernel_rfl) ?_))
    refine HC.out.mono ?_
    rintro e w2 ⟨rfl, hb2⟩
    have HB2 := Lib.hid (HB.out.trans (hb2.mono HB.out.size))
    clear hb2
    go_wp2_with fail
    go_ret
    exact ⟨Wd.ret_bool HE.out.symm, HB2.out⟩
end Go.Proofs.YtpmcedfeiconfaaGreatDoor.Scw

/- guard.Payload and the reference's. -/
import Derived.Test.YtgjkjobemnhbmaaRackPut
import Derived.IntWalk
namespace Go.Proofs.Ytgjkjobemnhbmaa.Wo
open Go Go.RowKit Go.Proofs.Ytgjkjobemnhbmaa.Gro Go.Proofs.Ytgjkjobemnhbmaa.Wd Go.Proofs.Ytgjkjobemnhbmaa.Ap
set_option linter.unusedVariables false
set_option linter.unusedSimpArgs false
theorem u64w (n : Int) : IntKind.u64.wrap n = n % 18446744073709551616 := by
  unfold IntKind.wrap
  rw [show IntKind.u64.bits = 64 from rfl]
  simp [IntKind.signed]
def payOk (x0 : Int) (l : List Int) : Prop := ∀ i (h : i < l.length), l[i] = IntKind.u64.wrap (x0 + i)
def refOk (l : List Int) : Prop := ∀ j (h : j + 1 < l.length), IntKind.u64.wrap (l[j + 1] - l[j]) = 1
theorem pay_iff {x0 : Int} {l : List Int} (h0 : l[0]? = some x0) (hf : ∀ x ∈ l, 0 ≤ x ∧ x < 18446744073709551616) : payOk x0 l ↔ refOk l := by
  have hr : ∀ i (h : i < l.length), 0 ≤ l[i] ∧ l[i] < 18446744073709551616 := fun i h => hf _ (List.getElem_mem h)
  obtain ⟨hl, rfl⟩ := List.getElem?_eq_some_iff.1 h0
  constructor
  · intro h j hj
    have h1 := h (j + 1) hj
    have h2 := h j (by omega)
    rw [u64w] at h1 h2 ⊢
    rw [h1, h2]
    omega
  · intro h i
    induction i with
    | zero =>
      intro hi
      have := hr 0 hi
      rw [u64w]
      omega
    | succ i ih =>
      intro hi
      have h1 := ih (by omega)
      have h2 := h i hi
      have h3 := hr (i + 1) hi
      have h4 := hr i (by omega)
      rw [u64w] at h1 h2 ⊢
      omega
def PayPost (x : Int) (b : Bool) (w : World) (e : Ending) (w' : World) : Prop := e = .returned (.tuple #[.int .u64 x, .bool b]) ∧ Below w.heap.size w w'
theorem payP_neg (n : Int) (v : Value) (hn : n < 1) (w : World) : Calls Try.prog 64 #[.int .i64 n, v] w (PayPost 0 false w) := by
  go_enter Try.func64, Try.ntmps64
  go_wp2
  go_ret2
  exact ⟨rfl, Below.refl _ _⟩
theorem payP_ne (n : Int) (ad : Option Addr) (len cap : Nat) (hn : ¬ n < 1) (hne : (len : Int) ≠ n) (w : World) : Calls Try.prog 64 #[.int .i64 n, .slice ad len cap] w (PayPost 0 false w) := by
  have h1 : ((len : Int) != n) = true := by simp [hne]
  have h2 : decide (n < 1) = false := by simp; omega
  clear hne hn
  go_enter Try.func64, Try.ntmps64
  go_wp2
  go_ret2
  exact ⟨rfl, Below.refl _ _⟩
set_option maxHeartbeats 1000000 in
theorem payP_loop (bb off cap : Nat) (l : List Int) (x0 : Int) (h0 : l[0]? = some x0) (w : World) (hm : l.length ≤ 1000) (hc : ∀ i (h : i < l.length), w.cell? ⟨bb, off + i, none⟩ = some (.int .u64 l[i])) {b : Bool} (hb : b = true ↔ payOk x0 l) {x : Int} (hx : (if b then x0 else 0) = x) :
    Calls Try.prog 64 #[.int .i64 l.length, .slice (some ⟨bb, off, none⟩) l.length cap] w (PayPost x b w) := by
  have hl : 0 < l.length := (List.getElem?_eq_some_iff.1 h0).1
  have q0 : w.cell? ⟨bb, off, none⟩ = some (.int .u64 x0) := by
    have := hc 0 hl
    rw [(List.getElem?_eq_some_iff.1 h0).2] at this
    exact this
  have HC := Lib.hid hc
  have HB := Lib.hid hb
  have HX := Lib.hid hx
  clear hc h0 hb hx
  have g1 : decide ((l.length : Int) < 1) = false := by simp; omega
  have g2 : ((l.length : Int) != (l.length : Int)) = false := by simp
  go_enter Try.func64, Try.ntmps64
  go_wp2
  go_loop [18] (fun i => ∃ k : Nat, k ≤ l.length ∧ i = .int .i64 k ∧ ∀ j (h : j < k) (h1 : j < l.length), l[j] = IntKind.u64.wrap (x0 + j)) (fun i => l.length - (intOf i).toNat)
  case atStart => exact ⟨0, Nat.zero_le _, rfl, fun j h => by omega⟩
  case round =>
    obtain ⟨k, hk, rfl, hall⟩ := hrel
    have HA := Lib.hid hall
    clear hall
    by_cases hlt : k < l.length
    · have q1 := HC.out k hlt
      have hk' : IntKind.u64.wrap (k : Int) = (k : Int) := by rw [u64w]; omega
      obtain ⟨z, hz⟩ : ∃ z, IntKind.u64.wrap (x0 + (k : Int)) = z := ⟨_, rfl⟩
      by_cases he : l[k] = z
      · have hb : (l[k] != z) = false := by simp [he]
        have HE := Lib.hid he
        have HZ := Lib.hid hz
        clear he
        go_wp2
        go_round
        case rel => exact ⟨k + 1, by omega, by go_num, fun j h h1 => by rcases Nat.lt_succ_iff_lt_or_eq.1 h with h | rfl; exact HA.out j h h1; exact HE.out.trans HZ.out.symm⟩
        case measure => simp [intOf]; omega
      · have hb : (l[k] != z) = true := by simp [he]
        have hbf : b = false := by
          cases hbb : b
          · rfl
          · exact absurd ((HB.out.1 hbb k hlt).trans hz) he
        have hx0 : x = 0 := by rw [← HX.out, hbf]; rfl
        subst hbf
        subst hx0
        clear he HA HB HX
        go_wp2
        go_ret2
        exact ⟨rfl, Below.refl _ _⟩
    · obtain rfl : l.length = k := by omega
      have hbt : b = true := HB.out.2 (fun i h => HA.out i h h)
      have hx0 : x = x0 := by rw [← HX.out, hbt]; rfl
      subst hbt
      subst hx0
      clear HA HB HX
      go_wp2
      go_ret2
      exact ⟨rfl, Below.refl _ _⟩
theorem payR_neg (n : Int) (v : Value) (hn : n < 1) (w : World) : Calls Try.prog 65 #[.int .i64 n, v] w (PayPost 0 false w) := by
  go_enter Try.func65, Try.ntmps65
  go_wp2
  go_ret2
  exact ⟨rfl, Below.refl _ _⟩
theorem payR_ne (n : Int) (ad : Option Addr) (len cap : Nat) (hn : ¬ n < 1) (hne : (len : Int) ≠ n) (w : World) : Calls Try.prog 65 #[.int .i64 n, .slice ad len cap] w (PayPost 0 false w) := by
  have h1 : ((len : Int) != n) = true := by simp [hne]
  have h2 : decide (n < 1) = false := by simp; omega
  clear hne hn
  go_enter Try.func65, Try.ntmps65
  go_wp2
  go_ret2
  exact ⟨rfl, Below.refl _ _⟩
set_option maxHeartbeats 1000000 in
theorem payR_loop (bb off cap : Nat) (l : List Int) (x0 : Int) (h0 : l[0]? = some x0) (w : World) (hm : l.length ≤ 1000) (hc : ∀ i (h : i < l.length), w.cell? ⟨bb, off + i, none⟩ = some (.int .u64 l[i])) {b : Bool} (hb : b = true ↔ refOk l) {x : Int} (hx : (if b then x0 else 0) = x) :
    Calls Try.prog 65 #[.int .i64 l.length, .slice (some ⟨bb, off, none⟩) l.length cap] w (PayPost x b w) := by
  have hl : 0 < l.length := (List.getElem?_eq_some_iff.1 h0).1
  have q0 : w.cell? ⟨bb, off, none⟩ = some (.int .u64 x0) := by
    have := hc 0 hl
    rw [(List.getElem?_eq_some_iff.1 h0).2] at this
    exact this
  have HC := Lib.hid hc
  have HB := Lib.hid hb
  have HX := Lib.hid hx
  have HQ := Lib.hid q0
  clear hc h0 hb hx q0
  have g1 : decide ((l.length : Int) < 1) = false := by simp; omega
  have g2 : ((l.length : Int) != (l.length : Int)) = false := by simp
  go_enter Try.func65, Try.ntmps65
  go_wp2
  go_loopw [6] (fun i wr => ∃ k : Nat, k + 1 ≤ l.length ∧ i = .int .i64 ((k : Int) + 1) ∧ (∀ j (h : j < k) (h1 : j + 1 < l.length), IntKind.u64.wrap (l[j + 1] - l[j]) = 1) ∧ ∃ n, wr = w.drewN n) (fun i _ => l.length - (intOf i).toNat)
  case atStart => exact ⟨0, hl, rfl, fun j h => by omega, 0, rfl⟩
  case round =>
    obtain ⟨k, hk, rfl, hall, n, rfl⟩ := hrel
    have HA := Lib.hid hall
    clear hall
    by_cases hlt : k + 1 < l.length
    · have q1 := HC.out (k + 1) hlt
      have q2 := HC.out k (by omega)
      have hs : IntKind.i64.wrap ((k : Int) + 1 - 1) = (k : Int) := by rw [IntWalk.i64_in _ (by omega)]; omega
      obtain ⟨z, hz⟩ : ∃ z, IntKind.u64.wrap (l[k + 1] - l[k]) = z := ⟨_, rfl⟩
      by_cases he : z = 1
      · have hb : (z != 1) = false := by simp [he]
        have HE := Lib.hid he
        have HZ := Lib.hid hz
        clear he
        go_wp2
        go_quiet (fail)
        go_wp2
        go_roundw
        case rel => exact ⟨k + 1, by omega, by go_num, fun j h h1 => by rcases Nat.lt_succ_iff_lt_or_eq.1 h with h | rfl; exact HA.out j h h1; exact HZ.out.trans HE.out, _, rfl⟩
        case measure => simp [intOf]; omega
      · have hb : (z != 1) = true := by simp [he]
        have hbf : b = false := by
          cases hbb : b
          · rfl
          · exact absurd (hz.symm.trans (HB.out.1 hbb k hlt)) he
        have hx0 : x = 0 := by rw [← HX.out, hbf]; rfl
        subst hbf
        subst hx0
        clear he HA HB HX
        go_wp2
        go_quiet (fail)
        go_wp2
        go_ret2
        exact ⟨rfl, gro_drewN (gro_drewN (Below.refl _ _))⟩
    · have hend : l.length = k + 1 := by omega
      have hbt : b = true := HB.out.2 (fun i h => HA.out i (by omega) h)
      have hx0 : x = x0 := by rw [← HX.out, hbt]; rfl
      subst hbt
      subst hx0
      have q0 := HQ.out
      clear HA HB HX HQ
      go_wp2
      go_ret2
      exact ⟨rfl, gro_drewN (Below.refl _ _)⟩
theorem payBoth {v : Sl} {l : List Int} {w : World} (h : Reads w .u64 v.v l) (hf : ∀ x ∈ l, 0 ≤ x ∧ x < 18446744073709551616) (hm : l.length ≤ 10) (n : Int) :
    ∃ x b, (∀ w', Below w.heap.size w w' → Calls Try.prog 64 #[.int .i64 n, v.v] w' (PayPost x b w')) ∧ (∀ w', Below w.heap.size w w' → Calls Try.prog 65 #[.int .i64 n, v.v] w' (PayPost x b w')) := by
  by_cases hn : n < 1
  · exact ⟨0, false, fun w' _ => payP_neg n _ hn w', fun w' _ => payR_neg n _ hn w'⟩
  by_cases hne : (l.length : Int) = n
  · subst hne
    have hl : 0 < l.length := by omega
    have h0 : l[0]? = some l[0] := List.getElem?_eq_getElem hl
    obtain ⟨b, hb0⟩ : ∃ b : Bool, b = true ↔ payOk l[0] l := by
      by_cases hp : payOk l[0] l
      · exact ⟨true, by simp [hp]⟩
      · exact ⟨false, by simp [hp]⟩
    refine ⟨if b then l[0] else 0, b, fun w' hb => ?_, fun w' hb => ?_⟩
    · obtain ⟨ad, cap, e, h1, h2, h3⟩ := h.keep hb
      rw [e]
      rcases h3 with rfl | ⟨bb, off, rfl, _, hc⟩
      · simp at hl
      · exact payP_loop bb off cap l _ h0 w' (by omega) hc hb0 rfl
    · obtain ⟨ad, cap, e, h1, h2, h3⟩ := h.keep hb
      rw [e]
      rcases h3 with rfl | ⟨bb, off, rfl, _, hc⟩
      · simp at hl
      · exact payR_loop bb off cap l _ h0 w' (by omega) hc (hb0.trans (pay_iff h0 hf)) rfl
  · obtain ⟨ad, cap, e, h1, h2, h3⟩ := h
    rw [e]
    exact ⟨0, false, fun w' _ => payP_ne n ad _ cap hn hne w', fun w' _ => payR_ne n ad _ cap hn hne w'⟩
end Go.Proofs.Ytgjkjobemnhbmaa.Wo

/- The five packed words as integers, and the bit expressions of the code and of the reference brought to that form. -/
import Derived.IntWalk
import Derived.Lib.EndianBits
import Derived.Test.YtgpdkagmacpghaaGreatRows
import Derived.WalkKit
import Derived.ProofKit
import Derived.OpenShut
import Derived.Outline
import Derived.LoopTactic
import Derived.Deep.QuietTactic
import Derived.BigQuiet
import Derived.Lib.Hide
namespace Go.Proofs.YtgpdkagmacpghaaGreat.Pk
open Go.RowKit (wrap64)
set_option linter.unusedVariables false

def hd (a w : Int) : Int := w % 4294967296 * 4294967296 + (a + 1) % 4294967296
def en (g b s : Int) : Int := g % 17592186044416 * 1048576 + (b + 1) % 65536 * 16 + s % 16
def an (e : Int) (b : Bool) : Int := e % 9223372036854775808 * 2 + if b then 1 else 0
def sl (s p t : Int) : Int := t % 281474976710656 * 65536 + p % 4096 * 16 + s % 16
def tk (e g : Int) : Int := g % 281474976710656 * 65536 + (e + 1) % 65536

theorem or_u64 (i : Nat) (x y : Int) (hx₀ : 0 ≤ x) (hx : x % 2 ^ i = 0) (hx₁ : x < 18446744073709551616) (hy₀ : 0 ≤ y) (hy : y < 2 ^ i) (hy₁ : y < 18446744073709551616) : bits .or .u64 x y = x + y :=
  bits_join .u64 64 (by decide) wraps_u64 i x y hx₀ hx (by simpa using hx₁) hy₀ hy (by simpa using hy₁)

theorem or3_u64 (i j : Nat) (x y z : Int) (hx₀ : 0 ≤ x) (hx : x % 2 ^ i = 0) (hx₁ : x < 18446744073709551616) (hy₀ : 0 ≤ y) (hy : y < 2 ^ i) (hy₁ : y < 18446744073709551616)
    (hxy : (x + y) % 2 ^ j = 0) (hs : x + y < 18446744073709551616) (hz₀ : 0 ≤ z) (hz : z < 2 ^ j) (hz₁ : z < 18446744073709551616) : bits .or .u64 (bits .or .u64 x y) z = x + y + z := by
  rw [or_u64 i x y hx₀ hx hx₁ hy₀ hy hy₁, or_u64 j (x + y) z (by omega) hxy hs hz₀ hz hz₁]

theorem hd_code (a w : Int) : bits .or .u64 (IntKind.u64.wrap (w * 4294967296)) (wrap64 (a + 1) % 4294967296) = hd a w := by
  rw [IntKind.wrap_u64]; unfold hd wrap64
  rw [or_u64 32 _ _ (by omega) (by omega) (by omega) (by omega) (by omega) (by omega)]; omega
theorem en_code (g b s : Int) : bits .or .u64 (bits .or .u64 (IntKind.u64.wrap (g * 1048576)) (IntKind.u64.wrap (IntKind.u64.wrap (IntKind.u16.wrap (wrap64 (b + 1))) * 16))) (IntKind.u64.wrap s % 16) = en g b s := by
  simp only [IntKind.wrap_u64, IntKind.wrap_u16]; unfold en wrap64
  rw [or3_u64 20 4 _ _ _ (by omega) (by omega) (by omega) (by omega) (by omega) (by omega) (by omega) (by omega) (by omega) (by omega) (by omega)]; omega
theorem an_code1 (e : Int) : bits .or .u64 (IntKind.u64.wrap (e * 2)) 1 = an e true := by
  rw [IntKind.wrap_u64]; unfold an
  rw [or_u64 1 _ _ (by omega) (by omega) (by omega) (by omega) (by omega) (by omega)]; simp; omega
theorem an_code0 (e : Int) : IntKind.u64.wrap (e * 2) = an e false := by
  rw [IntKind.wrap_u64]; unfold an; simp; omega
theorem sl_code (s p t : Int) : bits .or .u64 (bits .or .u64 (IntKind.u64.wrap (t * 65536)) (IntKind.u64.wrap (IntKind.u16.wrap (IntKind.u16.wrap p * 16)))) (IntKind.u64.wrap s % 16) = sl s p t := by
  simp only [IntKind.wrap_u64, IntKind.wrap_u16]; unfold sl
  rw [or3_u64 16 4 _ _ _ (by omega) (by omega) (by omega) (by omega) (by omega) (by omega) (by omega) (by omega) (by omega) (by omega) (by omega)]; omega
theorem tk_code (e g : Int) : bits .or .u64 (IntKind.u64.wrap (g * 65536)) (IntKind.u64.wrap (IntKind.u16.wrap (wrap64 (e + 1)))) = tk e g := by
  simp only [IntKind.wrap_u64, IntKind.wrap_u16]; unfold tk wrap64
  rw [or_u64 16 _ _ (by omega) (by omega) (by omega) (by omega) (by omega) (by omega)]; omega

theorem hd_rng (a w : Int) : 0 ≤ hd a w ∧ hd a w < 18446744073709551616 := by unfold hd; omega
theorem en_rng (g b s : Int) : 0 ≤ en g b s ∧ en g b s < 18446744073709551616 := by unfold en; omega
theorem an_rng (e : Int) (b : Bool) : 0 ≤ an e b ∧ an e b < 18446744073709551616 := by unfold an; split <;> omega
theorem sl_rng (s p t : Int) : 0 ≤ sl s p t ∧ sl s p t < 18446744073709551616 := by unfold sl; omega
theorem tk_rng (e g : Int) : 0 ≤ tk e g ∧ tk e g < 18446744073709551616 := by unfold tk; omega

theorem hd_back (w : Int) (h0 : 0 ≤ w) (h1 : w < 18446744073709551616) : hd (w % 4294967296 - 1) (w / 4294967296) = w := by unfold hd; omega
theorem en_back (w : Int) (h0 : 0 ≤ w) (h1 : w < 18446744073709551616) : en (w / 1048576) (w / 16 % 65536 - 1) (w % 16) = w := by unfold en; omega
theorem an_back (w : Int) (h0 : 0 ≤ w) (h1 : w < 18446744073709551616) : an (w / 2) (w % 2 == 1) = w := by unfold an; by_cases h : w % 2 = 1 <;> simp [h] <;> omega
theorem sl_back (w : Int) (h0 : 0 ≤ w) (h1 : w < 18446744073709551616) : sl (w % 16) (w / 16 % 4096) (w / 65536) = w := by unfold sl; omega
theorem tk_back (w : Int) (h0 : 0 ≤ w) (h1 : w < 18446744073709551616) : tk (w % 65536 - 1) (w / 65536) = w := by unfold tk; omega

theorem hd_fit1 (a v : Int) (ha : 0 ≤ a ∧ a < 65536) (hv : 0 ≤ v ∧ v < 4294967296) : hd (a - 1) v % 4294967296 - 1 = a - 1 := by unfold hd; omega
theorem hd_fit2 (a v : Int) (ha : 0 ≤ a ∧ a < 65536) (hv : 0 ≤ v ∧ v < 4294967296) : hd (a - 1) v / 4294967296 = v := by unfold hd; omega
theorem en_fit1 (v b x : Int) (hb : 0 ≤ b ∧ b < 65536) (hv : 0 ≤ v ∧ v < 4294967296) : en v (b - 1) (x % 16) / 1048576 = v := by unfold en; omega
theorem en_fit2 (v b x : Int) (hb : 0 ≤ b ∧ b < 65536) (hv : 0 ≤ v ∧ v < 4294967296) : en v (b - 1) (x % 16) / 16 % 65536 - 1 = b - 1 := by unfold en; omega
theorem en_fit3 (v b x : Int) (hb : 0 ≤ b ∧ b < 65536) (hv : 0 ≤ v ∧ v < 4294967296) : en v (b - 1) (x % 16) % 16 = x % 16 := by unfold en; omega
theorem an_fit1 (v : Int) (b : Bool) (hv : 0 ≤ v ∧ v < 4294967296) : an v b / 2 = v := by unfold an; split <;> omega
theorem an_fit2 (v : Int) (b : Bool) (hv : 0 ≤ v ∧ v < 4294967296) : (an v b % 2 == 1) = b := by unfold an; cases b <;> simp <;> omega
theorem sl_fit1 (x y v : Int) (hv : 0 ≤ v ∧ v < 4294967296) : sl (x % 16) (y % 16) v % 16 = x % 16 := by unfold sl; omega
theorem sl_fit2 (x y v : Int) (hv : 0 ≤ v ∧ v < 4294967296) : sl (x % 16) (y % 16) v / 16 % 4096 = y % 16 := by unfold sl; omega
theorem sl_fit3 (x y v : Int) (hv : 0 ≤ v ∧ v < 4294967296) : sl (x % 16) (y % 16) v / 65536 = v := by unfold sl; omega
theorem tk_fit1 (a v : Int) (ha : 0 ≤ a ∧ a < 65536) (hv : 0 ≤ v ∧ v < 4294967296) : tk (a - 1) v % 65536 - 1 = a - 1 := by unfold tk; omega
theorem tk_fit2 (a v : Int) (ha : 0 ≤ a ∧ a < 65536) (hv : 0 ≤ v ∧ v < 4294967296) : tk (a - 1) v / 65536 = v := by unfold tk; omega

end Go.Proofs.YtgpdkagmacpghaaGreat.Pk

/- Contracts of the functions of pack and of its reference: each returns the packed word (or its fields) as PackNum defines it and leaves the world alone. -/
namespace Go.Proofs.YtgpdkagmacpghaaGreat.Pk
open Go.RowKit
set_option linter.unusedVariables false
set_option linter.unusedSimpArgs false

theorem ret_int {k : IntKind} {a b : Int} (h : a = b) : Ending.returned (.int k a) = .returned (.int k b) := by rw [h]

theorem low4 (w0 : Int) (w : World) : Calls Tryz.prog 121 #[.int .u64 w0] w fun e w' => e = .returned (.int .u64 (w0 % 16)) ∧ w = w' := by
  go_enter Tryz.func121, Tryz.ntmps121
  go_wp2
  go_ret
  exact ⟨rfl, rfl⟩
theorem head (a v : Int) (w : World) : Calls Tryz.prog 101 #[.int .i64 a, .int .u64 v] w fun e w' => e = .returned (.int .u64 (hd a v)) ∧ w = w' := by
  go_enter Tryz.func101, Tryz.ntmps101
  go_wp2
  go_ret
  exact ⟨ret_int (hd_code a v), rfl⟩
theorem entry (g b s : Int) (w : World) : Calls Tryz.prog 102 #[.int .u64 g, .int .i64 b, .int .i64 s] w fun e w' => e = .returned (.int .u64 (en g b s)) ∧ w = w' := by
  go_enter Tryz.func102, Tryz.ntmps102
  go_wp2
  go_ret
  exact ⟨ret_int (en_code g b s), rfl⟩
theorem announce (x : Int) (b : Bool) (w : World) : Calls Tryz.prog 175 #[.int .u64 x, .bool b] w fun e w' => e = .returned (.int .u64 (an x b)) ∧ w = w' := by
  cases b
  · go_enter Tryz.func175, Tryz.ntmps175
    go_wp2
    go_ret
    exact ⟨ret_int (an_code0 x), rfl⟩
  · go_enter Tryz.func175, Tryz.ntmps175
    go_wp2
    go_ret
    exact ⟨ret_int (an_code1 x), rfl⟩
theorem slab (s p t : Int) (w : World) : Calls Tryz.prog 184 #[.int .i64 s, .int .i64 p, .int .u64 t] w fun e w' => e = .returned (.int .u64 (sl s p t)) ∧ w = w' := by
  go_enter Tryz.func184, Tryz.ntmps184
  go_wp2
  go_ret
  exact ⟨ret_int (sl_code s p t), rfl⟩
theorem ticket (x g : Int) (w : World) : Calls Tryz.prog 221 #[.int .i64 x, .int .u64 g] w fun e w' => e = .returned (.int .u64 (tk x g)) ∧ w = w' := by
  go_enter Tryz.func221, Tryz.ntmps221
  go_wp2
  go_ret
  exact ⟨ret_int (tk_code x g), rfl⟩

theorem unhead (v : Int) (h0 : 0 ≤ v) (h1 : v < 18446744073709551616) (w : World) : Calls Tryz.prog 218 #[.int .u64 v] w fun e w' => e = .returned (.tuple #[.int .i64 (v % 4294967296 - 1), .int .u64 (v / 4294967296)]) ∧ w = w' := by
  go_enter Tryz.func218, Tryz.ntmps218
  go_wp2
  go_ret2
  exact ⟨rfl, rfl⟩
theorem u16w (x : Int) : IntKind.u16.wrap x = x % 65536 := IntKind.wrap_u16 x
theorem unentry (v : Int) (h0 : 0 ≤ v) (h1 : v < 18446744073709551616) (w : World) : Calls Tryz.prog 200 #[.int .u64 v] w fun e w' => e = .returned (.tuple #[.int .u64 (v / 1048576), .int .i64 (v / 16 % 65536 - 1), .int .i64 (v % 16)]) ∧ w = w' := by
  have hu := u16w (v / 16)
  go_enter Tryz.func200, Tryz.ntmps200
  go_wp2
  go_ret3
  exact ⟨rfl, rfl⟩
theorem and1 (v : Int) (h0 : 0 ≤ v) (h1 : v < 18446744073709551616) : bits .and .u64 v 1 = v % 2 := by
  have h := bits_mask .u64 64 (by decide) wraps_u64 1 (by decide) v h0 (by simpa using h1)
  simpa using h
theorem mid3 {k : IntKind} {x z : Value} {a b : Int} (h : a = b) : Ending.returned (.tuple #[x, .int k a, z]) = .returned (.tuple #[x, .int k b, z]) := by rw [h]
theorem unannounce (v : Int) (h0 : 0 ≤ v) (h1 : v < 18446744073709551616) (w : World) : Calls Tryz.prog 209 #[.int .u64 v] w fun e w' => e = .returned (.tuple #[.int .u64 (v / 2), .bool (v % 2 == 1)]) ∧ w = w' := by
  have ha := and1 v h0 h1
  go_enter Tryz.func209, Tryz.ntmps209
  go_wp2
  go_ret2
  exact ⟨rfl, rfl⟩
theorem unslab (v : Int) (h0 : 0 ≤ v) (h1 : v < 18446744073709551616) (w : World) : Calls Tryz.prog 212 #[.int .u64 v] w fun e w' => e = .returned (.tuple #[.int .i64 (v % 16), .int .i64 (v / 16 % 4096), .int .u64 (v / 65536)]) ∧ w = w' := by
  have hu := u16w v
  go_enter Tryz.func212, Tryz.ntmps212
  go_wp2
  go_ret3
  exact ⟨mid3 (show v % 65536 / 16 = v / 16 % 4096 by omega), rfl⟩
theorem unticket (v : Int) (h0 : 0 ≤ v) (h1 : v < 18446744073709551616) (w : World) : Calls Tryz.prog 109 #[.int .u64 v] w fun e w' => e = .returned (.tuple #[.int .i64 (v % 65536 - 1), .int .u64 (v / 65536)]) ∧ w = w' := by
  have hu := u16w v
  go_enter Tryz.func109, Tryz.ntmps109
  go_wp2
  go_ret2
  exact ⟨rfl, rfl⟩

theorem pow_lt (k : Nat) (h : k ≤ 63) : (1 : Int) ≤ 2 ^ k ∧ (2 : Int) ^ k ≤ 9223372036854775808 := by
  have h1 : (2 : Nat) ^ k ≤ 2 ^ 63 := Nat.pow_le_pow_right (by decide) h
  have h2 : 1 ≤ (2 : Nat) ^ k := Nat.one_le_two_pow
  have e : ((2 ^ k : Nat) : Int) = (2 : Int) ^ k := by simp
  rw [← e]
  generalize (2 : Nat) ^ k = n at h1 h2
  have h3 : n ≤ 9223372036854775808 := Nat.le_trans h1 (by decide)
  omega
def p2 (k : Nat) : Int := 2 ^ k
theorem p2_lt (k : Nat) (h : k ≤ 63) : 1 ≤ p2 k ∧ p2 k ≤ 9223372036854775808 := pow_lt k h
theorem p2_succ (k : Nat) : p2 (k + 1) = p2 k * 2 := by unfold p2; exact Int.pow_succ 2 k

theorem power (k : Nat) (hk : k ≤ 63) (w : World) : Calls Tryz.prog 94 #[.int .i64 k] w fun e w' => e = .returned (.int .u64 (p2 k)) ∧ w = w' := by
  go_enter Tryz.func94, Tryz.ntmps94
  go_wp2
  go_loop [3, 4] (fun n i => ∃ j : Nat, j ≤ k ∧ i = .int .i64 j ∧ n = .int .u64 (p2 j)) (fun _ i => k - (intOf i).toNat)
  case atStart => exact ⟨0, Nat.zero_le _, rfl, rfl⟩
  case round =>
    obtain ⟨j, hj, rfl, rfl⟩ := hrel
    by_cases hlt : j < k
    · have hb := p2_lt (j + 1) (by omega)
      have hs := Lib.hid (p2_succ j)
      rw [p2_succ] at hb
      go_wp2
      go_round
      case rel => exact ⟨j + 1, by omega, by go_num, by rw [hs.out]⟩
      case measure => simp [intOf]; omega
    · obtain rfl : j = k := by omega
      go_wp2
      go_ret
      exact ⟨rfl, rfl⟩
theorem low (v : Int) (h0 : 0 ≤ v) (h1 : v < 18446744073709551616) (k : Nat) (hk : k ≤ 63) (w : World) : Calls Tryz.prog 93 #[.int .u64 v, .int .i64 k] w fun e w' => e = .returned (.int .u64 (v % p2 k)) ∧ w = w' := by
  go_enter Tryz.func93, Tryz.ntmps93
  go_wp2
  go_loop [5, 6] (fun n i => ∃ j : Nat, j ≤ k ∧ i = .int .i64 j ∧ n = .int .u64 (p2 j)) (fun _ i => k - (intOf i).toNat)
  case atStart => exact ⟨0, Nat.zero_le _, rfl, rfl⟩
  case round =>
    obtain ⟨j, hj, rfl, rfl⟩ := hrel
    by_cases hlt : j < k
    · have hb := p2_lt (j + 1) (by omega)
      have hs := Lib.hid (p2_succ j)
      rw [p2_succ] at hb
      go_wp2
      go_round
      case rel => exact ⟨j + 1, by omega, by go_num, by rw [hs.out]⟩
      case measure => simp [intOf]; omega
    · obtain rfl : j = k := by omega
      have hb := p2_lt j (by omega)
      have hne : (p2 j == 0) = false := by simp; omega
      go_wp2
      go_ret
      exact ⟨rfl, rfl⟩
theorem low' (v : Int) (h0 : 0 ≤ v) (h1 : v < 18446744073709551616) (k : Int) (hk : 0 ≤ k ∧ k ≤ 63) (w : World) : Calls Tryz.prog 93 #[.int .u64 v, .int .i64 k] w fun e w' => e = .returned (.int .u64 (v % p2 k.toNat)) ∧ w = w' := by
  obtain ⟨n, rfl⟩ := Int.eq_ofNat_of_zero_le hk.1
  exact low v h0 h1 n (by omega) w
theorem power' (k : Int) (hk : 0 ≤ k ∧ k ≤ 63) (w : World) : Calls Tryz.prog 94 #[.int .i64 k] w fun e w' => e = .returned (.int .u64 (p2 k.toNat)) ∧ w = w' := by
  obtain ⟨n, rfl⟩ := Int.eq_ofNat_of_zero_le hk.1
  exact power n (by omega) w
theorem p2_4 : p2 4 = 16 := by decide
theorem p2_12 : p2 12 = 4096 := by decide
theorem p2_16 : p2 16 = 65536 := by decide
theorem p2_20 : p2 20 = 1048576 := by decide
theorem p2_32 : p2 32 = 4294967296 := by decide
theorem p2_44 : p2 44 = 17592186044416 := by decide
theorem p2_48 : p2 48 = 281474976710656 := by decide
theorem p2_63 : p2 63 = 9223372036854775808 := by decide
theorem rentry (v b s : Int) (h0 : 0 ≤ v) (h1 : v < 18446744073709551616) (w : World) : Calls Tryz.prog 60 #[.int .u64 v, .int .i64 b, .int .i64 s] w fun e w' => e = .returned (.int .u64 (en v b s)) ∧ w = w' := by
  go_enter Tryz.func60, Tryz.ntmps60
  go_wp2_with (first | (go_at_call 93; refine (low' _ (by first | omega | (simp only [IntKind.wrap_u64]; omega)) (by first | omega | (simp only [IntKind.wrap_u64]; omega)) _ ⟨by omega, by omega⟩ _).mono ?_; rintro e w' ⟨rfl, rfl⟩) | (go_at_call 94; refine (power' _ ⟨by omega, by omega⟩ _).mono ?_; rintro e w' ⟨rfl, rfl⟩))
  go_ret
  exact ⟨ret_int (by simp only [IntKind.wrap_u64, p2_4, p2_12, p2_16, p2_20, p2_32, p2_44, p2_48, p2_63]; unfold en; omega), rfl⟩
theorem quiet_eq {P : Program} {f : FuncId} {args : Array Value} {w : World} {n : Nat} {v : Value}
    (h : Calls P f args (w.drewN n) fun e w' => e = .returned v ∧ w.drewN n = w') : Calls P f args (w.drewN n) fun e w'' => e = .returned v ∧ ∃ m, w'' = w.drewN m :=
  h.mono fun _ _ ⟨he, hm⟩ => ⟨he, n, hm.symm⟩
theorem runticket (v : Int) (h0 : 0 ≤ v) (h1 : v < 18446744073709551616) (w : World) : Calls Tryz.prog 85 #[.int .u64 v] w fun e w' => e = .returned (.tuple #[.int .i64 (v % 65536 - 1), .int .u64 (v / 65536)]) ∧ ∃ m, w' = w.drewN m := by
  have e0 := p2_16
  go_enter Tryz.func85, Tryz.ntmps85
  go_wp2
  go_quiet ((first | (go_at_call 93; exact quiet_eq (low' _ (by first | omega | (simp only [IntKind.wrap_u64]; omega)) (by first | omega | (simp only [IntKind.wrap_u64]; omega)) _ ⟨by omega, by omega⟩ _)) | (go_at_call 94; exact quiet_eq (power' _ ⟨by omega, by omega⟩ _))))
  go_wp2
  go_ret2
  exact ⟨rfl, _, rfl⟩
theorem hd_ex : hd 4 1 = 4294967301 := by decide
theorem tk_ex : tk 2 3 = 196611 := by decide
end Go.Proofs.YtgpdkagmacpghaaGreat.Pk

/- Part Packs. -/
import Derived.IntWalk
import Derived.Lib.EndianBits
import Derived.Test.YtaiodbcnbcdokaaGreatRows
import Derived.WalkKit
import Derived.ProofKit
import Derived.OpenShut
import Derived.Outline
import Derived.LoopTactic
import Derived.Deep.QuietTactic
import Derived.BigQuiet
import Derived.Lib.Hide
import Derived.Test.YtaiodbcnbcdokaaGreatKPz
set_option linter.unusedVariables false
set_option linter.unusedSimpArgs false
set_option linter.unusedSectionVars false
set_option maxRecDepth 100000
set_option maxHeartbeats 16000000
namespace Go.Proofs.YtaiodbcnbcdokaaGreat.Pk
open Go.RowKit (wrap64)
def hd (a w : Int) : Int := w % 4294967296 * 4294967296 + (a + 1) % 4294967296
def en (g b s : Int) : Int := g % 17592186044416 * 1048576 + (b + 1) % 65536 * 16 + s % 16
def an (e : Int) (b : Bool) : Int := e % 9223372036854775808 * 2 + if b then 1 else 0
def sl (s p t : Int) : Int := t % 281474976710656 * 65536 + p % 4096 * 16 + s % 16
def tk (e g : Int) : Int := g % 281474976710656 * 65536 + (e + 1) % 65536
theorem or_u64 (i : Nat) (x y : Int) (hx₀ : 0 ≤ x) (hx : x % 2 ^ i = 0) (hx₁ : x < 18446744073709551616) (hy₀ : 0 ≤ y) (hy : y < 2 ^ i) (hy₁ : y < 18446744073709551616) : bits .or .u64 x y = x + y :=
 bits_join .u64 64 aL wraps_u64 i x y hx₀ hx (by simpa using hx₁) hy₀ hy (by simpa using hy₁)
theorem or3_u64 (i j : Nat) (x y z : Int) (hx₀ : 0 ≤ x) (hx : x % 2 ^ i = 0) (hx₁ : x < 18446744073709551616) (hy₀ : 0 ≤ y) (hy : y < 2 ^ i) (hy₁ : y < 18446744073709551616)
  (hxy : (x + y) % 2 ^ j = 0) (hs : x + y < 18446744073709551616) (hz₀ : 0 ≤ z) (hz : z < 2 ^ j) (hz₁ : z < 18446744073709551616) : bits .or .u64 (bits .or .u64 x y) z = x + y + z := by
 rw [or_u64 i x y hx₀ hx hx₁ hy₀ hy hy₁, or_u64 j (x + y) z aj hxy hs hz₀ hz hz₁]
theorem hd_code (a w : Int) : bits .or .u64 (IntKind.u64.wrap (w * 4294967296)) (wrap64 (a + 1) % 4294967296) = hd a w := by
 rw [IntKind.wrap_u64]; unfold hd wrap64
 rw [or_u64 32 _ _ aj aj aj aj aj aj]; omega
theorem en_code (g b s : Int) : bits .or .u64 (bits .or .u64 (IntKind.u64.wrap (g * 1048576)) (IntKind.u64.wrap (IntKind.u64.wrap (IntKind.u16.wrap (wrap64 (b + 1))) * 16))) (IntKind.u64.wrap s % 16) = en g b s := by
 simp only [IntKind.wrap_u64, IntKind.wrap_u16]; unfold en wrap64
 rw [or3_u64 20 4 _ _ _ aj aj aj aj aj aj aj aj aj aj aj]; omega
theorem an_code1 (e : Int) : bits .or .u64 (IntKind.u64.wrap (e * 2)) 1 = an e true := by
 rw [IntKind.wrap_u64]; unfold an
 rw [or_u64 1 _ _ aj aj aj aj aj aj]; simp; omega
theorem an_code0 (e : Int) : IntKind.u64.wrap (e * 2) = an e false := by
 rw [IntKind.wrap_u64]; unfold an; simp; omega
theorem sl_code (s p t : Int) : bits .or .u64 (bits .or .u64 (IntKind.u64.wrap (t * 65536)) (IntKind.u64.wrap (IntKind.u16.wrap (IntKind.u16.wrap p * 16)))) (IntKind.u64.wrap s % 16) = sl s p t := by
 simp only [IntKind.wrap_u64, IntKind.wrap_u16]; unfold sl
 rw [or3_u64 16 4 _ _ _ aj aj aj aj aj aj aj aj aj aj aj]; omega
theorem tk_code (e g : Int) : bits .or .u64 (IntKind.u64.wrap (g * 65536)) (IntKind.u64.wrap (IntKind.u16.wrap (wrap64 (e + 1)))) = tk e g := by
 simp only [IntKind.wrap_u64, IntKind.wrap_u16]; unfold tk wrap64
 rw [or_u64 16 _ _ aj aj aj aj aj aj]; omega
theorem hd_rng (a w : Int) : 0 ≤ hd a w ∧ hd a w < 18446744073709551616 := by unfold hd; omega
end Go.Proofs.YtaiodbcnbcdokaaGreat.Pk
namespace Go.Proofs.YtaiodbcnbcdokaaGreat.Pk
open Go.RowKit
theorem cu {k : IntKind} {a b : Int} (h : a = b) : Ending.returned (.int k a) = .returned (.int k b) := by rw [h]
theorem head (a v : Int) (w : World) : Calls Tryz.prog 95 #[.int .i64 a, .int .u64 v] w fun e w' => e = .returned (.int .u64 (hd a v)) ∧ w = w' := by
 go_enter Tryz.func95, Tryz.ntmps95
 go_wp2
 go_ret
 exact ⟨cu (hd_code a v), rfl⟩
theorem entry (g b s : Int) (w : World) : Calls Tryz.prog 96 #[.int .u64 g, .int .i64 b, .int .i64 s] w fun e w' => e = .returned (.int .u64 (en g b s)) ∧ w = w' := by
 go_enter Tryz.func96, Tryz.ntmps96
 go_wp2
 go_ret
 exact ⟨cu (en_code g b s), rfl⟩
theorem announce (x : Int) (b : Bool) (w : World) : Calls Tryz.prog 182 #[.int .u64 x, .bool b] w fun e w' => e = .returned (.int .u64 (an x b)) ∧ w = w' := by
 cases b
 ·go_enter Tryz.func182, Tryz.ntmps182
  go_wp2
  go_ret
  exact ⟨cu (an_code0 x), rfl⟩
 ·go_enter Tryz.func182, Tryz.ntmps182
  go_wp2
  go_ret
  exact ⟨cu (an_code1 x), rfl⟩
theorem slab (s p t : Int) (w : World) : Calls Tryz.prog 191 #[.int .i64 s, .int .i64 p, .int .u64 t] w fun e w' => e = .returned (.int .u64 (sl s p t)) ∧ w = w' := by
 go_enter Tryz.func191, Tryz.ntmps191
 go_wp2
 go_ret
 exact ⟨cu (sl_code s p t), rfl⟩
theorem ticket (x g : Int) (w : World) : Calls Tryz.prog 52 #[.int .i64 x, .int .u64 g] w fun e w' => e = .returned (.int .u64 (tk x g)) ∧ w = w' := by
 go_enter Tryz.func52, Tryz.ntmps52
 go_wp2
 go_ret
 exact ⟨cu (tk_code x g), rfl⟩
theorem unhead (v : Int) (h0 : 0 ≤ v) (h1 : v < 18446744073709551616) (w : World) : Calls Tryz.prog 224 #[.int .u64 v] w fun e w' => e = .returned (.tuple #[.int .i64 (v % 4294967296 - 1), .int .u64 (v / 4294967296)]) ∧ w = w' := by
 go_enter Tryz.func224, Tryz.ntmps224
 go_wp2
 go_ret2
 exact ⟨rfl, rfl⟩
theorem u16w (x : Int) : IntKind.u16.wrap x = x % 65536 := IntKind.wrap_u16 x
theorem unentry (v : Int) (h0 : 0 ≤ v) (h1 : v < 18446744073709551616) (w : World) : Calls Tryz.prog 49 #[.int .u64 v] w fun e w' => e = .returned (.tuple #[.int .u64 (v / 1048576), .int .i64 (v / 16 % 65536 - 1), .int .i64 (v % 16)]) ∧ w = w' := by
 have hu := u16w (v / 16)
 go_enter Tryz.func49, Tryz.ntmps49
 go_wp2
 go_ret3
 exact ⟨rfl, rfl⟩
theorem and1 (v : Int) (h0 : 0 ≤ v) (h1 : v < 18446744073709551616) : bits .and .u64 v 1 = v % 2 := by
 have h := bits_mask .u64 64 aL wraps_u64 1 aL v h0 (by simpa using h1)
 simpa using h
theorem mid3 {k : IntKind} {x z : Value} {a b : Int} (h : a = b) : Ending.returned (.tuple #[x, .int k a, z]) = .returned (.tuple #[x, .int k b, z]) := by rw [h]
theorem unannounce (v : Int) (h0 : 0 ≤ v) (h1 : v < 18446744073709551616) (w : World) : Calls Tryz.prog 215 #[.int .u64 v] w fun e w' => e = .returned (.tuple #[.int .u64 (v / 2), .bool (v % 2 == 1)]) ∧ w = w' := by
 have ha := and1 v h0 h1
 go_enter Tryz.func215, Tryz.ntmps215
 go_wp2
 go_ret2
 exact ⟨rfl, rfl⟩
theorem unslab (v : Int) (h0 : 0 ≤ v) (h1 : v < 18446744073709551616) (w : World) : Calls Tryz.prog 218 #[.int .u64 v] w fun e w' => e = .returned (.tuple #[.int .i64 (v % 16), .int .i64 (v / 16 % 4096), .int .u64 (v / 65536)]) ∧ w = w' := by
 have hu := u16w v
 go_enter Tryz.func218, Tryz.ntmps218
 go_wp2
 go_ret3
 exact ⟨mid3 (show v % 65536 / 16 = v / 16 % 4096 by omega), rfl⟩
theorem eO (v : Int) (h0 : 0 ≤ v) (h1 : v < 18446744073709551616) (w : World) : Calls Tryz.prog 86 #[.int .u64 v] w fun e w' => e = .returned (.tuple #[.int .i64 (v % 65536 - 1), .int .u64 (v / 65536)]) ∧ w = w' := by
 have hu := u16w v
 go_enter Tryz.func86, Tryz.ntmps86
 go_wp2
 go_ret2
 exact ⟨rfl, rfl⟩
theorem pow_lt (k : Nat) (h : k ≤ 63) : (1 : Int) ≤ 2 ^ k ∧ (2 : Int) ^ k ≤ 9223372036854775808 := by
 have h1 : (2 : Nat) ^ k ≤ 2 ^ 63 := Nat.pow_le_pow_right aL h
 have h2 : 1 ≤ (2 : Nat) ^ k := Nat.one_le_two_pow
 have e : ((2 ^ k : Nat) : Int) = (2 : Int) ^ k := aF
 rw [← e]
 generalize (2 : Nat) ^ k = n at h1 h2
 have h3 : n ≤ 9223372036854775808 := Nat.le_trans h1 aL
 omega
def p2 (k : Nat) : Int := 2 ^ k
theorem p2_lt (k : Nat) (h : k ≤ 63) : 1 ≤ p2 k ∧ p2 k ≤ 9223372036854775808 := pow_lt k h
theorem p2_succ (k : Nat) : p2 (k + 1) = p2 k * 2 := by unfold p2; exact Int.pow_succ 2 k
theorem power (k : Nat) (hk : k ≤ 63) (w : World) : Calls Tryz.prog 108 #[.int .i64 k] w fun e w' => e = .returned (.int .u64 (p2 k)) ∧ w = w' := by
 go_enter Tryz.func108, Tryz.ntmps108
 go_wp2
 go_loop [3, 4] (fun n i => ∃ j : Nat, j ≤ k ∧ i = .int .i64 j ∧ n = .int .u64 (p2 j)) (fun _ i => k - (intOf i).toNat)
 case atStart => exact ⟨0, Nat.zero_le _, rfl, rfl⟩
 case round =>
  obtain ⟨j, hj, rfl, rfl⟩ := hrel
  by_cases hlt : j < k
  ·exact qa1x
  ·obtain rfl : j = k := by omega
   exact qa1g
theorem low (v : Int) (h0 : 0 ≤ v) (h1 : v < 18446744073709551616) (k : Nat) (hk : k ≤ 63) (w : World) : Calls Tryz.prog 107 #[.int .u64 v, .int .i64 k] w fun e w' => e = .returned (.int .u64 (v % p2 k)) ∧ w = w' := by
 go_enter Tryz.func107, Tryz.ntmps107
 go_wp2
 go_loop [5, 6] (fun n i => ∃ j : Nat, j ≤ k ∧ i = .int .i64 j ∧ n = .int .u64 (p2 j)) (fun _ i => k - (intOf i).toNat)
 case atStart => exact ⟨0, Nat.zero_le _, rfl, rfl⟩
 case round =>
  obtain ⟨j, hj, rfl, rfl⟩ := hrel
  by_cases hlt : j < k
  ·exact qa1x
  ·obtain rfl : j = k := by omega
   have hb := p2_lt j aj
   have hne : (p2 j == 0) = false := bq
   exact qa1g
theorem low' (v : Int) (h0 : 0 ≤ v) (h1 : v < 18446744073709551616) (k : Int) (hk : 0 ≤ k ∧ k ≤ 63) (w : World) : Calls Tryz.prog 107 #[.int .u64 v, .int .i64 k] w fun e w' => e = .returned (.int .u64 (v % p2 k.toNat)) ∧ w = w' := by
 obtain ⟨n, rfl⟩ := Int.eq_ofNat_of_zero_le hk.1
 exact low v h0 h1 n aj w
theorem power' (k : Int) (hk : 0 ≤ k ∧ k ≤ 63) (w : World) : Calls Tryz.prog 108 #[.int .i64 k] w fun e w' => e = .returned (.int .u64 (p2 k.toNat)) ∧ w = w' := by
 obtain ⟨n, rfl⟩ := Int.eq_ofNat_of_zero_le hk.1
 exact power n aj w
theorem p2_4 : p2 4 = 16 := aL
theorem p2_12 : p2 12 = 4096 := aL
theorem p2_16 : p2 16 = 65536 := aL
theorem p2_20 : p2 20 = 1048576 := aL
theorem p2_32 : p2 32 = 4294967296 := aL
theorem p2_44 : p2 44 = 17592186044416 := aL
theorem p2_48 : p2 48 = 281474976710656 := aL
theorem p2_63 : p2 63 = 9223372036854775808 := aL
theorem rentry (v b s : Int) (h0 : 0 ≤ v) (h1 : v < 18446744073709551616) (w : World) : Calls Tryz.prog 71 #[.int .u64 v, .int .i64 b, .int .i64 s] w fun e w' => e = .returned (.int .u64 (en v b s)) ∧ w = w' := by
 go_enter Tryz.func71, Tryz.ntmps71
 go_wp2_with (first | (go_at_call 107; refine (low' _ (by first | omega | (simp only [IntKind.wrap_u64]; omega)) (by first | omega | (simp only [IntKind.wrap_u64]; omega)) _ ⟨by omega, by omega⟩ _).mono ?_; rintro e w' ⟨rfl, rfl⟩) | (go_at_call 108; refine (power' _ ⟨by omega, by omega⟩ _).mono ?_; rintro e w' ⟨rfl, rfl⟩))
 go_ret
 exact ⟨cu (by simp only [IntKind.wrap_u64, p2_4, p2_12, p2_16, p2_20, p2_32, p2_44, p2_48, p2_63]; unfold en; omega), rfl⟩
end Go.Proofs.YtaiodbcnbcdokaaGreat.Pk

/- The five packed words as integers, and the bit expressions of the code and of the reference brought to that form. -/
import Derived.IntWalk
import Derived.Lib.EndianBits
namespace Go.Proofs.Yticgpikpefgldaa.Pk
open Go.RowKit (wrap64)
set_option linter.unusedVariables false

def hd (a w : Int) : Int := w % 4294967296 * 4294967296 + (a + 1) % 4294967296
def en (g b s : Int) : Int := g % 17592186044416 * 1048576 + (b + 1) % 65536 * 16 + s % 16
def an (e : Int) (b : Bool) : Int := e % 9223372036854775808 * 2 + if b then 1 else 0
def sl (s p t : Int) : Int := t % 281474976710656 * 65536 + p % 4096 * 16 + s % 16
def tk (e g : Int) : Int := g % 281474976710656 * 65536 + (e + 1) % 65536

theorem or_u64 (i : Nat) (x y : Int) (hx₀ : 0 ≤ x) (hx : x % 2 ^ i = 0) (hx₁ : x < 18446744073709551616) (hy₀ : 0 ≤ y) (hy : y < 2 ^ i) (hy₁ : y < 18446744073709551616) : bits .or .u64 x y = x + y :=
  bits_join .u64 64 (by decide) wraps_u64 i x y hx₀ hx (by simpa using hx₁) hy₀ hy (by simpa using hy₁)

theorem or3_u64 (i j : Nat) (x y z : Int) (hx₀ : 0 ≤ x) (hx : x % 2 ^ i = 0) (hx₁ : x < 18446744073709551616) (hy₀ : 0 ≤ y) (hy : y < 2 ^ i) (hy₁ : y < 18446744073709551616)
    (hxy : (x + y) % 2 ^ j = 0) (hs : x + y < 18446744073709551616) (hz₀ : 0 ≤ z) (hz : z < 2 ^ j) (hz₁ : z < 18446744073709551616) : bits .or .u64 (bits .or .u64 x y) z = x + y + z := by
  rw [or_u64 i x y hx₀ hx hx₁ hy₀ hy hy₁, or_u64 j (x + y) z (by omega) hxy hs hz₀ hz hz₁]

theorem hd_code (a w : Int) : bits .or .u64 (IntKind.u64.wrap (w * 4294967296)) (wrap64 (a + 1) % 4294967296) = hd a w := by
  rw [IntKind.wrap_u64]; unfold hd wrap64
  rw [or_u64 32 _ _ (by omega) (by omega) (by omega) (by omega) (by omega) (by omega)]; omega
theorem en_code (g b s : Int) : bits .or .u64 (bits .or .u64 (IntKind.u64.wrap (g * 1048576)) (IntKind.u64.wrap (IntKind.u64.wrap (IntKind.u16.wrap (wrap64 (b + 1))) * 16))) (IntKind.u64.wrap s % 16) = en g b s := by
  simp only [IntKind.wrap_u64, IntKind.wrap_u16]; unfold en wrap64
  rw [or3_u64 20 4 _ _ _ (by omega) (by omega) (by omega) (by omega) (by omega) (by omega) (by omega) (by omega) (by omega) (by omega) (by omega)]; omega
theorem an_code1 (e : Int) : bits .or .u64 (IntKind.u64.wrap (e * 2)) 1 = an e true := by
  rw [IntKind.wrap_u64]; unfold an
  rw [or_u64 1 _ _ (by omega) (by omega) (by omega) (by omega) (by omega) (by omega)]; simp; omega
theorem an_code0 (e : Int) : IntKind.u64.wrap (e * 2) = an e false := by
  rw [IntKind.wrap_u64]; unfold an; simp; omega
theorem sl_code (s p t : Int) : bits .or .u64 (bits .or .u64 (IntKind.u64.wrap (t * 65536)) (IntKind.u64.wrap (IntKind.u16.wrap (IntKind.u16.wrap p * 16)))) (IntKind.u64.wrap s % 16) = sl s p t := by
  simp only [IntKind.wrap_u64, IntKind.wrap_u16]; unfold sl
  rw [or3_u64 16 4 _ _ _ (by omega) (by omega) (by omega) (by omega) (by omega) (by omega) (by omega) (by omega) (by omega) (by omega) (by omega)]; omega
theorem tk_code (e g : Int) : bits .or .u64 (IntKind.u64.wrap (g * 65536)) (IntKind.u64.wrap (IntKind.u16.wrap (wrap64 (e + 1)))) = tk e g := by
  simp only [IntKind.wrap_u64, IntKind.wrap_u16]; unfold tk wrap64
  rw [or_u64 16 _ _ (by omega) (by omega) (by omega) (by omega) (by omega) (by omega)]; omega

theorem hd_rng (a w : Int) : 0 ≤ hd a w ∧ hd a w < 18446744073709551616 := by unfold hd; omega
theorem en_rng (g b s : Int) : 0 ≤ en g b s ∧ en g b s < 18446744073709551616 := by unfold en; omega
theorem an_rng (e : Int) (b : Bool) : 0 ≤ an e b ∧ an e b < 18446744073709551616 := by unfold an; split <;> omega
theorem sl_rng (s p t : Int) : 0 ≤ sl s p t ∧ sl s p t < 18446744073709551616 := by unfold sl; omega
theorem tk_rng (e g : Int) : 0 ≤ tk e g ∧ tk e g < 18446744073709551616 := by unfold tk; omega

theorem hd_back (w : Int) (h0 : 0 ≤ w) (h1 : w < 18446744073709551616) : hd (w % 4294967296 - 1) (w / 4294967296) = w := by unfold hd; omega
theorem en_back (w : Int) (h0 : 0 ≤ w) (h1 : w < 18446744073709551616) : en (w / 1048576) (w / 16 % 65536 - 1) (w % 16) = w := by unfold en; omega
theorem an_back (w : Int) (h0 : 0 ≤ w) (h1 : w < 18446744073709551616) : an (w / 2) (w % 2 == 1) = w := by unfold an; by_cases h : w % 2 = 1 <;> simp [h] <;> omega
theorem sl_back (w : Int) (h0 : 0 ≤ w) (h1 : w < 18446744073709551616) : sl (w % 16) (w / 16 % 4096) (w / 65536) = w := by unfold sl; omega
theorem tk_back (w : Int) (h0 : 0 ≤ w) (h1 : w < 18446744073709551616) : tk (w % 65536 - 1) (w / 65536) = w := by unfold tk; omega

theorem hd_fit1 (a v : Int) (ha : 0 ≤ a ∧ a < 65536) (hv : 0 ≤ v ∧ v < 4294967296) : hd (a - 1) v % 4294967296 - 1 = a - 1 := by unfold hd; omega
theorem hd_fit2 (a v : Int) (ha : 0 ≤ a ∧ a < 65536) (hv : 0 ≤ v ∧ v < 4294967296) : hd (a - 1) v / 4294967296 = v := by unfold hd; omega
theorem en_fit1 (v b x : Int) (hb : 0 ≤ b ∧ b < 65536) (hv : 0 ≤ v ∧ v < 4294967296) : en v (b - 1) (x % 16) / 1048576 = v := by unfold en; omega
theorem en_fit2 (v b x : Int) (hb : 0 ≤ b ∧ b < 65536) (hv : 0 ≤ v ∧ v < 4294967296) : en v (b - 1) (x % 16) / 16 % 65536 - 1 = b - 1 := by unfold en; omega
theorem en_fit3 (v b x : Int) (hb : 0 ≤ b ∧ b < 65536) (hv : 0 ≤ v ∧ v < 4294967296) : en v (b - 1) (x % 16) % 16 = x % 16 := by unfold en; omega
theorem an_fit1 (v : Int) (b : Bool) (hv : 0 ≤ v ∧ v < 4294967296) : an v b / 2 = v := by unfold an; split <;> omega
theorem an_fit2 (v : Int) (b : Bool) (hv : 0 ≤ v ∧ v < 4294967296) : (an v b % 2 == 1) = b := by unfold an; cases b <;> simp <;> omega
theorem sl_fit1 (x y v : Int) (hv : 0 ≤ v ∧ v < 4294967296) : sl (x % 16) (y % 16) v % 16 = x % 16 := by unfold sl; omega
theorem sl_fit2 (x y v : Int) (hv : 0 ≤ v ∧ v < 4294967296) : sl (x % 16) (y % 16) v / 16 % 4096 = y % 16 := by unfold sl; omega
theorem sl_fit3 (x y v : Int) (hv : 0 ≤ v ∧ v < 4294967296) : sl (x % 16) (y % 16) v / 65536 = v := by unfold sl; omega
theorem tk_fit1 (a v : Int) (ha : 0 ≤ a ∧ a < 65536) (hv : 0 ≤ v ∧ v < 4294967296) : tk (a - 1) v % 65536 - 1 = a - 1 := by unfold tk; omega
theorem tk_fit2 (a v : Int) (ha : 0 ≤ a ∧ a < 65536) (hv : 0 ≤ v ∧ v < 4294967296) : tk (a - 1) v / 65536 = v := by unfold tk; omega

end Go.Proofs.Yticgpikpefgldaa.Pk

/- Plain numbers: how a whole number is rounded by its bits. Nothing of the program. -/
import Derived.Test.YtnoccennhgnjnaaDigs
namespace Go.Proofs.Ytnoccennhgnjnaa.Near
open Ieee

theorem blen_lt (a : Nat) : a < 2 ^ blen a := by
  unfold blen
  split
  · rename_i h; rw [h]; decide
  · exact Nat.lt_log2_self
theorem blen_le {a k : Nat} (h : a < 2 ^ k) : blen a ≤ k := by
  unfold blen
  split
  · exact Nat.zero_le _
  · rename_i h0
    have := (Nat.log2_lt h0).2 h
    omega
theorem blen_nd (n : Nat) : blen n ≤ 24 * nd n := blen_le (by rw [← base_pow]; exact lt_nd n)
/-- how many bits are cut -/
def cutOf (a low : Nat) : Nat := max (blen a - 24) low
theorem cutE_nought (d : Nat) : cutE 0 d = 0 := by
  unfold cutE
  have p : 0 < 2 ^ d := Nat.two_pow_pos _
  simp
theorem rung_cut (a low : Nat) : rungW a (low + 149) = min ((cutOf a low - low) * 8388608 + cutE a (cutOf a low)) 2139095040 := by
  unfold rungW cutOf blen
  by_cases h : a = 0
  · rw [if_pos h, if_pos h]
    subst h
    rw [cutE_nought]
    have : max (0 - 24) low - low = 0 := by omega
    rw [this]; rfl
  · rw [if_neg h, if_neg h]
    have e1 : (-((low + 149 : Nat) : Int) - max (-((low + 149 : Nat) : Int) + (a.log2 : Int) - 23) (-149)).toNat = 0 := by omega
    have e2 : (max (-((low + 149 : Nat) : Int) + (a.log2 : Int) - 23) (-149) - -((low + 149 : Nat) : Int)).toNat = max (a.log2 + 1 - 24) low := by omega
    have e3 : (max (-((low + 149 : Nat) : Int) + (a.log2 : Int) - 23) (-149) - -149).toNat = max (a.log2 + 1 - 24) low - low := by omega
    rw [e1, e2, e3, Nat.shiftLeft_zero]

/-- what is rounded up -/
def upB (a c : Nat) : Bool := decide (0 < c) && (a / 2 ^ (c - 1) % 2 == 1) && (a % 2 ^ (c - 1) != 0 || a / 2 ^ c % 2 == 1)
theorem cutE_up (a c : Nat) : cutE a c = a / 2 ^ c + (upB a c).toNat := by
  unfold cutE upB
  congr 2
  cases c with
  | zero => simp [Nat.mod_one]
  | succ c =>
    have p : 0 < 2 ^ c := Nat.two_pow_pos _
    have e : 2 ^ (c + 1) = 2 ^ c * 2 := Nat.pow_succ ..
    have em : a % 2 ^ (c + 1) = a % 2 ^ c + 2 ^ c * (a / 2 ^ c % 2) := by rw [e, Nat.mod_mul]
    have hr : a % 2 ^ c < 2 ^ c := Nat.mod_lt _ p
    rw [em, Nat.add_sub_cancel, decide_eq_true (show 0 < c + 1 by omega), Bool.true_and]
    rw [e]
    generalize (a / (2 ^ c * 2) % 2 == 1) = odd
    rcases Nat.mod_two_eq_zero_or_one (a / 2 ^ c) with hb | hb
    · rw [hb, Nat.mul_zero, Nat.add_zero]
      generalize 2 ^ c = P at *
      generalize a % P = r at *
      rw [decide_eq_false (by omega), beq_eq_false_iff_ne.2 (show P * 2 ≠ 2 * r by omega)]
      rfl
    · rw [hb, Nat.mul_one]
      generalize 2 ^ c = P at *
      generalize a % P = r at *
      by_cases h0 : r = 0
      · subst h0
        rw [decide_eq_false (by omega), beq_iff_eq.2 (show P * 2 = 2 * (0 + P) by omega)]
        simp
      · rw [decide_eq_true (by omega)]
        simp [h0]

theorem bits_more (a i : Nat) : a % 2 ^ (i + 1) = a % 2 ^ i + 2 ^ i * (a / 2 ^ i % 2) := by rw [Nat.pow_succ, Nat.mod_mul]
theorem bits_top (a k : Nat) : a / 2 ^ k = 2 * (a / 2 ^ (k + 1)) + a / 2 ^ k % 2 := by
  rw [Nat.pow_succ, ← Nat.div_div_eq_div_mul]; omega
theorem cut_q (a low k : Nat) (h : cutOf a low ≤ k) : a / 2 ^ k < 16777216 := by
  have h1 := blen_lt a
  refine Nat.div_lt_of_lt_mul ?_
  refine Nat.lt_of_lt_of_le h1 ?_
  rw [show (16777216 : Nat) = 2 ^ 24 from rfl, ← Nat.pow_add]
  refine Nat.pow_le_pow_right (by decide) ?_
  unfold cutOf at h
  omega

/-- what 'rounded' answers -/
def outOf (a low : Nat) : Nat := (cutOf a low - low) * 8388608 + (a / 2 ^ cutOf a low + (upB a (cutOf a low)).toNat)
theorem near_out (neg : Bool) (a low : Nat) : keep (some (nearW neg a (low + 149))) = if outOf a low < 2139095040 then some (single.word neg (outOf a low)) else none := by
  have e : rungW a (low + 149) = min (outOf a low) 2139095040 := by rw [rung_cut, cutE_up]; rfl
  rw [nearW_form, e]
  unfold keep
  rw [Option.bind_some, finB_word (Nat.min_le_right _ _)]
  by_cases h : outOf a low < 2139095040
  · rw [if_pos h, Nat.min_eq_left (by omega), if_pos (by simpa using h)]
  · rw [if_neg h, Nat.min_eq_right (by omega)]; rfl

end Go.Proofs.Ytnoccennhgnjnaa.Near

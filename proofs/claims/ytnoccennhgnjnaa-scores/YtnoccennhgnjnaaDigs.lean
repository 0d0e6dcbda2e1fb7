/- Plain numbers: digits of 24 bits, the least first. Nothing of the program. -/
import Derived.Test.YtnoccennhgnjnaaMath
namespace Go.Proofs.Ytnoccennhgnjnaa.Near

/-- the j-th digit; how many there are -/
def dig (n j : Nat) : Nat := n / 16777216 ^ j % 16777216
def nd (n : Nat) : Nat := if n = 0 then 0 else n.log2 / 24 + 1

theorem base_pow (j : Nat) : 16777216 ^ j = 2 ^ (24 * j) := by rw [Nat.pow_mul]
theorem dig_lt (n j : Nat) : dig n j < 16777216 := Nat.mod_lt _ (by decide)
theorem nd_zero : nd 0 = 0 := rfl
theorem nd_pos {n : Nat} (h : n ≠ 0) : 0 < nd n := by unfold nd; rw [if_neg h]; omega
theorem zero_of_nd {n : Nat} (h : nd n = 0) : n = 0 := by
  by_cases e : n = 0
  · exact e
  · have := nd_pos e; omega
theorem lt_nd (n : Nat) : n < 16777216 ^ nd n := by
  unfold nd
  by_cases h : n = 0
  · subst h; decide
  · rw [if_neg h, base_pow]
    exact Nat.lt_of_lt_of_le Nat.lt_log2_self (Nat.pow_le_pow_right (by decide) (by omega))
theorem nd_le {n : Nat} (h : n ≠ 0) : 16777216 ^ (nd n - 1) ≤ n := by
  unfold nd
  rw [if_neg h, base_pow]
  exact Nat.le_trans (Nat.pow_le_pow_right (by decide) (by omega)) (Nat.log2_self_le h)
theorem dig_high {n j : Nat} (h : nd n ≤ j) : dig n j = 0 := by
  unfold dig
  rw [Nat.div_eq_of_lt (Nat.lt_of_lt_of_le (lt_nd n) (Nat.pow_le_pow_right (by decide) h))]
theorem dig_top {n : Nat} (h : n ≠ 0) : dig n (nd n - 1) ≠ 0 := by
  unfold dig
  have h1 := lt_nd n
  have h2 := nd_le h
  have h3 := nd_pos h
  have e : 16777216 ^ nd n = 16777216 ^ (nd n - 1) * 16777216 := by rw [← Nat.pow_succ]; congr 1; omega
  rw [e] at h1
  have p : 0 < 16777216 ^ (nd n - 1) := Nat.pow_pos (by decide)
  have h4 : n / 16777216 ^ (nd n - 1) < 16777216 := Nat.div_lt_of_lt_mul h1
  have h5 : 1 ≤ n / 16777216 ^ (nd n - 1) := by rw [Nat.le_div_iff_mul_le p]; omega
  rw [Nat.mod_eq_of_lt h4]; omega
theorem nd_le_of_lt {n k : Nat} (h : n < 16777216 ^ k) : nd n ≤ k := by
  by_cases e : n = 0
  · subst e; exact Nat.zero_le _
  · have h2 := nd_le e
    have : 16777216 ^ (nd n - 1) < 16777216 ^ k := Nat.lt_of_le_of_lt h2 h
    have := (Nat.pow_lt_pow_iff_right (by decide : 1 < 16777216)).1 this
    omega
theorem nd_small {n k q : Nat} (h : n < 2 ^ k) (hk : k ≤ 24 * q) : nd n ≤ q := by
  refine nd_le_of_lt (Nat.lt_of_lt_of_le h ?_)
  rw [base_pow]; exact Nat.pow_le_pow_right (by decide) hk

/-- what is below the j-th digit -/
def lowm (n j : Nat) : Nat := n % 16777216 ^ j
theorem lowm_zero (n : Nat) : lowm n 0 = 0 := by unfold lowm; rw [Nat.pow_zero, Nat.mod_one]
theorem lowm_succ (n j : Nat) : lowm n (j + 1) = lowm n j + 16777216 ^ j * dig n j := by
  unfold lowm dig
  rw [Nat.pow_succ, Nat.mod_mul]
theorem lowm_lt (n j : Nat) : lowm n j < 16777216 ^ j := Nat.mod_lt _ (Nat.pow_pos (by decide))
theorem lowm_all {n j : Nat} (h : nd n ≤ j) : lowm n j = n := Nat.mod_eq_of_lt (Nat.lt_of_lt_of_le (lt_nd n) (Nat.pow_le_pow_right (by decide) h))
theorem lowm_eq {n j : Nat} (h : n < 16777216 ^ j) : lowm n j = n := Nat.mod_eq_of_lt h

theorem dig_of_lowm {a b j : Nat} (h : lowm a (j + 1) = lowm b (j + 1)) : dig a j = dig b j := by
  have h1 : ∀ n, dig n j = lowm n (j + 1) / 16777216 ^ j := by
    intro n
    unfold dig lowm
    rw [Nat.pow_succ, Nat.mod_mul_right_div_self]
  rw [h1, h1, h]

/-- SUMS: the digit, and what is carried -/
def carry (m n i : Nat) : Nat := (lowm m i + lowm n i) / 16777216 ^ i
theorem carry_le (m n i : Nat) : carry m n i ≤ 1 := by
  unfold carry
  have h1 := lowm_lt m i
  have h2 := lowm_lt n i
  have : (lowm m i + lowm n i) / 16777216 ^ i < 2 := Nat.div_lt_of_lt_mul (by omega)
  omega
theorem add_dig (m n i : Nat) : (dig m i + dig n i + carry m n i) % 16777216 = dig (m + n) i ∧ (dig m i + dig n i + carry m n i) / 16777216 = carry m n (i + 1) := by
  have p : 0 < 16777216 ^ i := Nat.pow_pos (by decide)
  have key : (lowm m (i + 1) + lowm n (i + 1)) / 16777216 ^ i = dig m i + dig n i + carry m n i := by
    rw [lowm_succ, lowm_succ]
    have e : lowm m i + 16777216 ^ i * dig m i + (lowm n i + 16777216 ^ i * dig n i) = (lowm m i + lowm n i) + 16777216 ^ i * (dig m i + dig n i) := by rw [Nat.mul_add]; omega
    rw [e, Nat.add_mul_div_left _ _ p]
    unfold carry; omega
  constructor
  · rw [← key]
    have e : (lowm m (i + 1) + lowm n (i + 1)) % 16777216 ^ (i + 1) = (m + n) % 16777216 ^ (i + 1) := by
      unfold lowm; rw [← Nat.add_mod]
    have h1 : (lowm m (i + 1) + lowm n (i + 1)) / 16777216 ^ i % 16777216 = (lowm m (i + 1) + lowm n (i + 1)) % 16777216 ^ (i + 1) / 16777216 ^ i := by
      rw [Nat.pow_succ, Nat.mod_mul_right_div_self]
    rw [h1, e]
    unfold dig
    rw [Nat.pow_succ, Nat.mod_mul_right_div_self]
  · rw [← key, Nat.div_div_eq_div_mul, ← Nat.pow_succ]; rfl
theorem carry_end {m n i : Nat} (h1 : nd m ≤ i) (h2 : nd n ≤ i) (h : carry m n i = 0) : m + n < 16777216 ^ i := by
  unfold carry at h
  rw [lowm_all h1, lowm_all h2] at h
  rcases Nat.div_eq_zero_iff.1 h with h | h
  · have := Nat.pow_pos (n := i) (show 0 < 16777216 by decide); omega
  · exact h

theorem carry_zero (m n : Nat) : carry m n 0 = 0 := by unfold carry; rw [lowm_zero, lowm_zero, Nat.zero_add, Nat.zero_div]
theorem carry_high {m n k : Nat} (h1 : nd m < k) (h2 : nd n < k) : carry m n k = 0 := by
  unfold carry
  rw [lowm_all (by omega), lowm_all (by omega)]
  refine Nat.div_eq_of_lt ?_
  have a1 : m < 16777216 ^ (k - 1) := Nat.lt_of_lt_of_le (lt_nd m) (Nat.pow_le_pow_right (by decide) (by omega))
  have a2 : n < 16777216 ^ (k - 1) := Nat.lt_of_lt_of_le (lt_nd n) (Nat.pow_le_pow_right (by decide) (by omega))
  have e : 16777216 ^ k = 16777216 ^ (k - 1) * 16777216 := by rw [← Nat.pow_succ]; congr 1; omega
  omega

/-- DIFFERENCES: the digit, and what is borrowed -/
def borrow (m n i : Nat) : Nat := if lowm m i < lowm n i then 1 else 0
theorem borrow_zero (m n : Nat) : borrow m n 0 = 0 := by unfold borrow; rw [lowm_zero, lowm_zero]; rfl
theorem sub_dig {m n : Nat} (h : n ≤ m) (i : Nat) :
    (dig n i + borrow m n i ≤ dig m i → dig (m - n) i = dig m i - dig n i - borrow m n i ∧ borrow m n (i + 1) = 0) ∧
    (dig m i < dig n i + borrow m n i → dig (m - n) i = 16777216 + dig m i - dig n i - borrow m n i ∧ borrow m n (i + 1) = 1) := by
  have p : 0 < 16777216 ^ i := Nat.pow_pos (by decide)
  have hm := lowm_lt m i
  have hn := lowm_lt n i
  have dm := dig_lt m i
  have dn := dig_lt n i
  have hs : (lowm (m - n) (i + 1) + lowm n (i + 1)) % 16777216 ^ (i + 1) = lowm m (i + 1) := by
    unfold lowm; rw [← Nat.add_mod, Nat.sub_add_cancel h]
  have hm1 := lowm_lt (m - n) (i + 1)
  have e : 16777216 ^ (i + 1) = 16777216 ^ i * 16777216 := Nat.pow_succ ..
  have sm := lowm_succ m i
  have sn := lowm_succ n i
  have sd := lowm_succ (m - n) i
  have hd := lowm_lt (m - n) i
  have dd := dig_lt (m - n) i
  have hsi : (lowm (m - n) i + lowm n i) % 16777216 ^ i = lowm m i := by
    unfold lowm; rw [← Nat.add_mod, Nat.sub_add_cancel h]
  unfold borrow
  generalize hP : 16777216 ^ i = P at *
  generalize lowm m i = a at *
  generalize lowm n i = b at *
  generalize lowm (m - n) i = c at *
  generalize dig m i = x at *
  generalize dig n i = y at *
  generalize dig (m - n) i = z at *
  rw [sm, sn]
  rw [sd, sn, sm, e] at hs
  have cb : (c + b = a ∧ b ≤ a) ∨ (c + b = a + P ∧ a < b) := by
    by_cases hc : c + b < P
    · left; rw [Nat.mod_eq_of_lt hc] at hsi; omega
    · right
      have : (c + b) % P = c + b - P := by rw [Nat.mod_eq_sub_mod (by omega), Nat.mod_eq_of_lt (by omega)]
      omega
  have hz : P * z + P * y = P * (z + y) := (Nat.mul_add ..).symm
  have tot : c + P * z + (b + P * y) = (c + b) + P * (z + y) := by omega
  rw [tot] at hs
  have lin : ∀ u v : Nat, u < v → P * u + P ≤ P * v := fun u v huv => by have := Nat.mul_le_mul_left P (show u + 1 ≤ v by omega); rw [Nat.mul_add, Nat.mul_one] at this; exact this
  rcases cb with ⟨e1, e2⟩ | ⟨e1, e2⟩
  · rw [if_neg (by omega)]
    rw [e1] at hs
    have hs2 : (a + P * (z + y)) % (P * 16777216) = a + P * ((z + y) % 16777216) := by
      rw [Nat.mod_mul, Nat.add_mul_mod_self_left, Nat.mod_eq_of_lt hm, Nat.add_mul_div_left _ _ p, Nat.div_eq_of_lt hm, Nat.zero_add]
    rw [hs2] at hs
    have hx : (z + y) % 16777216 = x := Nat.eq_of_mul_eq_mul_left p (by omega)
    constructor
    · intro hle
      refine ⟨by omega, if_neg ?_⟩
      have hle2 : P * y ≤ P * x := Nat.mul_le_mul_left P (by omega)
      omega
    · intro hlt
      refine ⟨by omega, if_pos ?_⟩
      have := lin x y (by omega)
      omega
  · rw [if_pos (by omega)]
    rw [e1] at hs
    have hs2 : (a + P + P * (z + y)) % (P * 16777216) = a + P * ((z + y + 1) % 16777216) := by
      have e3 : a + P + P * (z + y) = a + P * (z + y + 1) := by rw [Nat.mul_add P (z + y) 1]; omega
      rw [e3, Nat.mod_mul, Nat.add_mul_mod_self_left, Nat.mod_eq_of_lt hm, Nat.add_mul_div_left _ _ p, Nat.div_eq_of_lt hm, Nat.zero_add]
    rw [hs2] at hs
    have hx : (z + y + 1) % 16777216 = x := Nat.eq_of_mul_eq_mul_left p (by omega)
    constructor
    · intro hle
      refine ⟨by omega, if_neg ?_⟩
      have := lin y x (by omega)
      omega
    · intro hlt
      refine ⟨by omega, if_pos ?_⟩
      by_cases hxy : x = y
      · subst hxy; omega
      · have := lin x y (by omega)
        omega

/-- ORDER: by how many digits there are, then from the top -/
theorem lt_of_nd {m n : Nat} (h : nd m < nd n) : m < n := by
  have h1 := lt_nd m
  have h2 := nd_le (n := n) (fun e => by rw [e, nd_zero] at h; omega)
  exact Nat.lt_of_lt_of_le h1 (Nat.le_trans (Nat.pow_le_pow_right (by decide) (by omega)) h2)
def high (n i : Nat) : Nat := n / 16777216 ^ i
theorem high_dig (n i : Nat) : high n i = 16777216 * high n (i + 1) + dig n i := by
  unfold high dig
  rw [Nat.pow_succ, ← Nat.div_div_eq_div_mul]
  omega
theorem high_zero (n : Nat) : high n 0 = n := by unfold high; rw [Nat.pow_zero, Nat.div_one]
theorem high_nd (n : Nat) : high n (nd n) = 0 := Nat.div_eq_of_lt (lt_nd n)
theorem lt_of_high {m n i : Nat} (h : high m i < high n i) : m < n := by
  unfold high at h
  refine Nat.lt_of_not_le fun k => ?_
  have := Nat.div_le_div_right (c := 16777216 ^ i) k
  omega

/-- BITS -/
theorem bit_dig (n i : Nat) : dig n (i / 24) / 2 ^ (i % 24) % 2 = n / 2 ^ i % 2 := by
  unfold dig
  rw [base_pow]
  have h1 : (16777216 : Nat) = 2 ^ (i % 24) * 2 ^ (24 - i % 24) := by rw [← Nat.pow_add, show i % 24 + (24 - i % 24) = 24 by omega]
  rw [h1, Nat.mod_mul_right_div_self, Nat.div_div_eq_div_mul, ← Nat.pow_add, show 24 * (i / 24) + i % 24 = i by omega]
  have h2 : 2 ^ (24 - i % 24) = 2 * 2 ^ (24 - i % 24 - 1) := by rw [← Nat.pow_succ']; congr 1; omega
  rw [h2, Nat.mod_mul_right_mod]

/-- how many bits there are -/
def blen (n : Nat) : Nat := if n = 0 then 0 else n.log2 + 1
theorem blen_zero : blen 0 = 0 := rfl
theorem blen_half {n : Nat} (h : n ≠ 0) : blen n = blen (n / 2) + 1 := by
  unfold blen
  rw [if_neg h]
  by_cases h1 : n / 2 = 0
  · rw [if_pos h1]
    have : n = 1 := by omega
    subst this; rfl
  · rw [if_neg h1]
    rw [Nat.log2_def, if_pos (by omega)]
theorem blen_top {n : Nat} (h : n ≠ 0) : blen n = 24 * (nd n - 1) + blen (dig n (nd n - 1)) := by
  have h1 := dig_top h
  have h2 := nd_le h
  have h3 := lt_nd n
  have h4 := nd_pos h
  have e : 16777216 ^ nd n = 16777216 ^ (nd n - 1) * 16777216 := by rw [← Nat.pow_succ]; congr 1; omega
  rw [e] at h3
  have h5 : n / 16777216 ^ (nd n - 1) < 16777216 := Nat.div_lt_of_lt_mul h3
  have ed : dig n (nd n - 1) = n / 2 ^ (24 * (nd n - 1)) := by unfold dig; rw [Nat.mod_eq_of_lt h5, base_pow]
  unfold blen
  rw [if_neg h, if_neg h1]
  rw [ed] at h1 ⊢
  generalize 24 * (nd n - 1) = k at *
  have : n.log2 = k + (n / 2 ^ k).log2 := by
    have a1 := Nat.log2_self_le h1
    have a2 : n / 2 ^ k < 2 ^ ((n / 2 ^ k).log2 + 1) := Nat.lt_log2_self
    have p : 0 < 2 ^ k := Nat.two_pow_pos _
    generalize (n / 2 ^ k).log2 = q at *
    refine (Nat.log2_eq_iff h).2 ⟨?_, ?_⟩
    · rw [Nat.pow_add, Nat.mul_comm]; exact Nat.le_trans (Nat.mul_le_mul_right _ a1) (Nat.div_mul_le_self n (2 ^ k))
    · rw [Nat.add_assoc, Nat.pow_add, Nat.mul_comm]; exact (Nat.div_lt_iff_lt_mul p).1 a2
  omega

/-- SHIFTED -/
theorem sh_split (v k : Nat) : v * 2 ^ k = v * 2 ^ (k % 24) * 16777216 ^ (k / 24) := by
  rw [base_pow, Nat.mul_assoc, ← Nat.pow_add]; congr 2; omega
theorem sh_div (v k : Nat) : v * 2 ^ k / 16777216 ^ (k / 24) = v * 2 ^ (k % 24) := by
  rw [sh_split]; exact Nat.mul_div_cancel _ (Nat.pow_pos (by decide))
theorem sh_low {v k j : Nat} (h : j < k / 24) : dig (v * 2 ^ k) j = 0 := by
  unfold dig
  have e : v * 2 ^ k = v * 2 ^ (k % 24) * 16777216 ^ (k / 24 - j - 1) * 16777216 * 16777216 ^ j := by
    rw [sh_split, Nat.mul_assoc (v * 2 ^ (k % 24)), Nat.mul_assoc (v * 2 ^ (k % 24)), ← Nat.pow_succ, ← Nat.pow_add]; congr 2; omega
  rw [e, Nat.mul_div_cancel _ (Nat.pow_pos (by decide)), Nat.mul_mod_left]
theorem top_split (k : Nat) : (16777216 : Nat) = 2 ^ (24 - k % 24) * 2 ^ (k % 24) := by rw [← Nat.pow_add, show 24 - k % 24 + k % 24 = 24 by omega]
theorem sh_mid (v k : Nat) : dig (v * 2 ^ k) (k / 24) = v % 2 ^ (24 - k % 24) * 2 ^ (k % 24) := by
  unfold dig
  rw [sh_div]
  conv => lhs; rw [top_split k]
  rw [Nat.mul_mod_mul_right]
theorem sh_up (v k i : Nat) : v * 2 ^ k / 16777216 ^ (k / 24 + 1 + i) = v / 2 ^ (24 - k % 24) / 16777216 ^ i := by
  rw [show k / 24 + 1 + i = k / 24 + (1 + i) by omega, Nat.pow_add, ← Nat.div_div_eq_div_mul, sh_div, Nat.pow_add, ← Nat.div_div_eq_div_mul, Nat.pow_one]
  congr 1
  conv => lhs; rw [top_split k]
  exact Nat.mul_div_mul_right _ _ (Nat.two_pow_pos _)
theorem sh_high (v k i : Nat) : dig (v * 2 ^ k) (k / 24 + 1 + i) = v / 2 ^ (24 - k % 24) / 16777216 ^ i % 16777216 := by
  unfold dig; rw [sh_up]
theorem sh_end {v k i : Nat} (h : v / 2 ^ (24 - k % 24) / 16777216 ^ i = 0) : v * 2 ^ k < 16777216 ^ (k / 24 + 1 + i) := by
  rw [← sh_up] at h
  rcases Nat.div_eq_zero_iff.1 h with h | h
  · have := Nat.pow_pos (n := k / 24 + 1 + i) (show 0 < 16777216 by decide); omega
  · exact h

end Go.Proofs.Ytnoccennhgnjnaa.Near

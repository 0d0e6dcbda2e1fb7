/-
  Plain numbers: the model's words of 32 bits, taken apart; how a whole number is rounded to one. Nothing of the program.
-/
import Ieee.Arith
import Derived.Laws.FloatBits
namespace Go.Proofs.Ytnoccennhgnjnaa.Near
open Ieee

/-- neither infinite nor none -/
def finB (x : Nat) : Bool := decide (x % 2147483648 < 2139095040)

/-- finite, or nothing -/
def keep (r : Option Nat) : Option Nat := r.bind fun x => if finB x then some x else none
def fadd (x y : Nat) : Option Nat := keep (single.add x y)
def fsub (x y : Nat) : Option Nat := keep (single.sub x y)
def fmul (x y : Nat) : Option Nat := keep (single.mul x y)

/-- the parts of a number: without its sign mag times 2 to the (ex - 149) -/
def magOf (x : Nat) : Nat := if x % 2147483648 < 8388608 then x % 2147483648 else 8388608 + x % 8388608
def exOf (x : Nat) : Nat := x % 2147483648 / 8388608 - 1
def negOf (x : Nat) : Bool := x / 2147483648 % 2 == 1

theorem single_binade : single.binade = 8388608 := by decide +kernel
theorem single_infRung : single.infRung = 2139095040 := by decide +kernel
theorem single_sign : single.signWeight = 2147483648 := by decide +kernel
theorem single_least : single.leastPlace = -149 := by decide +kernel
theorem single_frac : single.fractionBits = 23 := rfl
theorem single_width : single.width = 32 := rfl

theorem read_fin {x : Nat} (h : finB x = true) : single.read x = .number (negOf x) (magOf x) ((exOf x : Int) - 149) := by
  simp only [finB, decide_eq_true_eq] at h
  unfold Format.read magOf exOf negOf
  simp only [single_binade, single_infRung, single_sign, single_least]
  by_cases h1 : x % 2147483648 < 8388608
  · rw [if_pos h1, if_pos h1]
    congr 1
    have : x % 2147483648 / 8388608 - 1 = 0 := by omega
    rw [this]; rfl
  · rw [if_neg h1, if_neg h1, if_pos h]
    have e : x % 2147483648 % 8388608 = x % 8388608 := by omega
    rw [e]
    congr 1

theorem word_mod {neg : Bool} {r : Nat} (h : r ≤ 2139095040) : single.word neg r % 2147483648 = r := by
  unfold Format.word
  rw [single_sign]
  split <;> omega

theorem finB_word {neg : Bool} {r : Nat} (h : r ≤ 2139095040) : finB (single.word neg r) = decide (r < 2139095040) := by
  unfold finB
  rw [word_mod h]

/-- n / 2^d to the nearest, of two the even one -/
def cutE (n d : Nat) : Nat := n / 2 ^ d + (decide (2 ^ d < 2 * (n % 2 ^ d)) || (2 ^ d == 2 * (n % 2 ^ d) && n / 2 ^ d % 2 == 1)).toNat

theorem cut_eq (neg : Bool) (n d : Nat) : Toward.even.cut neg n d = cutE n d := by
  unfold Toward.cut cutE
  simp only [Nat.one_shiftLeft]
  by_cases h : d ≤ n.log2 + 2
  · rw [Nat.min_eq_left h]
  · have h' : n.log2 + 2 ≤ d := by omega
    rw [Nat.min_eq_right h']
    have lt0 : n < 2 ^ (n.log2 + 1) := Nat.lt_log2_self
    have e2 : 2 ^ (n.log2 + 2) = 2 * 2 ^ (n.log2 + 1) := by rw [Nat.pow_succ 2 (n.log2 + 1)]; omega
    have le2 : 2 ^ (n.log2 + 2) ≤ 2 ^ d := Nat.pow_le_pow_right (by omega) h'
    generalize 2 ^ (n.log2 + 2) = g at *
    generalize 2 ^ d = G at *
    generalize 2 ^ (n.log2 + 1) = k at *
    rw [Nat.div_eq_of_lt (show n < g by omega), Nat.div_eq_of_lt (show n < G by omega), Nat.mod_eq_of_lt (show n < g by omega), Nat.mod_eq_of_lt (show n < G by omega)]
    have a1 : ¬ g < 2 * n := by omega
    have a2 : ¬ G < 2 * n := by omega
    simp [a1, a2]

theorem cutE_zero (n : Nat) : cutE n 0 = n := by
  unfold cutE
  simp [Nat.mod_one]

theorem cutE_scale (n k d : Nat) : cutE (n * 2 ^ k) (k + d) = cutE n d := by
  unfold cutE
  have e : 2 ^ (k + d) = 2 ^ d * 2 ^ k := by rw [Nat.pow_add, Nat.mul_comm]
  have p : 0 < 2 ^ k := Nat.two_pow_pos _
  rw [e, Nat.mul_div_mul_right _ _ p, Nat.mul_mod_mul_right]
  generalize 2 ^ k = K at *
  generalize 2 ^ d = D at *
  have e1 : decide (D * K < 2 * (n % D * K)) = decide (D < 2 * (n % D)) := by
    rw [← Nat.mul_assoc]
    exact decide_eq_decide.2 (Nat.mul_lt_mul_right p)
  have e2 : (D * K == 2 * (n % D * K)) = (D == 2 * (n % D)) := by
    rw [← Nat.mul_assoc, Bool.eq_iff_iff, beq_iff_eq, beq_iff_eq]
    exact ⟨fun h => Nat.eq_of_mul_eq_mul_right p h, fun h => congrArg (· * K) h⟩
  rw [e1, e2]

theorem cutE_exact (n k d : Nat) (h : d ≤ k) : cutE (n * 2 ^ k) d = n * 2 ^ (k - d) := by
  have e : n * 2 ^ k = n * 2 ^ (k - d) * 2 ^ d := by rw [Nat.mul_assoc, ← Nat.pow_add]; congr 2; omega
  have := cutE_scale (n * 2 ^ (k - d)) d 0
  rw [Nat.add_zero, ← e, cutE_zero] at this
  exact this

theorem log2_scale {n : Nat} (h : n ≠ 0) (k : Nat) : (n * 2 ^ k).log2 = n.log2 + k := by
  induction k with
  | zero => simp
  | succ k ih =>
    have e : n * 2 ^ (k + 1) = 2 * (n * 2 ^ k) := by rw [Nat.pow_succ]; ac_rfl
    rw [e, Nat.log2_two_mul (by have := Nat.two_pow_pos k; exact Nat.mul_ne_zero h (by omega)), ih]; omega

/-- the word nearest to a whole number over 2 to the scale -/
def nearW (neg : Bool) (a scale : Nat) : Nat := single.nearest neg a (-(scale : Int))

theorem nearest_scale (neg : Bool) (m k : Nat) (p : Int) : single.nearest neg (m * 2 ^ k) p = single.nearest neg m (p + k) := by
  by_cases h0 : m = 0
  · subst h0; simp [Format.nearest]
  · have h1 : m * 2 ^ k ≠ 0 := Nat.mul_ne_zero h0 (by have := Nat.two_pow_pos k; omega)
    unfold Format.nearest
    rw [if_neg h0, if_neg h1]
    simp only [log2_scale h0, cut_eq, Nat.shiftLeft_eq]
    have el : p + ((m.log2 + k : Nat) : Int) - (single.fractionBits : Nat) = p + (k : Int) + (m.log2 : Int) - (single.fractionBits : Nat) := by omega
    rw [el]
    generalize max (p + (k : Int) + (m.log2 : Int) - (single.fractionBits : Nat)) single.leastPlace = last
    have key : cutE (m * 2 ^ k * 2 ^ (p - last).toNat) (last - p).toNat = cutE (m * 2 ^ (p + k - last).toNat) (last - (p + k)).toNat := by
      by_cases c1 : last ≤ p
      · have z1 : (last - p).toNat = 0 := by omega
        have z2 : (last - (p + k)).toNat = 0 := by omega
        rw [z1, z2, cutE_zero, cutE_zero, Nat.mul_assoc, ← Nat.pow_add]
        congr 2; omega
      · have z0 : (p - last).toNat = 0 := by omega
        rw [z0, Nat.pow_zero, Nat.mul_one]
        by_cases c2 : last ≤ p + k
        · have z2 : (last - (p + k)).toNat = 0 := by omega
          rw [z2, cutE_zero, cutE_exact _ _ _ (by omega)]
          congr 2; omega
        · have z1 : (p + k - last).toNat = 0 := by omega
          have z2 : (last - p).toNat = k + (last - (p + k)).toNat := by omega
          rw [z1, z2, cutE_scale, Nat.pow_zero, Nat.mul_one]
    rw [key]

/-- a number in units of 2 to the -149, without its sign -/
def units (x : Nat) : Nat := magOf x * 2 ^ exOf x
def sunits (x : Nat) : Int := if negOf x then -(units x : Int) else (units x : Int)

theorem signed_eq (neg : Bool) (m k : Nat) : signed neg m k = if neg then -((m * 2 ^ k : Nat) : Int) else ((m * 2 ^ k : Nat) : Int) := by
  unfold signed; rw [Nat.shiftLeft_eq]

theorem signed_scale (neg : Bool) (m k j : Nat) : signed neg m k * (2 ^ j : Nat) = signed neg m (k + j) := by
  rw [signed_eq, signed_eq, Nat.pow_add, ← Nat.mul_assoc]
  split
  · rw [Int.neg_mul, Int.natCast_mul (m * 2 ^ k)]
  · rw [Int.natCast_mul (m * 2 ^ k)]

theorem add_fin {x y : Nat} (hx : finB x = true) (hy : finB y = true) :
    single.add x y = some (nearW (if sunits x + sunits y = 0 then negOf x && negOf y else decide (sunits x + sunits y < 0)) (sunits x + sunits y).natAbs 149) := by
  unfold Format.add
  rw [read_fin hx, read_fin hy]
  simp only [Datum.sum, Option.map_some, Format.write]
  congr 1
  have hb : ∃ b : Nat, min ((exOf x : Int) - 149) ((exOf y : Int) - 149) = (b : Int) - 149 ∧ b ≤ exOf x ∧ b ≤ exOf y := ⟨min (exOf x) (exOf y), by omega, by omega, by omega⟩
  obtain ⟨b, hb, h1, h2⟩ := hb
  rw [hb]
  have z1 : ((exOf x : Int) - 149 - ((b : Int) - 149)).toNat = exOf x - b := by omega
  have z2 : ((exOf y : Int) - 149 - ((b : Int) - 149)).toNat = exOf y - b := by omega
  rw [z1, z2]
  have s1 : sunits x = signed (negOf x) (magOf x) (exOf x - b) * (2 ^ b : Nat) := by
    rw [signed_scale, signed_eq]; unfold sunits units; rw [show exOf x - b + b = exOf x by omega]
  have s2 : sunits y = signed (negOf y) (magOf y) (exOf y - b) * (2 ^ b : Nat) := by
    rw [signed_scale, signed_eq]; unfold sunits units; rw [show exOf y - b + b = exOf y by omega]
  rw [s1, s2, ← Int.add_mul]
  generalize signed (negOf x) (magOf x) (exOf x - b) + signed (negOf y) (magOf y) (exOf y - b) = t
  have p : 0 < 2 ^ b := Nat.two_pow_pos _
  have e0 : (t * (2 ^ b : Nat) = 0) ↔ (t = 0) := by
    constructor
    · intro h; rcases Int.mul_eq_zero.1 h with h | h
      · exact h
      · omega
    · intro h; rw [h, Int.zero_mul]
  have en : (t * (2 ^ b : Nat) < 0) ↔ (t < 0) := by
    constructor
    · intro h
      refine Int.not_le.1 fun k => ?_
      have := Int.mul_nonneg k (Int.natCast_nonneg (2 ^ b)); omega
    · intro h; exact Int.mul_neg_of_neg_of_pos h (by omega)
  have ea : (t * (2 ^ b : Nat)).natAbs = t.natAbs * 2 ^ b := by rw [Int.natAbs_mul, Int.natAbs_natCast]
  rw [ea]
  simp only [e0, en]
  unfold nearW
  rw [nearest_scale]
  congr 1

theorem mul_fin {x y : Nat} (hx : finB x = true) (hy : finB y = true) :
    single.mul x y = some (nearW (negOf x ^^ negOf y) (units x * units y) 298) := by
  unfold Format.mul
  rw [read_fin hx, read_fin hy]
  simp only [Datum.product, Option.map_some, Format.write]
  congr 1
  unfold nearW units
  have e : magOf x * 2 ^ exOf x * (magOf y * 2 ^ exOf y) = magOf x * magOf y * 2 ^ (exOf x + exOf y) := by rw [Nat.pow_add]; ac_rfl
  rw [e, nearest_scale]
  congr 1
  omega

/-- the other sign -/
def flip (x : Nat) : Nat := if negOf x then x % 2147483648 else x % 2147483648 + 2147483648

theorem flip_mod (x : Nat) : flip x % 2147483648 = x % 2147483648 := by unfold flip; split <;> omega
theorem flip_neg (x : Nat) : negOf (flip x) = !negOf x := by
  unfold flip negOf
  by_cases h : x / 2147483648 % 2 = 1
  · simp [h]
  · have : x / 2147483648 % 2 = 0 := by omega
    simp [this]
theorem flip_fin {x : Nat} (h : finB x = true) : finB (flip x) = true := by unfold finB at *; rw [flip_mod]; exact h
theorem flip_mag (x : Nat) : magOf (flip x) = magOf x := by
  have h := flip_mod x
  have e : flip x % 8388608 = x % 8388608 := by omega
  unfold magOf; rw [h, e]
theorem flip_ex (x : Nat) : exOf (flip x) = exOf x := by unfold exOf; rw [flip_mod]
theorem flip_units (x : Nat) : units (flip x) = units x := by unfold units; rw [flip_mag, flip_ex]
theorem flip_sunits (x : Nat) : sunits (flip x) = -sunits x := by
  unfold sunits; rw [flip_neg, flip_units]
  cases negOf x <;> simp

theorem sub_fin {x y : Nat} (hy : finB y = true) : single.sub x y = single.add x (flip y) := by
  unfold Format.sub Format.add
  rw [read_fin hy, read_fin (flip_fin hy), flip_neg, flip_mag, flip_ex]
  rfl

/-- the place to which a whole number over 2 to the scale is rounded -/
def rungW (a s : Nat) : Nat :=
  if a = 0 then 0 else min ((max (-(s : Int) + a.log2 - 23) (-149) - -149).toNat * 8388608 + cutE (a <<< (-(s : Int) - max (-(s : Int) + a.log2 - 23) (-149)).toNat) (max (-(s : Int) + a.log2 - 23) (-149) - -(s : Int)).toNat) 2139095040
theorem rungW_le (a s : Nat) : rungW a s ≤ 2139095040 := by unfold rungW; split; omega; exact Nat.min_le_right _ _
theorem nearW_form (n : Bool) (a s : Nat) : nearW n a s = single.word n (rungW a s) := by
  unfold nearW Format.nearest rungW
  simp only [cut_eq, single_infRung, single_binade, single_least, single_frac]
  split
  · rfl
  · rfl

theorem nearW_lt (neg : Bool) (a s : Nat) : nearW neg a s < 4294967296 := by
  have := single.nearest_lt neg a (-(s : Int))
  rw [single_width] at this
  exact this

theorem keep_some {r : Option Nat} {x : Nat} (h : keep r = some x) : r = some x ∧ finB x = true := by
  unfold keep at h
  cases r with
  | none => simp at h
  | some y =>
    simp only [Option.bind_some] at h
    split at h
    · cases h; exact ⟨rfl, by assumption⟩
    · cases h

theorem fadd_fin {x y r : Nat} (h : fadd x y = some r) : finB r = true := (keep_some h).2
theorem fsub_fin {x y r : Nat} (h : fsub x y = some r) : finB r = true := (keep_some h).2
theorem fmul_fin {x y r : Nat} (h : fmul x y = some r) : finB r = true := (keep_some h).2
theorem fadd_lt {x y r : Nat} (h : fadd x y = some r) : r < 4294967296 := by have := single.add_lt (keep_some h).1; rw [single_width] at this; exact this
theorem fsub_lt {x y r : Nat} (h : fsub x y = some r) : r < 4294967296 := by have := single.sub_lt (keep_some h).1; rw [single_width] at this; exact this
theorem fmul_lt {x y r : Nat} (h : fmul x y = some r) : r < 4294967296 := by have := single.mul_lt (keep_some h).1; rw [single_width] at this; exact this

theorem add_some {x y : Nat} (hx : finB x = true) (hy : finB y = true) : ∃ r, single.add x y = some r ∧ r < 4294967296 ∧ fadd x y = if finB r then some r else none := by
  refine ⟨_, add_fin hx hy, nearW_lt _ _ _, ?_⟩
  unfold fadd keep
  rw [add_fin hx hy]; rfl
theorem sub_some {x y : Nat} (hx : finB x = true) (hy : finB y = true) : ∃ r, single.sub x y = some r ∧ r < 4294967296 ∧ fsub x y = if finB r then some r else none := by
  refine ⟨_, (sub_fin hy).trans (add_fin hx (flip_fin hy)), nearW_lt _ _ _, ?_⟩
  unfold fsub keep
  rw [(sub_fin hy).trans (add_fin hx (flip_fin hy))]; rfl
theorem mul_some {x y : Nat} (hx : finB x = true) (hy : finB y = true) : ∃ r, single.mul x y = some r ∧ r < 4294967296 ∧ fmul x y = if finB r then some r else none := by
  refine ⟨_, mul_fin hx hy, nearW_lt _ _ _, ?_⟩
  unfold fmul keep
  rw [mul_fin hx hy]; rfl

/-- THE SCORE, as the document says it: nothing, if any number on the way is infinite. -/
def termM (sq : Bool) (x y : Nat) : Option Nat := if sq then (fsub x y).bind fun d => fmul d d else fmul x y
def termsM (sq : Bool) : List Nat → List Nat → Option (List Nat)
  | x :: a, y :: b => (termM sq x y).bind fun t => (termsM sq a b).bind fun l => some (t :: l)
  | _, _ => some []
def plainM (s : Nat) : List Nat → Option Nat
  | [] => some s
  | p :: l => (fadd s p).bind fun t => plainM t l
def kahanM (s c : Nat) : List Nat → Option Nat
  | [] => some s
  | p :: l => (fsub p c).bind fun y => (fadd s y).bind fun t => (fsub t s).bind fun d => (fsub d y).bind fun c' => kahanM t c' l
def pairsM : Nat → List Nat → Option Nat
  | 0, _ => none
  | _ + 1, [] => none
  | _ + 1, [p] => some p
  | f + 1, p :: q :: l => (pairsM f ((p :: q :: l).take ((l.length + 3) / 2))).bind fun a => (pairsM f ((p :: q :: l).drop ((l.length + 3) / 2))).bind fun b => fadd a b
def sumM (way : Nat) (l : List Nat) : Option Nat :=
  if way = 2 then pairsM l.length l else if way = 3 then kahanM (l.headD 0) 0 l.tail else plainM (l.headD 0) l.tail
def scoreM (measure way : Nat) (a b : List Nat) : Option Nat := (termsM (measure == 2) a b).bind (sumM way)

end Go.Proofs.Ytnoccennhgnjnaa.Near

import Derived.Test.YtnoccennhgnjnaaKeep1
import Derived.Test.YtnoccennhgnjnaaSym
namespace Go.Proofs.Ytnoccennhgnjnaa
open Go.RowKit

theorem nth_mem {l : List Nat} {x : Nat} (h : x ∈ l) : ∃ j, j < l.length ∧ nth l j = x := by
  obtain ⟨j, hj, rfl⟩ := List.mem_iff_getElem.1 h
  exact ⟨j, hj, by simp [nth, hj]⟩
theorem Good.fin {l : List Nat} (h : Good false l) : ∀ x ∈ l, Near.finB x = true := fun x hx => by
  obtain ⟨j, hj, rfl⟩ := nth_mem hx
  exact (h j hj).2 rfl
theorem Good.wd {o : Bool} {l : List Nat} (h : Good o l) : Wd l := fun j hj => (h j hj).1

theorem vecErr_good {a b : List Nat} (hl : 0 < a.length) (hn : a.length ≤ 8) (hab : b.length = a.length) (ha : Good false a) (hb : Good false b) : vecErr a [b] = 0 := by
  unfold vecErr
  rw [if_neg (by omega), if_pos (by simpa using hab), if_pos]
  have h1 : allFin a = true := (allFin_iff a).2 fun j hj => (ha j hj).2 rfl
  have h2 : allFin b = true := (allFin_iff b).2 fun j hj => (hb j hj).2 rfl
  simp [h1, h2]

/-- Score of vectors: it has no error -/
theorem score_good (w : World) (measure way : Int) (va vb : Value) (a b : List Nat) (hm : 1 ≤ measure ∧ measure ≤ 3) (hw : 1 ≤ way ∧ way ≤ 3) (hua : Us w va a) (hub : Us w vb b) (hl : 0 < a.length) (hn : a.length ≤ 8) (hab : b.length = a.length) (ha : Good false a) (hb : Good false b) :
    Calls Try.prog 7 #[.int .i64 measure, .int .i64 way, va, vb] w fun e w' =>
      (∃ (s : Nat) (over : Bool), e = .returned (.tuple #[.int .u32 s, .bool over, .int .i64 0]) ∧ scoreS (measure == 2) way.toNat a b = (if over then none else some s) ∧ (over = true → s = 0)) ∧ Below w.heap.size w w' := by
  have k1 : kindB measure = true := by simp only [kindB, Bool.or_eq_true, beq_iff_eq]; omega
  have k2 : kindB way = true := by simp only [kindB, Bool.or_eq_true, beq_iff_eq]; omega
  refine (score_any w measure way va vb a b hua hub ha.wd hb.wd).mono ?_
  rintro e w' ⟨rfl, hB⟩
  refine ⟨?_, hB⟩
  have e : scoreAns measure way a b = ansOf (scoreS (measure == 2) way.toNat a b) := by
    unfold scoreAns; rw [k1, k2, vecErr_good hl hn hab ha hb]; rfl
  rw [e]
  cases scoreS (measure == 2) way.toNat a b with
  | none => exact ⟨0, true, rfl, rfl, fun _ => rfl⟩
  | some r => exact ⟨r, false, rfl, rfl, fun h => by cases h⟩

theorem score_turn (sq : Bool) (way : Nat) {a b : List Nat} (ha : Good false a) (hb : Good false b) : scoreS sq way a b = scoreS sq way b a := by
  unfold scoreS; rw [Near.termsM_turn sq a b ha.fin hb.fin]
theorem score_flip (way : Nat) {a b : List Nat} (ha : Good false a) (hb : Good false b) : Near.OOpp (scoreS false way a b) (scoreS false way (a.map Near.flip) b) := by
  unfold scoreS
  have h := Near.termsM_opp b (Near.opps_flip a ha.fin) hb.fin
  cases e1 : Near.termsM false a b <;> cases e2 : Near.termsM false (a.map Near.flip) b <;> rw [e1, e2] at h
  · trivial
  · exact h.elim
  · exact h.elim
  · exact Near.sumM_opp way h

theorem xor_top (x : Nat) (hx : x < 4294967296) : x ^^^ 2147483648 = Near.flip x := by
  apply Nat.eq_of_testBit_eq
  intro i
  rw [Nat.testBit_xor, show 2147483648 = 2 ^ 31 from rfl, Nat.testBit_two_pow]
  unfold Near.flip Near.negOf
  by_cases hb : 2147483648 ≤ x
  · have h1 : x / 2147483648 % 2 = 1 := by omega
    rw [h1, if_pos (by rfl), show 2147483648 = 2 ^ 31 from rfl, Nat.testBit_mod_two_pow]
    by_cases h31 : i = 31
    · subst h31
      have : x.testBit 31 = true := by rw [Nat.testBit_eq_decide_div_mod_eq]; simpa using h1
      rw [this]; rfl
    · by_cases hlt : i < 31
      · have : ¬ 31 = i := by omega
        simp [hlt, this]
      · have hz : x.testBit i = false := Nat.testBit_lt_two_pow (Nat.lt_of_lt_of_le hx (show 2 ^ 32 ≤ 2 ^ i from Nat.pow_le_pow_right (by omega) (by omega)))
        have : ¬ 31 = i := by omega
        simp [hz, this]
  · have h1 : x / 2147483648 % 2 = 0 := by omega
    have h2 : x % 2147483648 = x := by omega
    rw [h1, if_neg (by decide), h2, Nat.add_comm x]
    by_cases h31 : i = 31
    · subst h31
      have := Nat.testBit_two_pow_add_eq x 31
      rw [show (2147483648 : Nat) = 2 ^ 31 from rfl, this]
      simp
    · by_cases hlt : i < 31
      · have := Nat.testBit_two_pow_add_gt hlt x
        have h3 : ¬ 31 = i := by omega
        rw [show (2147483648 : Nat) = 2 ^ 31 from rfl, this]
        simp [h3]
      · have hz : x.testBit i = false := Nat.testBit_lt_two_pow (Nat.lt_of_lt_of_le hx (show 2 ^ 32 ≤ 2 ^ i from Nat.pow_le_pow_right (by omega) (by omega)))
        have hz2 : (2147483648 + x).testBit i = false := Nat.testBit_lt_two_pow (Nat.lt_of_lt_of_le (show 2147483648 + x < 4294967296 by omega) (show 2 ^ 32 ≤ 2 ^ i from Nat.pow_le_pow_right (by omega) (by omega)))
        have : ¬ 31 = i := by omega
        simp [hz, hz2, this]

theorem xor_bits (x : Nat) (hx : x < 4294967296) : bits BinOp.xor IntKind.u32 (x : Int) 2147483648 = (Near.flip x : Nat) := by
  have h := u32_xor_nat x 2147483648 hx (by omega)
  rw [show ((2147483648 : Nat) : Int) = 2147483648 from rfl] at h
  rw [h, xor_top x hx]

theorem flip_lt (x : Nat) : Near.flip x < 4294967296 := by unfold Near.flip; split <;> omega
theorem opp_xor {x y : Nat} (hy : y < 4294967296) (h : Near.Opp x y) : (y = Near.flip x) ∨ (y % 2147483648 = 0 ∧ x % 2147483648 = 0) := by
  rcases h.2 with h0 | hn
  · right; exact ⟨by rw [← h.1]; exact h0, h0⟩
  · left
    have h1 := h.1
    unfold Near.flip
    unfold Near.negOf at *
    by_cases hb : x / 2147483648 % 2 = 1
    · rw [hb] at hn ⊢
      have : y / 2147483648 % 2 ≠ 1 := by simpa using hn
      rw [if_pos (by rfl)]; omega
    · have hb0 : x / 2147483648 % 2 = 0 := by omega
      rw [hb0] at hn ⊢
      have : y / 2147483648 % 2 = 1 := by simpa using hn
      rw [if_neg (by decide)]; omega
theorem score_lt {sq : Bool} {way : Nat} {a b : List Nat} {r : Nat} (h : scoreS sq way a b = some r) : r < 4294967296 := by
  unfold scoreS at h
  obtain ⟨l, h1, h2⟩ := Option.bind_eq_some_iff.1 h
  exact Near.sumM_lt way l r (Near.termsM_lt sq a b l h1) h2

end Go.Proofs.Ytnoccennhgnjnaa

import Derived.Test.YtnoccennhgnjnaaRef4
import Derived.Test.YtnoccennhgnjnaaRound
namespace Go.Proofs.Ytnoccennhgnjnaa
open Go.RowKit

set_option maxHeartbeats 800000 in
theorem length_any (w : World) (v : Value) (n : Nat) (hd : Ds w v n) (hn : Near.nd n ≤ 100) :
    Calls Try.prog 52 #[v] w fun e w' => e = .returned (.int .i64 (Near.blen n)) ∧ w' = w := by
  obtain ⟨ad, cap, rfl, h⟩ := hd
  by_cases h0 : n = 0
  · subst h0
    clear h
    go_enter Try.func52, Try.ntmps52
    go_wp2
    go_ret
    exact ⟨rfl, rfl⟩
  · have hp := Near.nd_pos h0
    obtain ⟨g, off, rfl, hl⟩ := h hp
    have hc := hl (Near.nd n - 1) (by omega)
    have hb : ((Near.nd n : Int) == 0) = false := by simp; omega
    have hsub : ((Near.nd n : Int) - 1).toNat = Near.nd n - 1 := by omega
    have hlt := Near.dig_lt n (Near.nd n - 1)
    have HB := hide (Near.blen_top h0)
    have HN : Hid (Near.blen n ≤ 2400) := by have := Near.blen_nd n; rw [Hid]; omega
    clear h hl h0
    go_enter Try.func52, Try.ntmps52
    go_wp2
    go_loop [3, 4] (fun i u => ∃ m x : Nat, i = .int .i64 m ∧ u = .int .i64 x ∧ x < 16777216 ∧ m ≤ 5000 ∧ Hid (Near.blen n = m + Near.blen x)) (fun _ u => (intOf u).toNat)
    case atStart => exact ⟨24 * (Near.nd n - 1), Near.dig n (Near.nd n - 1), by go_num, rfl, hlt, by omega, HB⟩
    case round =>
      obtain ⟨m, x, rfl, rfl, hx, hm, hbl⟩ := hrel
      by_cases hx0 : 0 < x
      · have hbl2 : Hid (Near.blen n = m + 1 + Near.blen (x / 2)) := by rw [Hid, unhide hbl, Near.blen_half (by omega)]; omega
        go_wp2
        go_round
        case rel => exact ⟨m + 1, x / 2, by go_num, by go_num, by omega, by have := unhide hbl2; have := unhide HN; omega, hbl2⟩
        case measure => simp [intOf]; omega
      · have hz : x = 0 := by omega
        subst hz
        go_wp2
        go_ret
        exact ⟨ret_int (by rw [unhide hbl]; rfl), rfl⟩

def signW (b : Nat) (neg : Bool) : Nat := if neg then b % 2147483648 + 2147483648 else b % 2147483648
set_option maxHeartbeats 400000 in
theorem sign_any (w : World) (b : Nat) (neg : Bool) (hb : b < 4294967296) :
    Calls Try.prog 51 #[.int .u32 b, .bool neg] w fun e w' => e = .returned (.int .u32 (signW b neg)) ∧ w' = w := by
  cases neg with
  | true =>
    go_enter Try.func51, Try.ntmps51
    go_wp2
    go_ret
    exact ⟨ret_int (by unfold signW; simp), rfl⟩
  | false =>
    go_enter Try.func51, Try.ntmps51
    go_wp2
    go_ret
    exact ⟨ret_int (by unfold signW; simp), rfl⟩

set_option maxHeartbeats 400000 in
theorem turned_bits (w : World) (b : Nat) (hb : b < 4294967296) :
    Calls Try.prog 44 #[.int .u32 b] w fun e w' => e = .returned (.int .u32 (Near.flip b)) ∧ w' = w := by
  go_enter Try.func44, Try.ntmps44
  go_wp2_with fail
  refine (sign_any _ b _ hb).mono ?_
  rintro e w' ⟨rfl, rfl⟩
  go_wp2
  go_ret
  refine ⟨ret_int ?_, rfl⟩
  unfold signW Near.flip Near.negOf
  by_cases h : b < 2147483648
  · have e1 : b / 2147483648 % 2 = 0 := by omega
    have e2 : decide ((b : Int) < 2147483648) = true := by simp; omega
    rw [e1, e2]; rfl
  · have e1 : b / 2147483648 % 2 = 1 := by omega
    have e2 : decide ((b : Int) < 2147483648) = false := by simp; omega
    rw [e1, e2]; rfl

theorem sign_word {r : Nat} (neg : Bool) (h : r < 2139095040) : signW r neg = Ieee.single.word neg r := by
  unfold signW Ieee.Format.word
  rw [Near.single_sign, Nat.mod_eq_of_lt (by omega), Nat.add_comm]

/-- what a step of the document's answer comes to -/
def stepAns (m : Option Nat) : Value := match m with | some r => .tuple #[.int .u32 r, .bool true] | none => .tuple #[.int .u32 0, .bool false]

theorem sign_int (w : World) (x : Int) (neg : Bool) (h0 : 0 ≤ x) (hb : x < 4294967296) :
    Calls Try.prog 51 #[.int .u32 x, .bool neg] w fun e w' => e = .returned (.int .u32 (signW x.toNat neg)) ∧ w' = w := by
  obtain ⟨b, rfl⟩ := Int.eq_ofNat_of_zero_le h0
  exact sign_any w b neg (by omega)

/-- a bit -/
def bitN (a i : Nat) : Nat := a / 2 ^ i % 2
theorem bitN_le (a i : Nat) : bitN a i ≤ 1 := by unfold bitN; omega
theorem bit_ref (w : World) (v : Value) (n : Nat) (i : Int) (hd : Ds w v n) (hi : 0 ≤ i) (hi2 : i ≤ 100000) :
    Calls Try.prog 53 #[v, .int .i64 i] w fun e w' => e = .returned (.int .i64 (bitN n i.toNat)) ∧ w' = w := bit_any w v n i hd hi hi2

def rAns (neg : Bool) (o : Nat) : Value := stepAns (if o < 2139095040 then some (Ieee.single.word neg o) else none)
theorem close_ok {X o : Nat} (neg : Bool) (h : X = o) (hlt : o < 2139095040) : Ending.returned (.tuple #[.int .u32 (signW X neg), .bool true]) = .returned (rAns neg o) := by
  unfold rAns; rw [if_pos hlt, h, sign_word neg hlt]; rfl
theorem close_no {o : Nat} (neg : Bool) (hlt : ¬ o < 2139095040) : Ending.returned (.tuple #[.int .u32 0, .bool false]) = .returned (rAns neg o) := by
  unfold rAns; rw [if_neg hlt]; rfl
theorem up_none {a c : Nat} (h : c = 0 ∨ bitN a (c - 1) = 0) : (Near.upB a c).toNat = 0 := by
  unfold Near.upB
  rcases h with h | h
  · rw [decide_eq_false (by omega)]; rfl
  · unfold bitN at h; rw [h]; simp
theorem up_some {a c : Nat} (h0 : 0 < c) (h : bitN a (c - 1) = 1) (m : Bool) (hm : m = (a % 2 ^ (c - 1) != 0)) : (Near.upB a c).toNat = (m || a / 2 ^ c % 2 == 1).toNat := by
  unfold Near.upB
  unfold bitN at h
  rw [decide_eq_true h0, h, hm]; rfl

set_option maxHeartbeats 6400000 in
set_option maxRecDepth 100000 in
theorem rounded_low (w : World) (v : Value) (a l c : Nat) (S : Int) (neg : Bool) (hd : Ds w v a) (hn : Near.nd a ≤ 100) (hS : S - 149 = (l : Int)) (hN : Near.blen a ≤ 2400)
    (h1 : (Near.blen a : Int) - 24 < l) (hlc : c = l) (hcl1 : l ≤ c) (hcl2 : c ≤ 2400) (HQ : Hid (∀ k, c ≤ k → a / 2 ^ k < 16777216)) (HO : Hid (Near.outOf a l = (c - l) * 8388608 + (a / 2 ^ c + (Near.upB a c).toNat))) :
    Calls Try.prog 46 #[v, .int .i64 S, .bool neg] w fun e w' => e = .returned (rAns neg (Near.outOf a l)) ∧ w' = w := by
  subst hlc
  go_enter Try.func46, Try.ntmps46
  go_wp2_with fail
  refine (length_any _ _ a hd hn).mono ?_
  rintro e w' ⟨rfl, rfl⟩
  go_wp2
  clear hS 
  go_loop [11, 12] (fun q i => ∃ k Q : Nat, q = .int .i64 Q ∧ i = .int .i64 ((k : Int) - 1) ∧ Hid (Q = a / 2 ^ k) ∧ Q ≤ 16777216 ∧ k ≤ Near.blen a ∧ (c ≤ k ∨ Near.blen a ≤ k)) (fun _ i => ((intOf i) + 1).toNat)
  case atStart => exact ⟨Near.blen a, 0, rfl, rfl, by rw [Hid, Nat.div_eq_of_lt (Near.blen_lt a)], by omega, Nat.le_refl _, Or.inr (Nat.le_refl _)⟩
  case round =>
    obtain ⟨k, Q, rfl, rfl, hQ, hQ1, hk, hkc⟩ := hrel
    by_cases hgo : c < k
    · obtain ⟨j, rfl⟩ : ∃ j, k = j + 1 := ⟨k - 1, by omega⟩
      have hbl := bitN_le a j
      have hq2 : Hid (2 * Q + bitN a j = a / 2 ^ j) := by rw [Hid, unhide hQ]; exact (Near.bits_top a j).symm
      have hq3 : Hid (2 * Q + bitN a j ≤ 16777216) := by rw [Hid, unhide hq2]; exact Nat.le_of_lt (unhide HQ j (by omega))
      go_wp2_with fail
      refine (bit_ref _ _ a _ hd (by omega) (by omega)).mono ?_
      rintro e w9 ⟨rfl, rfl⟩
      go_wp2
      go_round
      case rel => exact ⟨j, 2 * Q + bitN a j, by go_num, by go_num, hq2, unhide hq3, by omega, by omega⟩
      case measure => simp [intOf]
    · have hQc : Hid (Q = a / 2 ^ c) := by
        rw [Hid, unhide hQ]
        by_cases e : c = k
        · rw [e]
        · have h1 : a < 2 ^ k := Nat.lt_of_lt_of_le (Near.blen_lt a) (Nat.pow_le_pow_right (by decide) (by omega))
          have h2 : a < 2 ^ c := Nat.lt_of_lt_of_le h1 (Nat.pow_le_pow_right (by decide) (by omega))
          rw [Nat.div_eq_of_lt h1, Nat.div_eq_of_lt h2]
      have hki : (k : Int) - 1 < c := by omega
      clear hQ
      by_cases hc0 : c = 0
      · have HQO : Hid (Near.outOf a c = (c - c) * 8388608 + Q) := by rw [Hid, unhide HO, up_none (Or.inl hc0), ← unhide hQc, Nat.add_zero]
        have hci : ¬ (0 : Int) < c := by omega
        clear hc0
        by_cases hbig : (c - c) * 8388608 + (Q) < 2139095040
        · have hbi : decide ((2139095040 : Int) ≤ ((Q : Int))) = false := by rw [decide_eq_false_iff_not]; omega
          have HBG := hide hbig
          clear hbig
          go_wp2_with fail
          refine (sign_int _ _ neg (by omega) (by have := unhide HBG; omega)).mono ?_
          rintro e w9 ⟨rfl, rfl⟩
          go_wp2
          go_ret2
          exact ⟨close_ok neg (by have := unhide HBG; rw [unhide HQO]; omega) (by rw [unhide HQO]; exact unhide HBG), rfl⟩
        · have hbi : decide ((2139095040 : Int) ≤ ((Q : Int))) = true := by rw [decide_eq_true_iff]; omega
          have HBG := hide hbig
          clear hbig
          go_wp2
          go_ret2
          exact ⟨close_no neg (by rw [unhide HQO]; exact unhide HBG), rfl⟩
      · have hci : (0 : Int) < c := by omega
        rcases (show bitN a (c - 1) = 0 ∨ bitN a (c - 1) = 1 by have := bitN_le a (c - 1); omega) with hb | hb
        · have HQO : Hid (Near.outOf a c = (c - c) * 8388608 + Q) := by rw [Hid, unhide HO, up_none (Or.inr hb), ← unhide hQc, Nat.add_zero]
          have hsub : ((c : Int) - 1).toNat = c - 1 := by omega
          go_wp2_with fail
          refine (bit_ref _ _ a _ hd (by omega) (by omega)).mono ?_
          rw [hsub, hb]
          rintro e w9 ⟨rfl, rfl⟩
          clear hb hsub
          by_cases hbig : (c - c) * 8388608 + (Q) < 2139095040
          · have hbi : decide ((2139095040 : Int) ≤ ((Q : Int))) = false := by rw [decide_eq_false_iff_not]; omega
            have HBG := hide hbig
            clear hbig
            go_wp2_with fail
            refine (sign_int _ _ neg (by omega) (by have := unhide HBG; omega)).mono ?_
            rintro e w9 ⟨rfl, rfl⟩
            go_wp2
            go_ret2
            exact ⟨close_ok neg (by have := unhide HBG; rw [unhide HQO]; omega) (by rw [unhide HQO]; exact unhide HBG), rfl⟩
          · have hbi : decide ((2139095040 : Int) ≤ ((Q : Int))) = true := by rw [decide_eq_true_iff]; omega
            have HBG := hide hbig
            clear hbig
            go_wp2
            go_ret2
            exact ⟨close_no neg (by rw [unhide HQO]; exact unhide HBG), rfl⟩
        · have hsub : ((c : Int) - 1).toNat = c - 1 := by omega
          have HB := hide hb
          go_wp2_with fail
          refine (bit_ref _ _ a _ hd (by omega) (by omega)).mono ?_
          rw [hsub, hb]
          rintro e w9 ⟨rfl, rfl⟩
          clear hb hsub
          go_wp2
          go_loop [13, 14] (fun u i => ∃ (m : Nat) (b : Bool), u = .bool b ∧ i = .int .i64 m ∧ m ≤ c - 1 ∧ Hid (b = (a % 2 ^ m != 0))) (fun _ i => c - (intOf i).toNat)
          case atStart => exact ⟨0, false, rfl, rfl, by omega, by rw [Hid, Nat.pow_zero, Nat.mod_one]; rfl⟩
          case round =>
            obtain ⟨m, b, rfl, rfl, hm, hbm⟩ := hrel
            by_cases hlt : m < c - 1
            · have hmi : (m : Int) < (c : Int) - 1 := by omega
              rcases (show bitN a m = 0 ∨ bitN a m = 1 by have := bitN_le a m; omega) with hb | hb
              · have hb2 : Hid (b = (a % 2 ^ (m + 1) != 0)) := by
                  rw [Hid, Near.bits_more]; unfold bitN at hb; rw [hb, Nat.mul_zero, Nat.add_zero]; exact unhide hbm
                go_wp2_with fail
                refine (bit_ref _ _ a _ hd (by omega) (by omega)).mono ?_
                rw [Int.toNat_natCast, hb]
                rintro e w9 ⟨rfl, rfl⟩
                clear hb
                go_wp2
                go_round
                case rel => exact ⟨m + 1, b, rfl, by go_num, by omega, hb2⟩
                case measure => simp [intOf]; omega
              · have hb2 : Hid (true = (a % 2 ^ (m + 1) != 0)) := by
                  rw [Hid, Near.bits_more]; unfold bitN at hb; rw [hb, Nat.mul_one]
                  have := Nat.two_pow_pos m
                  symm; rw [bne_iff_ne]; omega
                go_wp2_with fail
                refine (bit_ref _ _ a _ hd (by omega) (by omega)).mono ?_
                rw [Int.toNat_natCast, hb]
                rintro e w9 ⟨rfl, rfl⟩
                clear hb
                go_wp2
                go_round
                case rel => exact ⟨m + 1, true, rfl, by go_num, by omega, hb2⟩
                case measure => simp [intOf]; omega
            · have hme : m = c - 1 := by omega
              have hmi : ¬ (m : Int) < (c : Int) - 1 := by omega
              have hu := up_some (a := a) (c := c) (by omega) (unhide HB) b (by rw [← hme]; exact unhide hbm)
              rw [← unhide hQc] at hu
              cases b with
              | true =>
                have HQO : Hid (Near.outOf a c = (c - c) * 8388608 + (Q + 1)) := by rw [Hid, unhide HO, hu, ← unhide hQc]; rfl
                clear hu hme
                by_cases hbig : (c - c) * 8388608 + (Q + 1) < 2139095040
                · have hbi : decide ((2139095040 : Int) ≤ ((Q : Int) + 1)) = false := by rw [decide_eq_false_iff_not]; omega
                  have HBG := hide hbig
                  clear hbig
                  go_wp2_with fail
                  refine (sign_int _ _ neg (by omega) (by have := unhide HBG; omega)).mono ?_
                  rintro e w9 ⟨rfl, rfl⟩
                  go_wp2
                  go_ret2
                  exact ⟨close_ok neg (by have := unhide HBG; rw [unhide HQO]; omega) (by rw [unhide HQO]; exact unhide HBG), rfl⟩
                · have hbi : decide ((2139095040 : Int) ≤ ((Q : Int) + 1)) = true := by rw [decide_eq_true_iff]; omega
                  have HBG := hide hbig
                  clear hbig
                  go_wp2
                  go_ret2
                  exact ⟨close_no neg (by rw [unhide HQO]; exact unhide HBG), rfl⟩
              | false =>
                rcases Nat.mod_two_eq_zero_or_one Q with hp | hp
                · have HQO : Hid (Near.outOf a c = (c - c) * 8388608 + Q) := by rw [Hid, unhide HO, hu, ← unhide hQc, hp]; rfl
                  have hpi : ((Q : Int) % 2 == 1) = false := by rw [beq_eq_false_iff_ne]; omega
                  clear hu hme hp
                  by_cases hbig : (c - c) * 8388608 + (Q) < 2139095040
                  · have hbi : decide ((2139095040 : Int) ≤ ((Q : Int))) = false := by rw [decide_eq_false_iff_not]; omega
                    have HBG := hide hbig
                    clear hbig
                    go_wp2_with fail
                    refine (sign_int _ _ neg (by omega) (by have := unhide HBG; omega)).mono ?_
                    rintro e w9 ⟨rfl, rfl⟩
                    go_wp2
                    go_ret2
                    exact ⟨close_ok neg (by have := unhide HBG; rw [unhide HQO]; omega) (by rw [unhide HQO]; exact unhide HBG), rfl⟩
                  · have hbi : decide ((2139095040 : Int) ≤ ((Q : Int))) = true := by rw [decide_eq_true_iff]; omega
                    have HBG := hide hbig
                    clear hbig
                    go_wp2
                    go_ret2
                    exact ⟨close_no neg (by rw [unhide HQO]; exact unhide HBG), rfl⟩
                · have HQO : Hid (Near.outOf a c = (c - c) * 8388608 + (Q + 1)) := by rw [Hid, unhide HO, hu, ← unhide hQc, hp]; rfl
                  have hpi : ((Q : Int) % 2 == 1) = true := by rw [beq_iff_eq]; omega
                  clear hu hme hp
                  by_cases hbig : (c - c) * 8388608 + (Q + 1) < 2139095040
                  · have hbi : decide ((2139095040 : Int) ≤ ((Q : Int) + 1)) = false := by rw [decide_eq_false_iff_not]; omega
                    have HBG := hide hbig
                    clear hbig
                    go_wp2_with fail
                    refine (sign_int _ _ neg (by omega) (by have := unhide HBG; omega)).mono ?_
                    rintro e w9 ⟨rfl, rfl⟩
                    go_wp2
                    go_ret2
                    exact ⟨close_ok neg (by have := unhide HBG; rw [unhide HQO]; omega) (by rw [unhide HQO]; exact unhide HBG), rfl⟩
                  · have hbi : decide ((2139095040 : Int) ≤ ((Q : Int) + 1)) = true := by rw [decide_eq_true_iff]; omega
                    have HBG := hide hbig
                    clear hbig
                    go_wp2
                    go_ret2
                    exact ⟨close_no neg (by rw [unhide HQO]; exact unhide HBG), rfl⟩

set_option maxHeartbeats 6400000 in
set_option maxRecDepth 100000 in
theorem rounded_high (w : World) (v : Value) (a l c : Nat) (S : Int) (neg : Bool) (hd : Ds w v a) (hn : Near.nd a ≤ 100) (hS : S - 149 = (l : Int)) (hN : Near.blen a ≤ 2400)
    (h1 : ¬ (Near.blen a : Int) - 24 < l) (h2 : (Near.blen a : Int) - 24 = (c : Int)) (hcl1 : l ≤ c) (hcl2 : c ≤ 2400) (HQ : Hid (∀ k, c ≤ k → a / 2 ^ k < 16777216)) (HO : Hid (Near.outOf a l = (c - l) * 8388608 + (a / 2 ^ c + (Near.upB a c).toNat))) :
    Calls Try.prog 46 #[v, .int .i64 S, .bool neg] w fun e w' => e = .returned (rAns neg (Near.outOf a l)) ∧ w' = w := by
  have hdec : decide (c < l) = false := by simp; omega
  go_enter Try.func46, Try.ntmps46
  go_wp2_with fail
  refine (length_any _ _ a hd hn).mono ?_
  rintro e w' ⟨rfl, rfl⟩
  go_wp2
  clear hS h2
  go_loop [11, 12] (fun q i => ∃ k Q : Nat, q = .int .i64 Q ∧ i = .int .i64 ((k : Int) - 1) ∧ Hid (Q = a / 2 ^ k) ∧ Q ≤ 16777216 ∧ k ≤ Near.blen a ∧ (c ≤ k ∨ Near.blen a ≤ k)) (fun _ i => ((intOf i) + 1).toNat)
  case atStart => exact ⟨Near.blen a, 0, rfl, rfl, by rw [Hid, Nat.div_eq_of_lt (Near.blen_lt a)], by omega, Nat.le_refl _, Or.inr (Nat.le_refl _)⟩
  case round =>
    obtain ⟨k, Q, rfl, rfl, hQ, hQ1, hk, hkc⟩ := hrel
    by_cases hgo : c < k
    · obtain ⟨j, rfl⟩ : ∃ j, k = j + 1 := ⟨k - 1, by omega⟩
      have hbl := bitN_le a j
      have hq2 : Hid (2 * Q + bitN a j = a / 2 ^ j) := by rw [Hid, unhide hQ]; exact (Near.bits_top a j).symm
      have hq3 : Hid (2 * Q + bitN a j ≤ 16777216) := by rw [Hid, unhide hq2]; exact Nat.le_of_lt (unhide HQ j (by omega))
      go_wp2_with fail
      refine (bit_ref _ _ a _ hd (by omega) (by omega)).mono ?_
      rintro e w9 ⟨rfl, rfl⟩
      go_wp2
      go_round
      case rel => exact ⟨j, 2 * Q + bitN a j, by go_num, by go_num, hq2, unhide hq3, by omega, by omega⟩
      case measure => simp [intOf]
    · have hQc : Hid (Q = a / 2 ^ c) := by
        rw [Hid, unhide hQ]
        by_cases e : c = k
        · rw [e]
        · have h1 : a < 2 ^ k := Nat.lt_of_lt_of_le (Near.blen_lt a) (Nat.pow_le_pow_right (by decide) (by omega))
          have h2 : a < 2 ^ c := Nat.lt_of_lt_of_le h1 (Nat.pow_le_pow_right (by decide) (by omega))
          rw [Nat.div_eq_of_lt h1, Nat.div_eq_of_lt h2]
      have hki : (k : Int) - 1 < c := by omega
      clear hQ
      by_cases hc0 : c = 0
      · have HQO : Hid (Near.outOf a l = (c - l) * 8388608 + Q) := by rw [Hid, unhide HO, up_none (Or.inl hc0), ← unhide hQc, Nat.add_zero]
        have hci : ¬ (0 : Int) < c := by omega
        clear hc0
        by_cases hbig : (c - l) * 8388608 + (Q) < 2139095040
        · have hbi : decide ((2139095040 : Int) ≤ ((c : Int) - (l : Int)) * 8388608 + ((Q : Int))) = false := by rw [decide_eq_false_iff_not]; omega
          have HBG := hide hbig
          clear hbig
          go_wp2_with fail
          refine (sign_int _ _ neg (by omega) (by have := unhide HBG; omega)).mono ?_
          rintro e w9 ⟨rfl, rfl⟩
          go_wp2
          go_ret2
          exact ⟨close_ok neg (by have := unhide HBG; rw [unhide HQO]; omega) (by rw [unhide HQO]; exact unhide HBG), rfl⟩
        · have hbi : decide ((2139095040 : Int) ≤ ((c : Int) - (l : Int)) * 8388608 + ((Q : Int))) = true := by rw [decide_eq_true_iff]; omega
          have HBG := hide hbig
          clear hbig
          go_wp2
          go_ret2
          exact ⟨close_no neg (by rw [unhide HQO]; exact unhide HBG), rfl⟩
      · have hci : (0 : Int) < c := by omega
        rcases (show bitN a (c - 1) = 0 ∨ bitN a (c - 1) = 1 by have := bitN_le a (c - 1); omega) with hb | hb
        · have HQO : Hid (Near.outOf a l = (c - l) * 8388608 + Q) := by rw [Hid, unhide HO, up_none (Or.inr hb), ← unhide hQc, Nat.add_zero]
          have hsub : ((c : Int) - 1).toNat = c - 1 := by omega
          go_wp2_with fail
          refine (bit_ref _ _ a _ hd (by omega) (by omega)).mono ?_
          rw [hsub, hb]
          rintro e w9 ⟨rfl, rfl⟩
          clear hb hsub
          by_cases hbig : (c - l) * 8388608 + (Q) < 2139095040
          · have hbi : decide ((2139095040 : Int) ≤ ((c : Int) - (l : Int)) * 8388608 + ((Q : Int))) = false := by rw [decide_eq_false_iff_not]; omega
            have HBG := hide hbig
            clear hbig
            go_wp2_with fail
            refine (sign_int _ _ neg (by omega) (by have := unhide HBG; omega)).mono ?_
            rintro e w9 ⟨rfl, rfl⟩
            go_wp2
            go_ret2
            exact ⟨close_ok neg (by have := unhide HBG; rw [unhide HQO]; omega) (by rw [unhide HQO]; exact unhide HBG), rfl⟩
          · have hbi : decide ((2139095040 : Int) ≤ ((c : Int) - (l : Int)) * 8388608 + ((Q : Int))) = true := by rw [decide_eq_true_iff]; omega
            have HBG := hide hbig
            clear hbig
            go_wp2
            go_ret2
            exact ⟨close_no neg (by rw [unhide HQO]; exact unhide HBG), rfl⟩
        · have hsub : ((c : Int) - 1).toNat = c - 1 := by omega
          have HB := hide hb
          go_wp2_with fail
          refine (bit_ref _ _ a _ hd (by omega) (by omega)).mono ?_
          rw [hsub, hb]
          rintro e w9 ⟨rfl, rfl⟩
          clear hb hsub
          go_wp2
          go_loop [13, 14] (fun u i => ∃ (m : Nat) (b : Bool), u = .bool b ∧ i = .int .i64 m ∧ m ≤ c - 1 ∧ Hid (b = (a % 2 ^ m != 0))) (fun _ i => c - (intOf i).toNat)
          case atStart => exact ⟨0, false, rfl, rfl, by omega, by rw [Hid, Nat.pow_zero, Nat.mod_one]; rfl⟩
          case round =>
            obtain ⟨m, b, rfl, rfl, hm, hbm⟩ := hrel
            by_cases hlt : m < c - 1
            · have hmi : (m : Int) < (c : Int) - 1 := by omega
              rcases (show bitN a m = 0 ∨ bitN a m = 1 by have := bitN_le a m; omega) with hb | hb
              · have hb2 : Hid (b = (a % 2 ^ (m + 1) != 0)) := by
                  rw [Hid, Near.bits_more]; unfold bitN at hb; rw [hb, Nat.mul_zero, Nat.add_zero]; exact unhide hbm
                go_wp2_with fail
                refine (bit_ref _ _ a _ hd (by omega) (by omega)).mono ?_
                rw [Int.toNat_natCast, hb]
                rintro e w9 ⟨rfl, rfl⟩
                clear hb
                go_wp2
                go_round
                case rel => exact ⟨m + 1, b, rfl, by go_num, by omega, hb2⟩
                case measure => simp [intOf]; omega
              · have hb2 : Hid (true = (a % 2 ^ (m + 1) != 0)) := by
                  rw [Hid, Near.bits_more]; unfold bitN at hb; rw [hb, Nat.mul_one]
                  have := Nat.two_pow_pos m
                  symm; rw [bne_iff_ne]; omega
                go_wp2_with fail
                refine (bit_ref _ _ a _ hd (by omega) (by omega)).mono ?_
                rw [Int.toNat_natCast, hb]
                rintro e w9 ⟨rfl, rfl⟩
                clear hb
                go_wp2
                go_round
                case rel => exact ⟨m + 1, true, rfl, by go_num, by omega, hb2⟩
                case measure => simp [intOf]; omega
            · have hme : m = c - 1 := by omega
              have hmi : ¬ (m : Int) < (c : Int) - 1 := by omega
              have hu := up_some (a := a) (c := c) (by omega) (unhide HB) b (by rw [← hme]; exact unhide hbm)
              rw [← unhide hQc] at hu
              cases b with
              | true =>
                have HQO : Hid (Near.outOf a l = (c - l) * 8388608 + (Q + 1)) := by rw [Hid, unhide HO, hu, ← unhide hQc]; rfl
                clear hu hme
                by_cases hbig : (c - l) * 8388608 + (Q + 1) < 2139095040
                · have hbi : decide ((2139095040 : Int) ≤ ((c : Int) - (l : Int)) * 8388608 + ((Q : Int) + 1)) = false := by rw [decide_eq_false_iff_not]; omega
                  have HBG := hide hbig
                  clear hbig
                  go_wp2_with fail
                  refine (sign_int _ _ neg (by omega) (by have := unhide HBG; omega)).mono ?_
                  rintro e w9 ⟨rfl, rfl⟩
                  go_wp2
                  go_ret2
                  exact ⟨close_ok neg (by have := unhide HBG; rw [unhide HQO]; omega) (by rw [unhide HQO]; exact unhide HBG), rfl⟩
                · have hbi : decide ((2139095040 : Int) ≤ ((c : Int) - (l : Int)) * 8388608 + ((Q : Int) + 1)) = true := by rw [decide_eq_true_iff]; omega
                  have HBG := hide hbig
                  clear hbig
                  go_wp2
                  go_ret2
                  exact ⟨close_no neg (by rw [unhide HQO]; exact unhide HBG), rfl⟩
              | false =>
                rcases Nat.mod_two_eq_zero_or_one Q with hp | hp
                · have HQO : Hid (Near.outOf a l = (c - l) * 8388608 + Q) := by rw [Hid, unhide HO, hu, ← unhide hQc, hp]; rfl
                  have hpi : ((Q : Int) % 2 == 1) = false := by rw [beq_eq_false_iff_ne]; omega
                  clear hu hme hp
                  by_cases hbig : (c - l) * 8388608 + (Q) < 2139095040
                  · have hbi : decide ((2139095040 : Int) ≤ ((c : Int) - (l : Int)) * 8388608 + ((Q : Int))) = false := by rw [decide_eq_false_iff_not]; omega
                    have HBG := hide hbig
                    clear hbig
                    go_wp2_with fail
                    refine (sign_int _ _ neg (by omega) (by have := unhide HBG; omega)).mono ?_
                    rintro e w9 ⟨rfl, rfl⟩
                    go_wp2
                    go_ret2
                    exact ⟨close_ok neg (by have := unhide HBG; rw [unhide HQO]; omega) (by rw [unhide HQO]; exact unhide HBG), rfl⟩
                  · have hbi : decide ((2139095040 : Int) ≤ ((c : Int) - (l : Int)) * 8388608 + ((Q : Int))) = true := by rw [decide_eq_true_iff]; omega
                    have HBG := hide hbig
                    clear hbig
                    go_wp2
                    go_ret2
                    exact ⟨close_no neg (by rw [unhide HQO]; exact unhide HBG), rfl⟩
                · have HQO : Hid (Near.outOf a l = (c - l) * 8388608 + (Q + 1)) := by rw [Hid, unhide HO, hu, ← unhide hQc, hp]; rfl
                  have hpi : ((Q : Int) % 2 == 1) = true := by rw [beq_iff_eq]; omega
                  clear hu hme hp
                  by_cases hbig : (c - l) * 8388608 + (Q + 1) < 2139095040
                  · have hbi : decide ((2139095040 : Int) ≤ ((c : Int) - (l : Int)) * 8388608 + ((Q : Int) + 1)) = false := by rw [decide_eq_false_iff_not]; omega
                    have HBG := hide hbig
                    clear hbig
                    go_wp2_with fail
                    refine (sign_int _ _ neg (by omega) (by have := unhide HBG; omega)).mono ?_
                    rintro e w9 ⟨rfl, rfl⟩
                    go_wp2
                    go_ret2
                    exact ⟨close_ok neg (by have := unhide HBG; rw [unhide HQO]; omega) (by rw [unhide HQO]; exact unhide HBG), rfl⟩
                  · have hbi : decide ((2139095040 : Int) ≤ ((c : Int) - (l : Int)) * 8388608 + ((Q : Int) + 1)) = true := by rw [decide_eq_true_iff]; omega
                    have HBG := hide hbig
                    clear hbig
                    go_wp2
                    go_ret2
                    exact ⟨close_no neg (by rw [unhide HQO]; exact unhide HBG), rfl⟩

theorem rounded_ref (w : World) (v : Value) (a l : Nat) (S : Int) (neg : Bool) (hd : Ds w v a) (hn : Near.nd a ≤ 100) (hS : S - 149 = (l : Int)) (hl : l ≤ 149) :
    Calls Try.prog 46 #[v, .int .i64 S, .bool neg] w fun e w' => e = .returned (stepAns (Near.keep (some (Near.nearW neg a (l + 149))))) ∧ w' = w := by
  have hN : Near.blen a ≤ 2400 := by have := Near.blen_nd a; omega
  rw [Near.near_out]
  show Calls Try.prog 46 #[v, .int .i64 S, .bool neg] w fun e w' => e = .returned (rAns neg (Near.outOf a l)) ∧ w' = w
  have hcl : l ≤ Near.cutOf a l ∧ Near.cutOf a l ≤ 2400 := by unfold Near.cutOf; omega
  by_cases h : (Near.blen a : Int) - 24 < l
  · exact rounded_low w v a l (Near.cutOf a l) S neg hd hn hS hN h (by unfold Near.cutOf; omega) hcl.1 hcl.2 (Near.cut_q a l) rfl
  · exact rounded_high w v a l (Near.cutOf a l) S neg hd hn hS hN h (by unfold Near.cutOf; omega) hcl.1 hcl.2 (Near.cut_q a l) rfl

end Go.Proofs.Ytnoccennhgnjnaa

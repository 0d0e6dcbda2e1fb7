import Derived.Test.YtnoccennhgnjnaaRef1
namespace Go.Proofs.Ytnoccennhgnjnaa
open Go.RowKit

/-- a row of digits of n -/
def drow (n i : Nat) : List Value := (List.range i).map fun j => Value.int .i64 (Near.dig n j)
theorem drow_len (n i : Nat) : (drow n i).length = i := by simp [drow]
theorem drow_more (n i : Nat) : drow n (i + 1) = drow n i ++ [.int .i64 (Near.dig n i)] := by simp [drow, List.range_succ]

theorem row_step {B : Nat} {w wr w1 : World} {o : Obj} {v v' : Value} {n i : Nat} {x : Int} (hbel : Below B w wr) (hB : B ≤ wr.heap.size) (hx : x = Near.dig n i)
    (hown : wr.ownsRow B 3 1 v i (drow n i)) (hown' : w1.ownsRow B 3 1 v' (i + 1) (drow n i ++ [.int .i64 x])) (hgrow : (wr.alloc o).grownBy w1 v.ownBlock) :
    w1.ownsRow B 3 1 v' (i + 1) (drow n (i + 1)) ∧ Below B w w1 := by
  refine ⟨by rw [drow_more, ← hx]; exact hown', ?_⟩
  refine (hbel.alloc hB o).grown hgrow (by simp; omega) fun k hk => ?_
  rcases hown.2 with ⟨rfl, _⟩ | ⟨g, cap, cur, rfl, hg', _⟩
  · simp [Value.ownBlock] at hk
  · simp [Value.ownBlock] at hk; omega

theorem raw_of {w : World} {B : Nat} {v : Value} {n i : Nat} (h : w.ownsRow B 3 1 v i (drow n i)) : Raw w v n i := by
  rcases h.2 with ⟨rfl, hz⟩ | ⟨g, cap, cur, rfl, hg, hh, hnc, hcm, hcs, ht⟩
  · exact ⟨none, 0, by rw [hz], by omega, fun h => by omega⟩
  · refine ⟨some ⟨g, 0, none⟩, cap, rfl, hnc, fun _ => ⟨g, 0, rfl, fun j hj => ?_⟩⟩
    have := h.cellAt j (by omega)
    rw [Nat.zero_add, this]
    simp [drow, hj]

set_option maxHeartbeats 800000 in
theorem shifted_any (w : World) (v k : Nat) (hv : v < 2 ^ 60) (hk : k ≤ 600) :
    Calls Try.prog 47 #[.int .i64 v, .int .i64 k] w fun e w' => ∃ r, e = .returned r ∧ Ds w' r (v * 2 ^ k) ∧ Below w.heap.size w w' := by
  obtain ⟨i0, hi, hz0, hz1, hz2⟩ := info_parts Try.info3
  go_enter Try.func47, Try.ntmps47
  go_wp2
  go_loopw [5, 6] (fun u i wr => ∃ m : Nat, m ≤ k / 24 ∧ i = .int .i64 m ∧ wr.ownsRow w.heap.size 3 1 u m (drow (v * 2 ^ k) m) ∧ Below w.heap.size w wr) (fun _ i _ => k / 24 - (intOf i).toNat)
  case atStart => exact ⟨0, by omega, rfl, World.ownsRow_nil _ _ _ _, Below.refl _ _⟩
  case round =>
    obtain ⟨m, hm, rfl, hown, hbel⟩ := hrel
    have hsz := hbel.size
    by_cases hlt : m < k / 24
    · have hdz : Hid ((0 : Int) = Near.dig (v * 2 ^ k) m) := by rw [Hid, Near.sh_low hlt]; rfl
      go_wp2_with (at_builtin; refine wpList_append_own _ rfl _ _ 65 rfl w.heap.size 3 i0 (.int .i64 0) 1 8 Try.underlying65 hi hz0 hz1 hz2 rfl (by decide) _ _ _ rfl (hown.alloc _) ⟨_, 0, none⟩ 1 1 [.int .i64 0] rfl rfl (cell_one_new _ _ _) (by intro u hu; simp at hu; subst hu; rfl) (by unfold maxLen; omega) (by omega) (by simp; omega) ?_; intro v' wx hown' hgrow _)
      obtain ⟨o2, bl2⟩ := row_step hbel hsz hdz.out hown hown' hgrow
      clear hown' hgrow hown
      go_roundw
      case rel => exact ⟨m + 1, by omega, by go_num, o2, bl2⟩
      case measure => simp [intOf]; omega
    · have hme : m = k / 24 := by omega
      subst hme
      obtain ⟨P, hP⟩ : ∃ P : Nat, P = 2 ^ (24 - k % 24) := ⟨_, rfl⟩
      have hP1 : 0 < P := by rw [hP]; exact Nat.two_pow_pos _
      have hP2 : P ≤ 16777216 := by rw [hP]; exact Nat.le_trans (Nat.pow_le_pow_right (by decide) (show 24 - k % 24 ≤ 24 by omega)) (by decide)
      have hPi : ((2 : Int) ^ (24 - k % 24)) = P := by rw [hP]; simp
      have hw1 : wrap64 ((2 : Int) ^ (24 - k % 24)) = P := by rw [hPi]; unfold wrap64; omega
      have hL : v % P * 2 ^ (k % 24) = Near.dig (v * 2 ^ k) (k / 24) := by rw [Near.sh_mid, hP]
      have hLb := Near.dig_lt (v * 2 ^ k) (k / 24)
      have hw2 : wrap64 ((v : Int) % (P : Int) * (2 : Int) ^ (k % 24)) = (Near.dig (v * 2 ^ k) (k / 24) : Nat) := by
        rw [← hL]
        have e : (v : Int) % (P : Int) * (2 : Int) ^ (k % 24) = ((v % P * 2 ^ (k % 24) : Nat) : Int) := by simp
        rw [e]; unfold wrap64; omega
      have hw3 : (v : Int) / (2 : Int) ^ (24 - k % 24) = ((v / P : Nat) : Int) := by rw [hPi]; simp
      have HP := hide hP
      have HV : Hid (v / P ≤ 1152921504606846976) := Nat.le_trans (Nat.div_le_self _ _) (Nat.le_of_lt hv)
      have HW3 := hide hw3
      clear hP hPi hL hw3
      go_wp2_with (at_builtin; refine wpList_append_own _ rfl _ _ 65 rfl w.heap.size 3 i0 (.int .i64 0) 1 8 Try.underlying65 hi hz0 hz1 hz2 rfl (by decide) _ _ _ rfl (hown.alloc _) ⟨_, 0, none⟩ 1 1 [.int .i64 (Near.dig (v * 2 ^ k) (k / 24) : Nat)] rfl rfl (cell_one_new _ _ _) (by intro u hu; simp at hu; subst hu; rfl) (by unfold maxLen; omega) (by omega) (by simp; omega) ?_; intro v1 w1 hown1 hgrow1 _)
      obtain ⟨o1, bl1⟩ := row_step hbel hsz rfl hown hown1 hgrow1
      clear hown1 hgrow1 hown hw1 hw2
      have HV3 : Hid (v / P < 16777216 ^ 3) := by have := unhide HV; rw [Hid]; omega
      go_loopw [0, 5] (fun q u wr => ∃ i a : Nat, q = .int .i64 a ∧ a ≤ 1152921504606846976 ∧ Hid (a = v / P / 16777216 ^ i) ∧ i ≤ 3 ∧ wr.ownsRow w.heap.size 3 1 u (k / 24 + 1 + i) (drow (v * 2 ^ k) (k / 24 + 1 + i)) ∧ Below w.heap.size w wr) (fun q _ _ => (intOf q).toNat)
      case atStart => exact ⟨0, v / P, congrArg (Value.int .i64) (unhide HW3), unhide HV, by rw [Hid, Nat.pow_zero, Nat.div_one], by omega, o1, bl1⟩
      case round =>
        obtain ⟨i, a, rfl, ha, hai, hi3, hown2, hbel2⟩ := hrel
        have hsz2 := hbel2.size
        by_cases ha0 : 0 < a
        · have hi2 : i < 3 := by
            refine Nat.lt_of_not_le fun h3 => ?_
            have h4 : v / P / 16777216 ^ i = 0 := Nat.div_eq_of_lt (Nat.lt_of_lt_of_le (unhide HV3) (Nat.pow_le_pow_right (by decide) h3))
            have := unhide hai
            omega
          have hdx : Hid ((((a : Int) % 16777216)) = Near.dig (v * 2 ^ k) (k / 24 + 1 + i)) := by
            rw [Hid, Near.sh_high, ← unhide HP, ← unhide hai]; omega
          go_wp2_with (at_builtin; refine wpList_append_own _ rfl _ _ 65 rfl w.heap.size 3 i0 (.int .i64 0) 1 8 Try.underlying65 hi hz0 hz1 hz2 rfl (by decide) _ _ _ rfl (hown2.alloc _) ⟨_, 0, none⟩ 1 1 [.int .i64 ((a : Int) % 16777216)] rfl rfl (cell_one_new _ _ _) (by intro u hu; simp at hu; subst hu; rfl) (by unfold maxLen; omega) (by omega) (by simp; omega) ?_; intro v2 w2 hown3 hgrow3 _)
          obtain ⟨o3, bl3⟩ := row_step hbel2 hsz2 hdx.out hown2 hown3 hgrow3
          clear hown3 hgrow3 hown2
          go_roundw
          case rel => exact ⟨i + 1, a / 16777216, by go_num, by omega, by rw [Hid, Nat.pow_succ, ← Nat.div_div_eq_div_mul, ← unhide hai], by omega, o3, bl3⟩
          case measure => simp [intOf]; omega
        · have hz : a = 0 := by omega
          subst hz
          have hend : v * 2 ^ k < 16777216 ^ (k / 24 + 1 + i) := Near.sh_end (by rw [← unhide HP, ← unhide hai])
          have Hend := hide hend
          have hraw := raw_of hown2
          clear hend hown2
          go_wp2_with fail
          refine (trim_any _ _ _ _ hraw (unhide Hend) (by omega)).mono ?_
          rintro e w9 ⟨⟨v', rfl, hds⟩, rfl⟩
          go_wp2
          go_ret
          exact ⟨_, rfl, hds, hbel2⟩

end Go.Proofs.Ytnoccennhgnjnaa

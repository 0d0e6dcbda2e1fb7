import Derived.Test.YtnoccennhgnjnaaRef3
import Derived.Deep.QuietTactic
import Derived.BigQuiet
namespace Go.Proofs.Ytnoccennhgnjnaa
open Go.RowKit

def cmpI (m n : Nat) : Int := if m < n then -1 else if n < m then 1 else 0
theorem cmpI_lt {m n : Nat} (h : m < n) : cmpI m n = -1 := if_pos h
theorem cmpI_gt {m n : Nat} (h : n < m) : cmpI m n = 1 := by unfold cmpI; rw [if_neg (by omega), if_pos h]
theorem cmpI_eq {m n : Nat} (h : m = n) : cmpI m n = 0 := by unfold cmpI; rw [if_neg (by omega), if_neg (by omega)]
theorem below_drewN {B : Nat} {a w : World} (h : Below B a w) (n : Nat) : Below B a (w.drewN n) := ⟨h.os, h.tape, h.output, h.size, h.block⟩

set_option maxHeartbeats 1600000 in
theorem compare_any (w : World) (va vb : Value) (m n : Nat) (ha : Ds w va m) (hb : Ds w vb n) (hm : Near.nd m ≤ 100) (hn : Near.nd n ≤ 100) :
    Calls Try.prog 49 #[va, vb] w fun e w' => e = .returned (.int .i64 (cmpI m n)) ∧ Below w.heap.size w w' := by
  obtain ⟨ada, capa, rfl, ha⟩ := ha
  obtain ⟨adb, capb, rfl, hb⟩ := hb
  by_cases hne : Near.nd m = Near.nd n
  · have hnb : ((Near.nd m : Int) != (Near.nd n : Int)) = false := by simp [hne]
    by_cases h0 : Near.nd m = 0
    · have e1 := Near.zero_of_nd h0
      have e2 : n = 0 := Near.zero_of_nd (by omega)
      subst e1; subst e2
      clear ha hb hne
      go_enter Try.func49, Try.ntmps49
      go_wp2
      refine wp_loop_rounds 1 ?_
      rw [rounds_succ]
      go_wp2
      go_ret
      exact ⟨rfl, Below.refl _ _⟩
    · obtain ⟨g1, off1, rfl, hl1⟩ := ha (by omega)
      obtain ⟨g2, off2, rfl, hl2⟩ := hb (by omega)
      have g1l := hl1.lt (by omega)
      have g2l := hl2.lt (by omega)
      have HE := hide hne
      have hle : Near.nd m ≤ Near.nd n := by omega
      clear ha hb hne
      go_enter Try.func49, Try.ntmps49
      go_wp2
      go_loopw [5] (fun i wr => ∃ k : Nat, k ≤ Near.nd m ∧ i = .int .i64 ((k : Int) - 1) ∧ Hid (Near.high m k = Near.high n k) ∧ Below w.heap.size w wr) (fun i _ => ((intOf i) + 1).toNat)
      case atStart => exact ⟨Near.nd m, Nat.le_refl _, rfl, by rw [Hid, Near.high_nd, unhide HE, Near.high_nd], Below.refl _ _⟩
      case round =>
        obtain ⟨k, hk, rfl, hh, hbel⟩ := hrel
        by_cases hk0 : 0 < k
        · obtain ⟨j, rfl⟩ : ∃ j, k = j + 1 := ⟨k - 1, by omega⟩
          have hc1 : wr.cell? ⟨g1, off1 + j, none⟩ = some (.int .i64 (Near.dig m j)) := (hl1.same (hbel.block _ g1l)) j (by omega)
          have hc2 : wr.cell? ⟨g2, off2 + j, none⟩ = some (.int .i64 (Near.dig n j)) := (hl2.same (hbel.block _ g2l)) j (by omega)
          have hd1 := Near.high_dig m j
          have hd2 := Near.high_dig n j
          have hj1 : (j : Int) < (Near.nd m : Int) := by omega
          have hj2 : (j : Int) < (Near.nd n : Int) := by omega
          rcases Nat.lt_trichotomy (Near.dig m j) (Near.dig n j) with hlt | heq | hgt
          · have hi : ((Near.dig m j : Nat) : Int) < (Near.dig n j : Nat) := by omega
            have HR := hide (cmpI_lt (Near.lt_of_high (m := m) (n := n) (i := j) (by rw [hd1, hd2, unhide hh]; omega)))
            clear hd1 hd2
            go_wp2_with fail
            go_quiet (fail)
            go_wp2
            go_ret
            exact ⟨by rw [unhide HR]; rfl, below_drewN hbel _⟩
          · have hi : ¬ ((Near.dig m j : Nat) : Int) < (Near.dig n j : Nat) := by omega
            have hi2 : ¬ ((Near.dig n j : Nat) : Int) < (Near.dig m j : Nat) := by omega
            have HR : Hid (Near.high m j = Near.high n j) := by rw [Hid, hd1, hd2, unhide hh, heq]
            clear hd1 hd2 heq
            go_wp2_with fail
            go_quiet (fail)
            go_wp2_with fail
            go_quiet (fail)
            go_wp2
            go_roundw
            case rel => exact ⟨j, by omega, by go_num, HR, below_drewN hbel _⟩
            case measure => simp [intOf]
          · have hi : ¬ ((Near.dig m j : Nat) : Int) < (Near.dig n j : Nat) := by omega
            have hi2 : ((Near.dig n j : Nat) : Int) < (Near.dig m j : Nat) := by omega
            have HR := hide (cmpI_gt (Near.lt_of_high (m := n) (n := m) (i := j) (by rw [hd1, hd2, unhide hh]; omega)))
            clear hd1 hd2
            go_wp2_with fail
            go_quiet (fail)
            go_wp2_with fail
            go_quiet (fail)
            go_wp2
            go_ret
            exact ⟨by rw [unhide HR]; rfl, below_drewN (below_drewN hbel _) _⟩
        · have hkz : k = 0 := by omega
          subst hkz
          have HR := hide (cmpI_eq (m := m) (n := n) (by have := unhide hh; rw [Near.high_zero, Near.high_zero] at this; exact this))
          go_wp2
          go_ret
          exact ⟨by rw [unhide HR]; rfl, hbel⟩
  · have hnb : ((Near.nd m : Int) != (Near.nd n : Int)) = true := by rw [bne_iff_ne]; omega
    by_cases hlt : Near.nd m < Near.nd n
    · have HR := hide (cmpI_lt (Near.lt_of_nd hlt))
      clear ha hb hne
      go_enter Try.func49, Try.ntmps49
      go_wp2
      go_ret
      exact ⟨by rw [unhide HR]; rfl, Below.refl _ _⟩
    · have HR := hide (cmpI_gt (m := m) (n := n) (Near.lt_of_nd (by omega)))
      clear ha hb hne
      go_enter Try.func49, Try.ntmps49
      go_wp2
      go_ret
      exact ⟨by rw [unhide HR]; rfl, Below.refl _ _⟩

set_option maxHeartbeats 1600000 in
theorem without_any (w : World) (va vb : Value) (m n : Nat) (ha : Ds w va m) (hb : Ds w vb n) (hm : Near.nd m ≤ 100) (hmn : n ≤ m) :
    Calls Try.prog 50 #[va, vb] w fun e w' => ∃ r, e = .returned r ∧ Ds w' r (m - n) ∧ Below w.heap.size w w' := by
  obtain ⟨i0, hi, hz0, hz1, hz2⟩ := info_parts Try.info3
  have hb0 := hb
  obtain ⟨ada, capa, rfl, ha⟩ := ha
  obtain ⟨adb, capb, rfl, _⟩ := hb
  have Hmn := hide hmn
  clear hmn
  go_enter Try.func50, Try.ntmps50
  go_wp2
  go_loopw [5, 6, 7] (fun u c i wr => ∃ k C : Nat, i = .int .i64 k ∧ c = .int .i64 C ∧ Hid (C = Near.borrow m n k) ∧ C ≤ 1 ∧ k ≤ Near.nd m ∧ wr.ownsRow w.heap.size 3 1 u k (drow (m - n) k) ∧ Below w.heap.size w wr) (fun _ _ i _ => Near.nd m - (intOf i).toNat)
  case atStart => exact ⟨0, 0, rfl, rfl, (Near.borrow_zero m n).symm, by omega, by omega, World.ownsRow_nil _ _ _ _, Below.refl _ _⟩
  case round =>
    obtain ⟨k, C, rfl, rfl, hC, hC1, hk, hown, hbel⟩ := hrel
    have hsz := hbel.size
    have hdb := hide (hb0.below hbel)
    have hla := Near.dig_lt m k
    have hlb := Near.dig_lt n k
    by_cases hlt : k < Near.nd m
    · obtain ⟨g1, off1, rfl, hl1⟩ := ha (by omega)
      have hc1 : wr.cell? ⟨g1, off1 + k, none⟩ = some (.int .i64 (Near.dig m k)) := (hl1.same (hbel.block _ (hl1.lt (by omega)))) k hlt
      have hs := Near.sub_dig (unhide Hmn) k
      rw [← unhide hC] at hs
      clear ha hl1
      by_cases hle : Near.dig n k + C ≤ Near.dig m k
      · obtain ⟨e1, e2⟩ := hs.1 hle
        have hdx : Hid ((((Near.dig m k : Nat) : Int) - (Near.dig n k : Nat) - C) = Near.dig (m - n) k) := by rw [Hid, e1]; omega
        have HE := hide e2
        have hneg : ¬ (((Near.dig m k : Nat) : Int) - (Near.dig n k : Nat) - C) < 0 := by omega
        clear hs e1 e2
        go_wp2_with fail
        go_quiet ((go_at_call 55; exact Calls.quiet_of_same (digit_any _ _ n _ (unhide hdb) (by omega))))
        have hownq : (wr.drewN nq).ownsRow w.heap.size 3 1 _ k (drow (m - n) k) := hown
        have hbelq : Below w.heap.size w (wr.drewN nq) := below_drewN hbel nq
        have hszq := hbelq.size
        clear hown hbel hc1 hdb hsz
        generalize wr.drewN nq = wq at *
        go_wp2_with (at_builtin; refine wpList_append_own _ rfl _ _ 65 rfl w.heap.size 3 i0 (.int .i64 0) 1 8 Try.underlying65 hi hz0 hz1 hz2 rfl (by decide) _ _ _ rfl (hownq.alloc _) ⟨_, 0, none⟩ 1 1 [.int .i64 (((Near.dig m k : Nat) : Int) - (Near.dig n k : Nat) - C)] rfl rfl (cell_one_new _ _ _) (by intro u hu; simp at hu; subst hu; rfl) (by unfold maxLen; omega) (by omega) (by simp; omega) ?_; intro v2 w2 hown3 hgrow3 _)
        obtain ⟨o3, bl3⟩ := row_step hbelq hszq hdx.out hownq hown3 hgrow3
        clear hown3 hgrow3 hownq
        go_roundw
        case rel => exact ⟨k + 1, 0, by go_num, rfl, (unhide HE).symm, by omega, by omega, o3, bl3⟩
        case measure => simp [intOf]; omega
      · obtain ⟨e1, e2⟩ := hs.2 (by omega)
        have hdx : Hid ((((Near.dig m k : Nat) : Int) - (Near.dig n k : Nat) - C + 16777216) = Near.dig (m - n) k) := by rw [Hid, e1]; omega
        have HE := hide e2
        have hneg : (((Near.dig m k : Nat) : Int) - (Near.dig n k : Nat) - C) < 0 := by omega
        clear hs e1 e2
        go_wp2_with fail
        go_quiet ((go_at_call 55; exact Calls.quiet_of_same (digit_any _ _ n _ (unhide hdb) (by omega))))
        have hownq : (wr.drewN nq).ownsRow w.heap.size 3 1 _ k (drow (m - n) k) := hown
        have hbelq : Below w.heap.size w (wr.drewN nq) := below_drewN hbel nq
        have hszq := hbelq.size
        clear hown hbel hc1 hdb hsz
        generalize wr.drewN nq = wq at *
        go_wp2_with (at_builtin; refine wpList_append_own _ rfl _ _ 65 rfl w.heap.size 3 i0 (.int .i64 0) 1 8 Try.underlying65 hi hz0 hz1 hz2 rfl (by decide) _ _ _ rfl (hownq.alloc _) ⟨_, 0, none⟩ 1 1 [.int .i64 (((Near.dig m k : Nat) : Int) - (Near.dig n k : Nat) - C + 16777216)] rfl rfl (cell_one_new _ _ _) (by intro u hu; simp at hu; subst hu; rfl) (by unfold maxLen; omega) (by omega) (by simp; omega) ?_; intro v2 w2 hown3 hgrow3 _)
        obtain ⟨o3, bl3⟩ := row_step hbelq hszq hdx.out hownq hown3 hgrow3
        clear hown3 hgrow3 hownq
        go_roundw
        case rel => exact ⟨k + 1, 1, by go_num, rfl, (unhide HE).symm, by omega, by omega, o3, bl3⟩
        case measure => simp [intOf]; omega
    · have hend : m - n < 16777216 ^ k := by
        have h1 := Near.lt_nd m
        rw [show k = Near.nd m by omega]; omega
      have Hend := hide hend
      have hraw := raw_of hown
      clear hown ha hend
      go_wp2_with fail
      refine (trim_any _ _ _ _ hraw (unhide Hend) (by omega)).mono ?_
      rintro e w9 ⟨⟨v', rfl, hds⟩, rfl⟩
      go_wp2
      go_ret
      exact ⟨_, rfl, hds, hbel⟩

end Go.Proofs.Ytnoccennhgnjnaa

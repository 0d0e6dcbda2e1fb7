import Derived.Test.YtnoccennhgnjnaaRef2
namespace Go.Proofs.Ytnoccennhgnjnaa
open Go.RowKit

set_option maxHeartbeats 1600000 in
theorem add_any (w : World) (va vb : Value) (m n M : Nat) (ha : Ds w va m) (hb : Ds w vb n) (hm : Near.nd m ≤ M) (hn : Near.nd n ≤ M) (hM : M ≤ 100) :
    Calls Try.prog 48 #[va, vb] w fun e w' => ∃ r, e = .returned r ∧ Ds w' r (m + n) ∧ Below w.heap.size w w' := by
  obtain ⟨i0, hi, hz0, hz1, hz2⟩ := info_parts Try.info3
  have ha0 := ha
  have hb0 := hb
  obtain ⟨ada, capa, rfl, _⟩ := ha
  obtain ⟨adb, capb, rfl, _⟩ := hb
  go_enter Try.func48, Try.ntmps48
  go_wp2
  go_loopw [5, 6, 7] (fun u c i wr => ∃ k C : Nat, i = .int .i64 k ∧ c = .int .i64 C ∧ Hid (C = Near.carry m n k) ∧ C ≤ 1 ∧ k ≤ M + 1 ∧ wr.ownsRow w.heap.size 3 1 u k (drow (m + n) k) ∧ Below w.heap.size w wr) (fun _ _ i _ => M + 1 - (intOf i).toNat)
  case atStart => exact ⟨0, 0, rfl, rfl, (Near.carry_zero m n).symm, by omega, by omega, World.ownsRow_nil _ _ _ _, Below.refl _ _⟩
  case round =>
    obtain ⟨k, C, rfl, rfl, hC, hC1, hk, hown, hbel⟩ := hrel
    have hsz := hbel.size
    have hda := hide (ha0.below hbel)
    have hdb := hide (hb0.below hbel)
    have hla := Near.dig_lt m k
    have hlb := Near.dig_lt n k
    by_cases hgo : k < Near.nd m ∨ k < Near.nd n ∨ 0 < C
    · have hkM : k ≤ M := by
        refine Nat.le_of_not_lt fun h => ?_
        have := Near.carry_high (m := m) (n := n) (k := k) (by omega) (by omega)
        have := unhide hC
        omega
      have hdx : Hid (((((Near.dig m k : Nat) : Int) + (Near.dig n k : Nat) + C) % 16777216) = Near.dig (m + n) k) := by
        have := (Near.add_dig m n k).1; rw [← unhide hC] at this; rw [Hid, ← this]; omega
      have hcx : Hid ((Near.dig m k + Near.dig n k + C) / 16777216 = Near.carry m n (k + 1)) := by
        have := (Near.add_dig m n k).2; rw [← unhide hC] at this; exact this
      have ht : Hid (k < Near.nd m ∨ (¬ k < Near.nd m ∧ k < Near.nd n) ∨ (¬ k < Near.nd m ∧ ¬ k < Near.nd n ∧ 0 < C)) := by rw [Hid]; omega
      clear hgo
      rcases unhide ht with h1 | ⟨h1, h2⟩ | ⟨h1, h2, h3⟩
      all_goals
        go_wp2_with fail
        refine (digit_any _ _ m _ (unhide hda) (by omega)).mono ?_
        rintro e w1 ⟨rfl, hw1⟩
        subst hw1
        go_wp2_with fail
        refine (digit_any _ _ n _ (unhide hdb) (by omega)).mono ?_
        rintro e w1 ⟨rfl, hw1⟩
        subst hw1
        go_wp2_with (at_builtin; refine wpList_append_own _ rfl _ _ 65 rfl w.heap.size 3 i0 (.int .i64 0) 1 8 Try.underlying65 hi hz0 hz1 hz2 rfl (by decide) _ _ _ rfl (hown.alloc _) ⟨_, 0, none⟩ 1 1 [.int .i64 ((((Near.dig m k : Nat) : Int) + (Near.dig n k : Nat) + C) % 16777216)] rfl rfl (cell_one_new _ _ _) (by intro u hu; simp at hu; subst hu; rfl) (by unfold maxLen; omega) (by omega) (by simp; omega) ?_; intro v2 w2 hown3 hgrow3 _)
        obtain ⟨o3, bl3⟩ := row_step hbel hsz hdx.out hown hown3 hgrow3
        clear hown3 hgrow3 hown
        go_roundw
        case rel => exact ⟨k + 1, (Near.dig m k + Near.dig n k + C) / 16777216, by go_num, by go_num, hcx, by omega, by omega, o3, bl3⟩
        case measure => simp [intOf]; omega
    · have h1 : ¬ k < Near.nd m := by omega
      have h2 : ¬ k < Near.nd n := by omega
      have h3 : C = 0 := by omega
      subst h3
      have Hend := hide (Near.carry_end (m := m) (n := n) (i := k) (by omega) (by omega) (unhide hC).symm)
      have hraw := raw_of hown
      clear hown hgo
      go_wp2_with fail
      refine (trim_any _ _ _ _ hraw (unhide Hend) (by omega)).mono ?_
      rintro e w9 ⟨⟨v', rfl, hds⟩, rfl⟩
      go_wp2
      go_ret
      exact ⟨_, rfl, hds, hbel⟩

end Go.Proofs.Ytnoccennhgnjnaa

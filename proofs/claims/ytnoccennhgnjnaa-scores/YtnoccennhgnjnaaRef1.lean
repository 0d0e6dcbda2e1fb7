import Derived.Test.YtnoccennhgnjnaaKeep1
import Derived.Test.YtnoccennhgnjnaaDigs
namespace Go.Proofs.Ytnoccennhgnjnaa
open Go.RowKit

theorem Try.info3 : (Try.prog.info? 3).map (fun i => (i.zero, i.size, i.bytes)) = some (some (.int .i64 0), 1, 8) := by kernel_rfl

/-- the digits of n lie in memory, k of them -/
def Dl (w : World) (g off n k : Nat) : Prop := ∀ j, j < k → w.cell? ⟨g, off + j, none⟩ = some (.int .i64 (Near.dig n j))
theorem Dl.same {w w' : World} {g off n k : Nat} (h : Dl w g off n k) (e : w'.heap[g]? = w.heap[g]?) : Dl w' g off n k := fun j hj => (World.cell?_of_block (a := ⟨g, off + j, none⟩) e).trans (h j hj)
theorem Dl.lt {w : World} {g off n k : Nat} (h : Dl w g off n k) (hk : 0 < k) : g < w.heap.size := by
  have := h 0 hk
  unfold World.cell? at this
  cases e : w.heap[g]? with
  | none => simp [e] at this
  | some x => exact lt_of_block e
/-- a slice that is n -/
def Ds (w : World) (v : Value) (n : Nat) : Prop := ∃ ad cap, v = .slice ad (Near.nd n) cap ∧ (0 < Near.nd n → ∃ g off, ad = some ⟨g, off, none⟩ ∧ Dl w g off n (Near.nd n))
theorem Ds.below {w w' : World} {v : Value} {n : Nat} (h : Ds w v n) (k : Below w.heap.size w w') : Ds w' v n := by
  obtain ⟨ad, cap, e, h⟩ := h
  refine ⟨ad, cap, e, fun hl => ?_⟩
  obtain ⟨g, off, e2, hu⟩ := h hl
  exact ⟨g, off, e2, hu.same (k.block g (hu.lt hl))⟩
theorem Ds.drew {w : World} {v : Value} {n : Nat} (h : Ds w v n) : Ds w.drew v n := h

set_option maxHeartbeats 400000 in
theorem digit_any (w : World) (v : Value) (n : Nat) (i : Int) (hd : Ds w v n) (hi : 0 ≤ i) :
    Calls Try.prog 55 #[v, .int .i64 i] w fun e w' => e = .returned (.int .i64 (Near.dig n i.toNat)) ∧ w' = w := by
  obtain ⟨j, rfl⟩ := Int.eq_ofNat_of_zero_le hi
  rw [Int.toNat_natCast]
  obtain ⟨ad, cap, rfl, h⟩ := hd
  by_cases hlt : j < Near.nd n
  · obtain ⟨g, off, rfl, hl⟩ := h (by omega)
    have hc := hl j hlt
    clear h hl
    go_enter Try.func55, Try.ntmps55
    go_wp2
    go_ret
    exact ⟨rfl, rfl⟩
  · have hz := hide (Near.dig_high (n := n) (j := j) (by omega))
    clear h
    go_enter Try.func55, Try.ntmps55
    go_wp2
    go_ret
    exact ⟨by rw [unhide hz]; rfl, rfl⟩

theorem shr_tmod (a k : Nat) : ((a : Int) / 2 ^ k).tmod 2 = ((a / 2 ^ k % 2 : Nat) : Int) := by
  have e : ((a : Int) / 2 ^ k) = ((a / 2 ^ k : Nat) : Int) := by rw [Int.natCast_ediv]; simp
  rw [e]
  rfl
set_option maxHeartbeats 400000 in
theorem bit_any (w : World) (v : Value) (n : Nat) (i : Int) (hd : Ds w v n) (hi : 0 ≤ i) (hi2 : i ≤ 100000) :
    Calls Try.prog 53 #[v, .int .i64 i] w fun e w' => e = .returned (.int .i64 (n / 2 ^ i.toNat % 2 : Nat)) ∧ w' = w := by
  obtain ⟨j, rfl⟩ := Int.eq_ofNat_of_zero_le hi
  rw [Int.toNat_natCast]
  go_enter Try.func53, Try.ntmps53
  go_wp2_with fail
  refine (digit_any w v n _ hd (by omega)).mono ?_
  rintro e w' ⟨rfl, rfl⟩
  go_wp2
  go_ret
  refine ⟨ret_int ?_, rfl⟩
  rw [← Near.bit_dig]
  exact shr_tmod _ _

/-- k digits of n, that may be noughts at the top -/
def Raw (w : World) (v : Value) (n k : Nat) : Prop := ∃ ad cap, v = .slice ad k cap ∧ k ≤ cap ∧ (0 < k → ∃ g off, ad = some ⟨g, off, none⟩ ∧ Dl w g off n k)

set_option maxHeartbeats 400000 in
theorem trim_any (w : World) (v : Value) (n k : Nat) (hr : Raw w v n k) (hn : n < 16777216 ^ k) (hk : k ≤ 1000) :
    Calls Try.prog 54 #[v] w fun e w' => (∃ v', e = .returned v' ∧ Ds w v' n) ∧ w' = w := by
  have hnd := Near.nd_le_of_lt hn
  have Hn := hide hn
  clear hn
  obtain ⟨ad, cap, rfl, hkc, h⟩ := hr
  go_enter Try.func54, Try.ntmps54
  go_wp2
  go_loop [3] (fun i => ∃ m : Nat, Near.nd n ≤ m ∧ m ≤ k ∧ i = .int .i64 m) (fun i => (intOf i).toNat)
  case atStart => exact ⟨k, hnd, Nat.le_refl _, rfl⟩
  case round =>
    obtain ⟨m, hm1, hm2, rfl⟩ := hrel
    by_cases hm0 : m = 0
    · subst hm0
      have hz : Near.nd n = 0 := by omega
      have Hz := hide hz
      clear hz
      go_wp2
      all_goals
        go_ret
        exact ⟨⟨_, rfl, ⟨_, _, by rw [unhide Hz]; rfl, fun h => absurd h (by rw [unhide Hz]; omega)⟩⟩, rfl⟩
    · have hk0 : 0 < k := by omega
      obtain ⟨g, off, rfl, hl⟩ := h hk0
      have hc := hl (m - 1) (by omega)
      have hmi : (0 : Int) < m := by omega
      have hsub : ((m : Int) - 1).toNat = m - 1 := by omega
      by_cases he : Near.nd n = m
      · have hne : n ≠ 0 := fun e => by rw [e, Near.nd_zero] at he; omega
        have hd := Near.dig_top hne
        rw [he] at hd
        have hb : (((Near.dig n (m - 1) : Nat) : Int) == 0) = false := by simp; omega
        have Hl : Hid (Dl w g off n (Near.nd n)) := fun j hj => hl j (by omega)
        have He := hide he
        clear he hd hl h
        go_wp2
        all_goals
          go_ret
          exact ⟨⟨_, rfl, ⟨_, _, by rw [unhide He]; rfl, fun _ => ⟨g, off, rfl, unhide Hl⟩⟩⟩, rfl⟩
      · have hd := Near.dig_high (n := n) (j := m - 1) (by omega)
        rw [hd] at hc
        clear hl h hd
        go_wp2
        go_round
        case rel => exact ⟨m - 1, by omega, by omega, by go_num⟩
        case measure => simp [intOf]; omega

end Go.Proofs.Ytnoccennhgnjnaa

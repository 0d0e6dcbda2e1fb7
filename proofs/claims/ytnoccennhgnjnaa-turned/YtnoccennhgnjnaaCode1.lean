import Derived.Test.YtnoccennhgnjnaaRows
import Derived.Test.YtnoccennhgnjnaaMath
import Derived.WalkKit
import Derived.WalkSpells
import Derived.WalkLawsBesides
namespace Go.Proofs.Ytnoccennhgnjnaa
open Go.RowKit

namespace Near
theorem and_exp (x : Nat) : x &&& 2139095040 = x / 8388608 % 256 * 8388608 := by
  have e : 2139095040 = (2 ^ 8 - 1) <<< 23 := by decide
  have f : x / 8388608 % 256 * 8388608 = (x / 2 ^ 23 % 2 ^ 8) <<< 23 := by rw [Nat.shiftLeft_eq]
  rw [e, f]
  apply Nat.eq_of_testBit_eq
  intro i
  rw [Nat.testBit_and, Nat.testBit_shiftLeft, Nat.testBit_shiftLeft, Nat.testBit_mod_two_pow, Nat.testBit_div_two_pow, Nat.testBit_two_pow_sub_one]
  by_cases h : 23 ≤ i
  · simp [h, Bool.and_comm]
  · simp [h]

theorem finite_bits (x : Nat) (hx : x < 4294967296) : (bits BinOp.and IntKind.u32 (x : Int) 2139095040 != 2139095040) = finB x := by
  have h := u32_and_nat x 2139095040 hx (by omega)
  rw [show ((2139095040 : Nat) : Int) = 2139095040 from rfl] at h
  rw [h, and_exp]
  unfold finB
  rw [Bool.eq_iff_iff, bne_iff_ne, decide_eq_true_eq]
  omega
end Near

theorem Try.f32bits (x : Nat) (w : World) : (callFunc 26 #[.float .f32 x]).run Try.prog w = .ok (.value (.int .u32 x)) w := by kernel_rfl
theorem Try.f32from (x : Int) (w : World) : (callFunc 36 #[.int .u32 x]).run Try.prog w = .ok (.value (.float .f32 x.toNat)) w := by kernel_rfl

set_option maxHeartbeats 400000 in
theorem finite_any (x : Nat) (hx : x < 4294967296) (w : World) :
    Calls Try.prog 32 #[.int .u32 x] w fun e w' => e = .returned (.bool (Near.finB x)) ∧ w' = w := by
  go_enter Try.func32, Try.ntmps32
  go_wp2
  go_ret
  exact ⟨congrArg (fun b => Ending.returned (.bool b)) (Near.finite_bits x hx), rfl⟩

set_option maxHeartbeats 400000 in
theorem rounded_fin (p : Nat) (x : Nat) (hx : x < 4294967296) (hf : Near.finB x = true) (w : World) :
    Calls Try.prog 43 #[.pointer (some ⟨p, 0, none⟩), .float .f32 x] w fun e w' => e = .returned (.float .f32 x) ∧ w' = w := by
  have hb := Try.f32bits x
  go_enter Try.func43, Try.ntmps43
  go_wp2_with (go_at_call 32; refine (finite_any _ hx _).mono ?_; rintro e w' ⟨rfl, rfl⟩)
  go_ret
  exact ⟨rfl, rfl⟩

set_option maxHeartbeats 400000 in
theorem rounded_inf (p : Nat) (x : Nat) (o : Bool) (hx : x < 4294967296) (hf : Near.finB x = false) (w : World) (hc : w.heap[p]? = some (.cells #[.bool o] 46 (0, 0))) :
    Calls Try.prog 43 #[.pointer (some ⟨p, 0, none⟩), .float .f32 x] w fun e w' => e = .returned (.float .f32 x) ∧ w' = w.setCell ⟨p, 0, none⟩ (.bool true) := by
  have hb := Try.f32bits x
  have h1 : w.cell? ⟨p, 0, none⟩ = some (.bool o) := cell_of_one hc
  have h2 : w.frozen? ⟨p, 0, none⟩ = false := free_of_one hc
  clear hc
  go_enter Try.func43, Try.ntmps43
  go_wp2_with (go_at_call 32; refine (finite_any _ hx _).mono ?_; rintro e w' ⟨rfl, rfl⟩)
  go_ret
  exact ⟨rfl, rfl⟩

end Go.Proofs.Ytnoccennhgnjnaa

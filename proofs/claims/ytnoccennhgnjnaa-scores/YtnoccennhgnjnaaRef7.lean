import Derived.Test.YtnoccennhgnjnaaRef6
import Derived.Deep.RegionHeld
namespace Go.Proofs.Ytnoccennhgnjnaa
open Go.RowKit

set_option maxHeartbeats 400000 in
theorem difference_ref (w : World) (x y : Nat) (hx : x < 4294967296) (hy : y < 4294967296) (fx : Near.finB x = true) (fy : Near.finB y = true) :
    Calls Try.prog 39 #[.int .u32 x, .int .u32 y] w fun e w' => e = .returned (stepAns (Near.fsub x y)) ∧ Below w.heap.size w w' := by
  rw [Near.fsub_eq fy]
  have hs := sum_ref w x (Near.flip y) hx (by unfold Near.flip; split <;> omega) fx (Near.flip_fin fy)
  rw [stepAns_eq] at hs ⊢
  have HS := hide hs
  clear hs
  go_enter Try.func39, Try.ntmps39
  go_wp2_with fail
  refine (turned_bits _ y hy).mono ?_
  rintro e w' ⟨rfl, rfl⟩
  go_wp2_with fail
  refine (unhide HS).mono ?_
  rintro e w1 ⟨rfl, b1⟩
  go_wp2
  go_ret2
  exact ⟨rfl, b1⟩

theorem shifted_int (w : World) (v k : Int) (hv0 : 0 ≤ v) (hv : v < 1152921504606846976) (hk0 : 0 ≤ k) (hk : k ≤ 600) :
    Calls Try.prog 47 #[.int .i64 v, .int .i64 k] w fun e w' => ∃ r, e = .returned r ∧ Ds w' r (v.toNat * 2 ^ k.toNat) ∧ Below w.heap.size w w' := by
  obtain ⟨a, rfl⟩ := Int.eq_ofNat_of_zero_le hv0
  obtain ⟨b, rfl⟩ := Int.eq_ofNat_of_zero_le hk0
  exact shifted_any w a b (by omega) (by omega)

theorem rounded_298 (w : World) (v : Value) (a : Nat) (neg : Bool) (hd : Ds w v a) (hn : Near.nd a ≤ 100) :
    Calls Try.prog 46 #[v, .int .i64 298, .bool neg] w fun e w' => e = .returned (.tuple #[.int .u32 (ansN (Near.keep (some (Near.nearW neg a 298)))), .bool (ansB (Near.keep (some (Near.nearW neg a 298))))]) ∧ w' = w := by
  have h := rounded_ref w v a 149 298 neg hd hn rfl (by decide)
  rw [stepAns_eq] at h
  exact h

theorem mul_lt2 {a b j k : Nat} (h1 : a < 2 ^ j) (h2 : b < 2 ^ k) : a * b < 2 ^ (j + k) := by rw [Nat.pow_add]; exact Nat.mul_lt_mul'' h1 h2
theorem prod_nd {x y : Nat} (hx : Near.finB x = true) (hy : Near.finB y = true) : Near.nd (Near.units x * Near.units y) ≤ 100 := by
  obtain ⟨k, hk⟩ : ∃ k, k = 277 := ⟨_, rfl⟩
  exact Nat.le_trans (Near.nd_small (k := k + k) (q := 24) (mul_lt2 (units_lt hx (by omega)) (units_lt hy (by omega))) (by omega)) (by decide)
theorem units_mul (x y : Nat) : Near.magOf x * Near.magOf y * 2 ^ (Near.exOf x + Near.exOf y) = Near.units x * Near.units y := by
  unfold Near.units; rw [Nat.pow_add]; ac_rfl
theorem fmul_eq {x y : Nat} (hx : Near.finB x = true) (hy : Near.finB y = true) : Near.fmul x y = Near.keep (some (Near.nearW (Near.negOf x != Near.negOf y) (Near.units x * Near.units y) 298)) := by
  unfold Near.fmul
  rw [Near.mul_fin hx hy]

theorem iwrap (x : Int) (h : -9223372036854775808 ≤ x ∧ x ≤ 9223372036854775807) : IntKind.i64.wrap x = x := by
  rw [IntKind.wrap_i64]; omega

set_option maxHeartbeats 1600000 in
theorem product_ref (w : World) (x y : Nat) (hx : x < 4294967296) (hy : y < 4294967296) (fx : Near.finB x = true) (fy : Near.finB y = true) :
    Calls Try.prog 40 #[.int .u32 x, .int .u32 y] w fun e w' => e = .returned (stepAns (Near.fmul x y)) ∧ Below w.heap.size w w' := by
  have mx := mag_lt x
  have my := mag_lt y
  have ex := ex_le fx
  have ey := ex_le fy
  have hmul0 : (0 : Int) ≤ (Near.magOf x : Int) * (Near.magOf y : Int) := by rw [← Int.natCast_mul]; omega
  have hmul1 : (Near.magOf x : Int) * (Near.magOf y : Int) < 1152921504606846976 := by
    have := Nat.mul_lt_mul'' mx my
    rw [← Int.natCast_mul]; omega
  have HF := hide (fmul_eq fx fy)
  have hnd := prod_nd fx fy
  have HT : Hid (((Near.magOf x : Int) * (Near.magOf y : Int)).toNat * 2 ^ ((Near.exOf x : Int) + (Near.exOf y : Int)).toNat = Near.units x * Near.units y) := by
    rw [Hid, ← units_mul, ← Int.natCast_mul, Int.toNat_natCast]; congr 2
  have SC : Hid (∀ W : World, Calls Try.prog 47 #[.int .i64 (IntKind.i64.wrap ((Near.magOf x : Int) * (Near.magOf y : Int))), .int .i64 (IntKind.i64.wrap ((Near.exOf x : Int) + (Near.exOf y : Int)))] W fun e w' => ∃ r, e = .returned r ∧ Ds w' r (Near.units x * Near.units y) ∧ Below W.heap.size W w') := by
    intro W
    rw [iwrap _ (by omega), iwrap _ (by omega)]
    have := shifted_int W _ _ hmul0 hmul1 (show (0 : Int) ≤ (Near.exOf x : Int) + (Near.exOf y : Int) by omega) (by omega)
    rw [unhide HT] at this
    exact this
  clear hmul0 hmul1 HT
  go_enter Try.func40, Try.ntmps40
  go_wp2_with fail
  refine (read_any _ x hx).mono ?_
  rintro e w1 ⟨rfl, b1⟩
  go_wp2_with fail
  refine (read_any _ y hy).mono ?_
  rintro e w2 ⟨rfl, b2⟩
  have nA : NumAt w2 w1.heap.size x := (NumAt.new w1 x).below b2 (by simp)
  have b2' : Below w.heap.size w w2 := (b1.alloc (b1.size) _).trans (b2.mono (by have := b1.size; simp; omega))
  have lA := nA.lt
  have nA3 : NumAt (w2.alloc (.cells #[.bool (Near.negOf y), .int .i64 (Near.magOf y), .int .i64 (Near.exOf y)] 62)) w1.heap.size x := by unfold NumAt; rw [Below.heap_alloc _ _ _ lA]; exact nA
  have nB3 := NumAt.new w2 y
  have b3 : Below w.heap.size w (w2.alloc (.cells #[.bool (Near.negOf y), .int .i64 (Near.magOf y), .int .i64 (Near.exOf y)] 62)) := b2'.alloc b2'.size _
  clear b1 b2 nA b2'
  go_wp2_with fail
  generalize w2.alloc (.cells #[.bool (Near.negOf y), .int .i64 (Near.magOf y), .int .i64 (Near.exOf y)] 62) = w3 at *
  generalize w1.heap.size = pA at *
  generalize w2.heap.size = pB at *
  obtain ⟨a0, a1, a2⟩ := nA3.cells
  obtain ⟨c0, c1, c2⟩ := nB3.cells
  go_region_held (fun w' => w'.cell? ⟨pA, 0, none⟩ = some (.bool (Near.negOf x)) ∧ w'.cell? ⟨pA, 1, none⟩ = some (.int .i64 (Near.magOf x)) ∧ w'.cell? ⟨pA, 2, none⟩ = some (.int .i64 (Near.exOf x)) ∧ w'.cell? ⟨pB, 0, none⟩ = some (.bool (Near.negOf y)) ∧ w'.cell? ⟨pB, 1, none⟩ = some (.int .i64 (Near.magOf y)) ∧ w'.cell? ⟨pB, 2, none⟩ = some (.int .i64 (Near.exOf y))) (go_keep)
    (first | (go_at_call 47; refine (unhide SC w3.drew).mono ?_; rintro e w4 ⟨r, rfl, dr, b4⟩; have eA := (nA3.below (w := w3.drew) b4 nA3.lt).cells; have eB := (nB3.below (w := w3.drew) b4 nB3.lt).cells) | (go_at_call 46; refine (rounded_298 w4 r (Near.units x * Near.units y) (Near.negOf x != Near.negOf y) dr hnd).mono ?_; rintro e w6 ⟨rfl, rfl⟩))
  all_goals
    go_wp2
    go_ret2
    exact ⟨by rw [unhide HF, stepAns_eq]; rfl, b3.drew.trans (b4.mono b3.size)⟩

end Go.Proofs.Ytnoccennhgnjnaa

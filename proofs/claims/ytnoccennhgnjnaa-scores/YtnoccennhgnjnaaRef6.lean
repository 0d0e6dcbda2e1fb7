import Derived.Test.YtnoccennhgnjnaaRef5
import Derived.Test.YtnoccennhgnjnaaSym
import Derived.Deep.RegionWith
namespace Go.Proofs.Ytnoccennhgnjnaa
open Go.RowKit


set_option maxHeartbeats 800000 in
theorem read_any (w : World) (b : Nat) (hb : b < 4294967296) :
    Calls Try.prog 45 #[.int .u32 b] w fun e w' => e = .returned (.agg #[.bool (Near.negOf b), .int .i64 (Near.magOf b), .int .i64 (Near.exOf b)]) ∧ Below w.heap.size w w' := by
  have hneg : decide ((2147483648 : Int) ≤ b) = Near.negOf b := by
    unfold Near.negOf; rw [Bool.eq_iff_iff, decide_eq_true_iff, beq_iff_eq]; omega
  by_cases he : b % 2147483648 < 8388608
  · have hz : ((((b : Int) % 2147483648) / 8388608) == 0) = true := by rw [beq_iff_eq]; omega
    have HM : Hid (((b : Int) % 8388608) = Near.magOf b) := by rw [Hid]; unfold Near.magOf; rw [if_pos he]; omega
    have HX : Hid ((0 : Int) = Near.exOf b) := by rw [Hid]; unfold Near.exOf; omega
    clear he
    go_enter Try.func45, Try.ntmps45
    go_wp2
    refine bodyPost_ret (v := .agg #[.bool (Near.negOf b), .int .i64 ((b : Int) % 8388608), .int .i64 (0)]) (by simp [results, Try.results45, go_sem]) rfl ⟨by rw [HM.out, HX.out], (Below.refl _ _).alloc (Nat.le_refl _) _⟩
  · have hz : ((((b : Int) % 2147483648) / 8388608) == 0) = false := by rw [beq_eq_false_iff_ne]; omega
    have HM : Hid (((b : Int) % 8388608) + 8388608 = Near.magOf b) := by rw [Hid]; unfold Near.magOf; rw [if_neg he]; omega
    have HX : Hid ((((b : Int) % 2147483648) / 8388608) - 1 = Near.exOf b) := by rw [Hid]; unfold Near.exOf; omega
    clear he
    go_enter Try.func45, Try.ntmps45
    go_wp2
    refine bodyPost_ret (v := .agg #[.bool (Near.negOf b), .int .i64 ((b : Int) % 8388608 + 8388608), .int .i64 ((b : Int) % 2147483648 / 8388608 - 1)]) (by simp [results, Try.results45, go_sem]) rfl ⟨by rw [HM.out, HX.out], (Below.refl _ _).alloc (Nat.le_refl _) _⟩

theorem mag_lt (x : Nat) : Near.magOf x < 16777216 := by unfold Near.magOf; split <;> omega
theorem ex_le {x : Nat} (h : Near.finB x = true) : Near.exOf x ≤ 253 := by
  simp only [Near.finB, decide_eq_true_eq] at h
  unfold Near.exOf; omega
theorem units_lt {x k : Nat} (h : Near.finB x = true) (hk : 277 ≤ k) : Near.units x < 2 ^ k := by
  unfold Near.units
  have h1 := mag_lt x
  have h2 := ex_le h
  refine Nat.lt_of_lt_of_le (Nat.mul_lt_mul_of_pos_right h1 (Nat.two_pow_pos _)) ?_
  rw [show (16777216 : Nat) = 2 ^ 24 from rfl, ← Nat.pow_add]
  exact Nat.pow_le_pow_right (by decide) (by omega)
theorem units_nd {x : Nat} (h : Near.finB x = true) : Near.nd (Near.units x) ≤ 12 := Near.nd_small (k := 24 * 12) (units_lt h (by decide)) (Nat.le_refl _)

theorem two_lt {a b k : Nat} (h1 : a < 2 ^ k) (h2 : b < 2 ^ k) : a + b < 2 ^ (k + 1) := by rw [Nat.pow_succ]; omega
theorem sum_nd {x y : Nat} (hx : Near.finB x = true) (hy : Near.finB y = true) : Near.nd (Near.units x + Near.units y) ≤ 100 := by
  obtain ⟨k, hk⟩ : ∃ k, k = 277 := ⟨_, rfl⟩
  exact Nat.le_trans (Near.nd_small (k := k + 1) (q := 12) (two_lt (units_lt hx (by omega)) (units_lt hy (by omega))) (by omega)) (by decide)
theorem diff_nd {x n : Nat} (hx : Near.finB x = true) : Near.nd (Near.units x - n) ≤ 100 :=
  Nat.le_trans (Near.nd_small (k := 24 * 12) (Nat.lt_of_le_of_lt (Nat.sub_le _ _) (units_lt hx (by decide))) (Nat.le_refl _)) (by decide)
section
open Near Ieee
theorem fadd_same {x y : Nat} (hx : finB x = true) (hy : finB y = true) (h : negOf x = negOf y) : fadd x y = keep (some (nearW (negOf x) (units x + units y) 149)) := by
  unfold fadd
  rw [add_fin hx hy]
  congr 2
  unfold sunits
  rw [← h]
  cases negOf x
  · simp only [Bool.false_eq_true, if_false, Bool.and_false]
    congr 1
    by_cases hz : (units x : Int) + units y = 0
    · rw [if_pos hz]
    · rw [if_neg hz, decide_eq_false (by omega)]
  · simp only [if_true, Bool.and_self]
    congr 1
    · by_cases hz : -(units x : Int) + -(units y : Int) = 0
      · rw [if_pos hz]
      · rw [if_neg hz, decide_eq_true (by omega)]
    · omega
theorem fadd_zero {x y : Nat} (hx : finB x = true) (hy : finB y = true) (h : negOf x ≠ negOf y) (e : units x = units y) : fadd x y = some 0 := by
  unfold fadd
  rw [add_fin hx hy]
  have hz : sunits x + sunits y = 0 := by
    unfold sunits
    rw [e]
    cases hn : negOf x <;> cases hm : negOf y <;> simp_all <;> omega
  have hn : (negOf x && negOf y) = false := by cases hn : negOf x <;> cases hm : negOf y <;> simp_all
  rw [hz, if_pos rfl, hn]
  decide +kernel
theorem fadd_gt {x y : Nat} (hx : finB x = true) (hy : finB y = true) (h : negOf x ≠ negOf y) (e : units y < units x) : fadd x y = keep (some (nearW (negOf x) (units x - units y) 149)) := by
  unfold fadd
  rw [add_fin hx hy]
  congr 2
  unfold sunits
  cases hn : negOf x <;> cases hm : negOf y
  · rw [hn, hm] at h; exact absurd rfl h
  · simp only [Bool.false_eq_true, if_false, if_true]
    rw [if_neg (by omega), decide_eq_false (by omega)]
    congr 1; omega
  · simp only [Bool.false_eq_true, if_false, if_true]
    rw [if_neg (by omega), decide_eq_true (by omega)]
    congr 1; omega
  · rw [hn, hm] at h; exact absurd rfl h
end

def ansN (m : Option Nat) : Nat := m.getD 0
def ansB (m : Option Nat) : Bool := m.isSome
theorem stepAns_eq (m : Option Nat) : stepAns m = .tuple #[.int .u32 (ansN m), .bool (ansB m)] := by cases m <;> rfl
theorem rounded_tup (w : World) (v : Value) (a : Nat) (neg : Bool) (hd : Ds w v a) (hn : Near.nd a ≤ 100) :
    Calls Try.prog 46 #[v, .int .i64 149, .bool neg] w fun e w' => e = .returned (.tuple #[.int .u32 (ansN (Near.keep (some (Near.nearW neg a 149)))), .bool (ansB (Near.keep (some (Near.nearW neg a 149))))]) ∧ w' = w := by
  have h := rounded_ref w v a 0 149 neg hd hn rfl (by decide)
  rw [stepAns_eq] at h
  exact h

/-- a number's parts in memory -/
def NumAt (w : World) (p x : Nat) : Prop := w.heap[p]? = some (.cells #[.bool (Near.negOf x), .int .i64 (Near.magOf x), .int .i64 (Near.exOf x)] 62 (0, 0))
theorem NumAt.cells {w : World} {p x : Nat} (h : NumAt w p x) : w.cell? ⟨p, 0, none⟩ = some (.bool (Near.negOf x)) ∧ w.cell? ⟨p, 1, none⟩ = some (.int .i64 (Near.magOf x)) ∧ w.cell? ⟨p, 2, none⟩ = some (.int .i64 (Near.exOf x)) := by
  unfold NumAt at h
  refine ⟨?_, ?_, ?_⟩ <;> simp [World.cell?, h]
theorem NumAt.below {w w' : World} {p x B : Nat} (h : NumAt w p x) (k : Below B w w') (hp : p < B) : NumAt w' p x := by unfold NumAt at *; rw [k.block p hp]; exact h
theorem NumAt.new (w : World) (x : Nat) : NumAt (w.alloc (.cells #[.bool (Near.negOf x), .int .i64 (Near.magOf x), .int .i64 (Near.exOf x)] 62)) w.heap.size x := heap_alloc_new _ _
theorem NumAt.lt {w : World} {p x : Nat} (h : NumAt w p x) : p < w.heap.size := lt_of_block h

/-- the two shifted numbers lie ready -/
def Ready (w0 w : World) (p q x y : Nat) (v u : Value) : Prop := Below w0.heap.size w0 w ∧ NumAt w p x ∧ NumAt w q y ∧ Ds w v (Near.units x) ∧ Ds w u (Near.units y)
theorem Ready.below {w0 w w' : World} {p q x y : Nat} {v u : Value} (h : Ready w0 w p q x y v u) (k : Below w.heap.size w w') : Ready w0 w' p q x y v u :=
  ⟨h.1.trans (k.mono h.1.size), h.2.1.below k h.2.1.lt, h.2.2.1.below k h.2.2.1.lt, h.2.2.2.1.below k, h.2.2.2.2.below k⟩

theorem Ready.drew {w0 w : World} {p q x y : Nat} {v u : Value} (h : Ready w0 w p q x y v u) : Ready w0 w.drew p q x y v u :=
  ⟨h.1.drew, h.2.1, h.2.2.1, h.2.2.2.1, h.2.2.2.2⟩

set_option maxHeartbeats 1600000 in
theorem sum_ref (w : World) (x y : Nat) (hx : x < 4294967296) (hy : y < 4294967296) (fx : Near.finB x = true) (fy : Near.finB y = true) :
    Calls Try.prog 41 #[.int .u32 x, .int .u32 y] w fun e w' => e = .returned (stepAns (Near.fadd x y)) ∧ Below w.heap.size w w' := by
  have mx := mag_lt x
  have my := mag_lt y
  have ex := ex_le fx
  have ey := ex_le fy
  go_enter Try.func41, Try.ntmps41
  go_wp2_with fail
  refine (read_any _ x hx).mono ?_
  rintro e w1 ⟨rfl, b1⟩
  go_wp2_with fail
  refine (read_any _ y hy).mono ?_
  rintro e w2 ⟨rfl, b2⟩
  have nA : NumAt w2 w1.heap.size x := (NumAt.new w1 x).below b2 (by simp)
  have b2' : Below w.heap.size w w2 := (b1.alloc (b1.size) _).trans (b2.mono (by have := b1.size; simp; omega))
  have lA := nA.lt
  obtain ⟨cA0, cA1, cA2⟩ := nA.cells
  clear b1 b2
  go_wp2_with fail
  refine (shifted_any _ (Near.magOf x) (Near.exOf x) (by omega) (by omega)).mono ?_
  rintro e w3 ⟨v, rfl, dv, b3⟩
  have nA3 : NumAt w3 w1.heap.size x := (show NumAt (w2.alloc _) w1.heap.size x from by unfold NumAt; rw [Below.heap_alloc _ _ _ lA]; exact nA).below b3 (by simp; omega)
  have nB3 : NumAt w3 w2.heap.size y := (NumAt.new w2 y).below b3 (by simp)
  have b3' : Below w.heap.size w w3 := (b2'.alloc b2'.size _).trans (b3.mono (by have := b2'.size; simp; omega))
  clear b3 cA0 cA1 cA2 b2'
  obtain ⟨cA0, cA1, cA2⟩ := nA3.cells
  obtain ⟨cB0, cB1, cB2⟩ := nB3.cells
  go_wp2_with fail
  refine (shifted_any _ (Near.magOf y) (Near.exOf y) (by omega) (by omega)).mono ?_
  rintro e w4 ⟨u, rfl, du, b4⟩
  have R : Ready w w4 w1.heap.size w2.heap.size x y v u := ⟨b3'.trans (b4.mono b3'.size), nA3.below b4 nA3.lt, nB3.below b4 nB3.lt, dv.below b4, du⟩
  clear b4 b3' nA3 nB3 cA0 cA1 cA2 cB0 cB1 cB2 nA dv du
  obtain ⟨cA0, cA1, cA2⟩ := R.2.1.cells
  obtain ⟨cB0, cB1, cB2⟩ := R.2.2.1.cells
  generalize w1.heap.size = pA at *
  generalize w2.heap.size = pB at *
  clear cA1 cA2 cB1 cB2
  by_cases hs : Near.negOf x = Near.negOf y
  · have HF := hide (fadd_same fx fy hs)
    have hsb : (Near.negOf x == Near.negOf y) = true := by simp [hs]
    clear hs
    have hnd : Near.nd (Near.units x + Near.units y) ≤ 100 := sum_nd fx fy
    have Rd := R.drew
    go_wp2_with fail
    go_region_with (first | (go_at_call 48; refine (add_any w4.drew v u (Near.units x) (Near.units y) 12 Rd.2.2.2.1 Rd.2.2.2.2 (units_nd fx) (units_nd fy) (by decide)).mono ?_; rintro e w5 ⟨r, rfl, dr, b5⟩; have cC := (Rd.2.1.below b5 Rd.2.1.lt).cells.1) | (go_at_call 46; refine (rounded_tup w5 r (Near.units x + Near.units y) (Near.negOf x) dr hnd).mono ?_; rintro e w6 ⟨rfl, rfl⟩))
    all_goals
      go_wp2
      go_ret2
      exact ⟨by rw [unhide HF, stepAns_eq]; rfl, Rd.1.trans (b5.mono Rd.1.size)⟩
  · have hsb : (Near.negOf x == Near.negOf y) = false := by simp [hs]
    have Hs := hide hs
    clear hs
    go_wp2_with fail
    refine (compare_any w4 v u (Near.units x) (Near.units y) R.2.2.2.1 R.2.2.2.2 (Nat.le_trans (units_nd fx) (by decide)) (Nat.le_trans (units_nd fy) (by decide))).mono ?_
    rintro e w5 ⟨rfl, b5⟩
    have R5 := R.below b5
    have Rd := R5.drew
    obtain ⟨dA0, _, _⟩ := R5.2.1.cells
    obtain ⟨dB0, _, _⟩ := R5.2.2.1.cells
    clear R cA0 cB0 b5
    rcases Nat.lt_trichotomy (Near.units x) (Near.units y) with hlt | heq | hgt
    · rw [cmpI_lt hlt]
      have HF : Hid (Near.fadd x y = Near.keep (some (Near.nearW (Near.negOf y) (Near.units y - Near.units x) 149))) := by
        rw [Hid, Near.fadd_comm fx fy]; exact fadd_gt fy fx (fun e => unhide Hs e.symm) hlt
      have hnd : Near.nd (Near.units y - Near.units x) ≤ 100 := diff_nd fy
      have Hl := hide (Nat.le_of_lt hlt)
      clear hlt
      go_wp2_with fail
      go_region_with (first | (go_at_call 50; refine (without_any w5.drew u v (Near.units y) (Near.units x) Rd.2.2.2.2 Rd.2.2.2.1 (Nat.le_trans (units_nd fy) (by decide)) (unhide Hl)).mono ?_; rintro e w6 ⟨r, rfl, dr, b6⟩; have cC := (Rd.2.2.1.below b6 Rd.2.2.1.lt).cells.1) | (go_at_call 46; refine (rounded_tup w6 r (Near.units y - Near.units x) (Near.negOf y) dr hnd).mono ?_; rintro e w7 ⟨rfl, rfl⟩))
      all_goals
        go_wp2
        go_ret2
        exact ⟨by rw [unhide HF, stepAns_eq]; rfl, Rd.1.trans (b6.mono Rd.1.size)⟩
    · rw [cmpI_eq heq]
      have HF := hide (fadd_zero fx fy (unhide Hs) heq)
      clear heq
      go_wp2
      go_ret2
      exact ⟨by rw [unhide HF]; rfl, R5.1⟩
    · rw [cmpI_gt hgt]
      have HF := hide (fadd_gt fx fy (unhide Hs) hgt)
      have hnd : Near.nd (Near.units x - Near.units y) ≤ 100 := diff_nd fx
      have Hl := hide (Nat.le_of_lt hgt)
      clear hgt
      go_wp2_with fail
      go_region_with (first | (go_at_call 50; refine (without_any w5.drew v u (Near.units x) (Near.units y) Rd.2.2.2.1 Rd.2.2.2.2 (Nat.le_trans (units_nd fx) (by decide)) (unhide Hl)).mono ?_; rintro e w6 ⟨r, rfl, dr, b6⟩; have cC := (Rd.2.1.below b6 Rd.2.1.lt).cells.1) | (go_at_call 46; refine (rounded_tup w6 r (Near.units x - Near.units y) (Near.negOf x) dr hnd).mono ?_; rintro e w7 ⟨rfl, rfl⟩))
      all_goals
        go_wp2
        go_ret2
        exact ⟨by rw [unhide HF, stepAns_eq]; rfl, Rd.1.trans (b6.mono Rd.1.size)⟩

end Go.Proofs.Ytnoccennhgnjnaa

import Derived.Test.YtnoccennhgnjnaaRef10
namespace Go.Proofs.Ytnoccennhgnjnaa
open Go.RowKit

theorem termsM_len {sq : Bool} : ∀ {a b l : List Nat}, Near.termsM sq a b = some l → b.length = a.length → l.length = a.length
  | [], _, _, h, _ => by simp [Near.termsM] at h; rw [← h]
  | _ :: _, [], _, _, h => by simp at h
  | x :: a, y :: b, l, h, hb => by
    rw [Near.termsM] at h
    obtain ⟨t, _, h⟩ := Option.bind_eq_some_iff.1 h
    obtain ⟨l', h3, h⟩ := Option.bind_eq_some_iff.1 h
    cases h
    have := termsM_len h3 (by simpa using hb)
    simp [this]

set_option maxHeartbeats 1600000 in
theorem score_ref (w : World) (measure : Int) (way : Nat) (va vb : Value) (a b : List Nat) (hway : way = 1 ∨ way = 2 ∨ way = 3) (hua : Us w va a) (hub : Us w vb b) (hl : 0 < a.length) (hn : a.length ≤ 8) (hab : b.length = a.length) (ga : Good false a) (gb : Good false b) :
    Calls Try.prog 20 #[.int .i64 measure, .int .i64 way, va, vb] w fun e w' => e = .returned (stepAns (scoreS (measure == 2) way a b)) ∧ Below w.heap.size w w' := by
  have CT := terms_ref w measure va vb a b hua hub hl hn hab ga gb
  cases ht : Near.termsM (measure == 2) a b with
  | none =>
    rw [ht] at CT
    have HC : Hid (Calls Try.prog 28 #[.int .i64 measure, va, vb] w fun e w' => e = .returned (.tuple #[.slice none 0 0, .bool false]) ∧ Below w.heap.size w w') := by
      refine CT.mono ?_
      rintro e w' ⟨h | h, hb⟩
      · obtain ⟨l, v, h, _⟩ := h; cases h
      · exact ⟨h.2, hb⟩
    have HR : Hid (scoreS (measure == 2) way a b = none) := by rw [Hid]; unfold scoreS; rw [ht]; rfl
    clear CT ht hab
    go_enter Try.func20, Try.ntmps20
    go_wp2_with fail
    refine (unhide HC).mono ?_
    rintro e w1 ⟨rfl, b1⟩
    go_wp2
    go_ret2
    exact ⟨by rw [unhide HR]; rfl, b1⟩
  | some l =>
    rw [ht] at CT
    have hll : l.length = a.length := termsM_len ht hab
    have HC : Hid (Calls Try.prog 28 #[.int .i64 measure, va, vb] w fun e w' => (∃ v, e = .returned (.tuple #[v, .bool true]) ∧ Us w' v l ∧ (∀ ad cap, v = .slice ad l.length cap → l.length ≤ cap) ∧ Good false l) ∧ Below w.heap.size w w') := by
      refine CT.mono ?_
      rintro e w' ⟨h | h, hb⟩
      · obtain ⟨l', v, h, he, hu, hc, hg⟩ := h; cases h
        exact ⟨⟨v, he, hu, hc, hg⟩, hb⟩
      · cases h.1
    have HR : Hid (scoreS (measure == 2) way a b = Near.sumM way l) := by rw [Hid]; unfold scoreS; rw [ht]; rfl
    have hl0 : 0 < l.length := by omega
    have hl8 : l.length ≤ 8 := by omega
    have en : nth l 0 = l.headD 0 := by cases l <;> rfl
    have HE := hide en
    clear CT ht hab hll en
    rcases hway with rfl | rfl | rfl
    · have HR2 : Hid (scoreS (measure == 2) 1 a b = Near.plainM (nth l 0) l.tail) := by rw [Hid, unhide HR, unhide HE]; rfl
      go_enter Try.func20, Try.ntmps20
      go_wp2_with fail
      refine (unhide HC).mono ?_
      rintro e w1 ⟨⟨v, rfl, hu, hcap, hg⟩, b1⟩
      have C := plain_ref w1 v l hu hl0 hl8 hg
      rw [stepAns_eq] at C
      have HC2 := hide C
      have Hcap := hide hcap
      clear C hcap
      go_wp2_with fail
      refine (unhide HC2).mono ?_
      rintro e w2 ⟨rfl, b2⟩
      go_wp2
      go_ret2
      exact ⟨by rw [unhide HR2, stepAns_eq]; rfl, b1.trans (b2.mono b1.size)⟩
    · have HR2 : Hid (scoreS (measure == 2) 2 a b = Near.pairsM l.length l) := by rw [Hid, unhide HR]; rfl
      go_enter Try.func20, Try.ntmps20
      go_wp2_with fail
      refine (unhide HC).mono ?_
      rintro e w1 ⟨⟨v, rfl, hu, hcap, hg⟩, b1⟩
      have C := pairs_ref l.length w1 v l (Nat.le_refl _) hu hcap hl0 hl8 hg
      rw [stepAns_eq] at C
      have HC2 := hide C
      have Hcap := hide hcap
      clear C hcap
      go_wp2_with fail
      refine (unhide HC2).mono ?_
      rintro e w2 ⟨rfl, b2⟩
      go_wp2
      go_ret2
      exact ⟨by rw [unhide HR2, stepAns_eq]; rfl, b1.trans (b2.mono b1.size)⟩
    · have HR2 : Hid (scoreS (measure == 2) 3 a b = Near.kahanM (nth l 0) 0 l.tail) := by rw [Hid, unhide HR, unhide HE]; rfl
      go_enter Try.func20, Try.ntmps20
      go_wp2_with fail
      refine (unhide HC).mono ?_
      rintro e w1 ⟨⟨v, rfl, hu, hcap, hg⟩, b1⟩
      have C := kahan_ref w1 v l hu hl0 hl8 hg
      rw [stepAns_eq] at C
      have HC2 := hide C
      have Hcap := hide hcap
      clear C hcap
      go_wp2_with fail
      refine (unhide HC2).mono ?_
      rintro e w2 ⟨rfl, b2⟩
      go_wp2
      go_ret2
      exact ⟨by rw [unhide HR2, stepAns_eq]; rfl, b1.trans (b2.mono b1.size)⟩

set_option maxHeartbeats 400000 in
theorem finite_ref (x : Nat) (w : World) :
    Calls Try.prog 27 #[.int .u32 x] w fun e w' => e = .returned (.bool (Near.finB x)) ∧ w' = w := by
  go_enter Try.func27, Try.ntmps27
  go_wp2
  go_ret
  refine ⟨ret_bool ?_, rfl⟩
  unfold Near.finB
  rw [Bool.eq_iff_iff, decide_eq_true_iff, decide_eq_true_iff]
  omega

set_option maxHeartbeats 400000 in
theorem allFinite_ref (w : World) (v : Value) (l : List Nat) (hu : Us w v l) (hn : l.length ≤ 9223372036854775807) :
    Calls Try.prog 19 #[v] w fun e w' => e = .returned (.bool (allFin l)) ∧ w' = w := by
  obtain ⟨ad, cap, rfl, hu⟩ := hu
  by_cases hl : 0 < l.length
  · obtain ⟨g, off, rfl, hul⟩ := hu hl
    clear hu
    go_enter Try.func19, Try.ntmps19
    go_wp2
    go_loop [3] (fun i => ∃ k : Nat, k ≤ l.length ∧ i = .int .i64 k ∧ Hid (∀ j, j < k → Near.finB (nth l j) = true)) (fun i => l.length - (intOf i).toNat)
    case atStart => exact ⟨0, by omega, rfl, fun j hj => absurd hj (by omega)⟩
    case round =>
      obtain ⟨k, hk, rfl, hall⟩ := hrel
      by_cases hlt : k < l.length
      · have hcell := hul k hlt
        cases hf : Near.finB (nth l k) with
        | true =>
          go_wp2_with (go_at_call 27; refine (finite_ref _ _).mono ?_; rintro e w' ⟨rfl, rfl⟩)
          go_round
          case rel => exact ⟨k + 1, by omega, by go_num, fun j hj => by
            by_cases h : j < k
            · exact hall.out j h
            · have : j = k := by omega
              subst this; exact hf⟩
          case measure => simp [intOf]; omega
        | false =>
          go_wp2_with (go_at_call 27; refine (finite_ref _ _).mono ?_; rintro e w' ⟨rfl, rfl⟩)
          go_ret
          exact ⟨by rw [allFin_false hlt hf]; rfl, rfl⟩
      · have hy : allFin l = true := (allFin_iff l).2 fun j hj => hall.out j (by omega)
        have HY := hide hy
        clear hy
        go_wp2
        go_ret
        exact ⟨by rw [unhide HY]; rfl, rfl⟩
  · have hz : l = [] := List.length_eq_zero_iff.1 (by omega)
    subst hz
    clear hu
    go_enter Try.func19, Try.ntmps19
    go_wp2
    refine wp_loop_rounds 1 ?_
    rw [rounds_succ]
    go_wp2
    go_ret
    exact ⟨rfl, rfl⟩

theorem kindB_iff (m : Int) : kindB m = (decide (1 ≤ m) && decide (m ≤ 3)) := by
  unfold kindB
  rw [Bool.eq_iff_iff]
  simp only [Bool.or_eq_true, beq_iff_eq, Bool.and_eq_true, decide_eq_true_iff]
  omega

set_option maxHeartbeats 400000 in
theorem kinds_ref (m k : Int) (w : World) : Calls Try.prog 18 #[.int .i64 m, .int .i64 k] w fun e w' => e = .returned (.bool (kindB m && kindB k)) ∧ w' = w := by
  rw [kindB_iff, kindB_iff]
  cases h1 : decide (1 ≤ m) with
  | false =>
    go_enter Try.func18, Try.ntmps18
    go_wp2
    go_ret
    exact ⟨rfl, rfl⟩
  | true =>
    cases h2 : decide (m ≤ 3) with
    | false =>
      go_enter Try.func18, Try.ntmps18
      go_wp2
      go_ret
      exact ⟨rfl, rfl⟩
    | true =>
      cases h3 : decide (1 ≤ k) with
      | false =>
        go_enter Try.func18, Try.ntmps18
        go_wp2
        go_ret
        exact ⟨rfl, rfl⟩
      | true =>
        cases h4 : decide (k ≤ 3) with
        | false =>
          go_enter Try.func18, Try.ntmps18
          go_wp2
          go_ret
          exact ⟨rfl, rfl⟩
        | true =>
          go_enter Try.func18, Try.ntmps18
          go_wp2
          go_ret
          exact ⟨rfl, rfl⟩

end Go.Proofs.Ytnoccennhgnjnaa

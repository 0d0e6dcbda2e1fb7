import Derived.Test.YtnoccennhgnjnaaRef11
namespace Go.Proofs.Ytnoccennhgnjnaa
open Go.RowKit

theorem vec_dim {a b : List Nat} (h : a.length < 1 ∨ 8 < a.length ∨ b.length ≠ a.length) : vecErr a [b] = 4 := by
  unfold vecErr
  by_cases h1 : a.length < 1 ∨ 8 < a.length
  · rw [if_pos h1]
  · rw [if_neg h1, if_neg]
    simp
    omega
theorem vec_num {a b : List Nat} (h1 : ¬ a.length < 1) (h2 : ¬ 8 < a.length) (h3 : b.length = a.length) : vecErr a [b] = if allFin a && allFin b then 0 else 5 := by
  unfold vecErr
  rw [if_neg (by omega), if_pos (by simpa using h3)]
  simp
theorem ans_kind {m k : Int} {a b : List Nat} (h : (kindB m && kindB k) = false) : scoreAns m k a b = .tuple #[.int .u32 0, .bool false, .int .i64 3] := by
  unfold scoreAns
  rw [if_pos]
  cases h1 : kindB m <;> cases h2 : kindB k <;> simp_all
theorem ans_err {m k : Int} {a b : List Nat} {e : Int} (h : (kindB m && kindB k) = true) (hv : vecErr a [b] = e) (he : e ≠ 0) : scoreAns m k a b = .tuple #[.int .u32 0, .bool false, .int .i64 e] := by
  unfold scoreAns
  have h1 : kindB m = true := by cases h1 : kindB m <;> simp_all
  have h2 : kindB k = true := by cases h2 : kindB k <;> simp_all
  rw [h1, h2, hv]
  simp [he]
theorem ans_ok {m k : Int} {a b : List Nat} (h : (kindB m && kindB k) = true) (hv : vecErr a [b] = 0) : scoreAns m k a b = ansOf (scoreS (m == 2) k.toNat a b) := by
  unfold scoreAns
  have h1 : kindB m = true := by cases h1 : kindB m <;> simp_all
  have h2 : kindB k = true := by cases h2 : kindB k <;> simp_all
  rw [h1, h2, hv]
  rfl

set_option maxHeartbeats 3200000 in
theorem Score_ref (w : World) (measure way : Int) (va vb : Value) (a b : List Nat) (hua : Us w va a) (hub : Us w vb b) (ha : Wd a) (hb : Wd b) (na : a.length ≤ 9223372036854775807) (nb : b.length ≤ 9223372036854775807) :
    Calls Try.prog 8 #[.int .i64 measure, .int .i64 way, va, vb] w fun e w' => e = .returned (scoreAns measure way a b) ∧ Below w.heap.size w w' := by
  have hua0 := hide hua
  have hub0 := hide hub
  obtain ⟨ada, capa, rfl, _⟩ := hua
  obtain ⟨adb, capb, rfl, _⟩ := hub
  cases hk : (kindB measure && kindB way) with
  | false =>
    have HR := hide (ans_kind (a := a) (b := b) hk)
    have KC := kinds_ref measure way w
    rw [hk] at KC
    have HK := hide KC
    clear KC hk
    go_enter Try.func8, Try.ntmps8
    go_wp2_with fail
    refine (unhide HK).mono ?_
    rintro e w1 ⟨rfl, rfl⟩
    go_wp2_with fail
    refine (allFinite_ref _ _ a (unhide hua0) na).mono ?_
    rintro e w2 ⟨rfl, rfl⟩
    go_wp2_with fail
    refine (allFinite_ref _ _ b (unhide hub0) nb).mono ?_
    rintro e w2 ⟨rfl, rfl⟩
    go_wp2
    go_ret3
    exact ⟨by rw [unhide HR]; rfl, Below.refl _ _⟩
  | true =>
    have KC := kinds_ref measure way w
    rw [hk] at KC
    have HK := hide KC
    have Hk := hide hk
    clear KC hk
    by_cases h1 : a.length < 1
    · have HR := hide (ans_err (unhide Hk) (vec_dim (b := b) (Or.inl h1)) (by decide))
      have hb1 : decide ((a.length : Int) < 1) = true := by simp; omega
      clear h1
      go_enter Try.func8, Try.ntmps8
      go_wp2_with fail
      refine (unhide HK).mono ?_
      rintro e w1 ⟨rfl, rfl⟩
      go_wp2_with fail
      refine (allFinite_ref _ _ a (unhide hua0) na).mono ?_
      rintro e w2 ⟨rfl, rfl⟩
      go_wp2_with fail
      refine (allFinite_ref _ _ b (unhide hub0) nb).mono ?_
      rintro e w2 ⟨rfl, rfl⟩
      go_wp2
      go_ret3
      exact ⟨by rw [unhide HR]; rfl, Below.refl _ _⟩
    · by_cases h2 : 8 < a.length
      · have HR := hide (ans_err (unhide Hk) (vec_dim (b := b) (Or.inr (Or.inl h2))) (by decide))
        go_enter Try.func8, Try.ntmps8
        go_wp2_with fail
        refine (unhide HK).mono ?_
        rintro e w1 ⟨rfl, rfl⟩
        go_wp2_with fail
        refine (allFinite_ref _ _ a (unhide hua0) na).mono ?_
        rintro e w2 ⟨rfl, rfl⟩
        go_wp2_with fail
        refine (allFinite_ref _ _ b (unhide hub0) nb).mono ?_
        rintro e w2 ⟨rfl, rfl⟩
        go_wp2
        go_ret3
        exact ⟨by rw [unhide HR]; rfl, Below.refl _ _⟩
      · by_cases h3 : b.length = a.length
        · have hb3 : ((b.length : Int) != (a.length : Int)) = false := by simp [h3]
          have hvn := vec_num h1 h2 h3
          have H3 := hide h3
          clear h3
          cases h4 : allFin a with
          | false =>
            rw [h4, Bool.false_and] at hvn
            have HR := hide (ans_err (unhide Hk) hvn (by decide))
            clear hvn
            go_enter Try.func8, Try.ntmps8
            go_wp2_with fail
            refine (unhide HK).mono ?_
            rintro e w1 ⟨rfl, rfl⟩
            go_wp2_with fail
            refine (allFinite_ref _ _ a (unhide hua0) na).mono ?_
            rintro e w2 ⟨rfl, rfl⟩
            go_wp2_with fail
            refine (allFinite_ref _ _ b (unhide hub0) nb).mono ?_
            rintro e w2 ⟨rfl, rfl⟩
            go_wp2
            go_ret3
            exact ⟨by rw [unhide HR]; rfl, Below.refl _ _⟩
          | true =>
            cases h5 : allFin b with
            | false =>
              rw [h4, h5] at hvn
              have HR := hide (ans_err (unhide Hk) hvn (by decide))
              clear hvn
              go_enter Try.func8, Try.ntmps8
              go_wp2_with fail
              refine (unhide HK).mono ?_
              rintro e w1 ⟨rfl, rfl⟩
              go_wp2_with fail
              refine (allFinite_ref _ _ a (unhide hua0) na).mono ?_
              rintro e w2 ⟨rfl, rfl⟩
              go_wp2_with fail
              refine (allFinite_ref _ _ b (unhide hub0) nb).mono ?_
              rintro e w2 ⟨rfl, rfl⟩
              go_wp2
              go_ret3
              exact ⟨by rw [unhide HR]; rfl, Below.refl _ _⟩
            | true =>
              rw [h4, h5] at hvn
              have HR := hide (ans_ok (unhide Hk) hvn)
              have hkw : kindB way = true := by have := unhide Hk; cases h : kindB way <;> simp_all
              obtain ⟨nway, rfl, hnw⟩ := kind_way hkw
              have g1 : Good false a := fun j hj => ⟨ha j hj, fun _ => (allFin_iff a).1 h4 j hj⟩
              have g2 : Good false b := fun j hj => ⟨hb j hj, fun _ => (allFin_iff b).1 h5 j hj⟩
              have SC := score_ref w measure nway _ _ a b hnw (unhide hua0) (unhide hub0) (by omega) (by omega) (unhide H3) g1 g2
              clear hvn hkw g1 g2
              cases hs : scoreS (measure == 2) nway a b with
              | none =>
                rw [hs, step_none] at SC
                have HS := hide SC
                have HR2 : Hid (scoreAns measure nway a b = .tuple #[.int .u32 0, .bool true, .int .i64 0]) := by rw [Hid, unhide HR, Int.toNat_natCast, hs]; rfl
                clear SC hs HR
                go_enter Try.func8, Try.ntmps8
                go_wp2_with fail
                refine (unhide HK).mono ?_
                rintro e w1 ⟨rfl, rfl⟩
                go_wp2_with fail
                refine (allFinite_ref _ _ a (unhide hua0) na).mono ?_
                rintro e w2 ⟨rfl, rfl⟩
                go_wp2_with fail
                refine (allFinite_ref _ _ b (unhide hub0) nb).mono ?_
                rintro e w2 ⟨rfl, rfl⟩
                go_wp2_with fail
                refine (unhide HS).mono ?_
                rintro e w3 ⟨rfl, b3⟩
                go_wp2
                go_ret3
                exact ⟨by rw [unhide HR2]; rfl, b3⟩
              | some r =>
                rw [hs, step_some] at SC
                have HS := hide SC
                have HR2 : Hid (scoreAns measure nway a b = .tuple #[.int .u32 r, .bool false, .int .i64 0]) := by rw [Hid, unhide HR, Int.toNat_natCast, hs]; rfl
                clear SC hs HR
                go_enter Try.func8, Try.ntmps8
                go_wp2_with fail
                refine (unhide HK).mono ?_
                rintro e w1 ⟨rfl, rfl⟩
                go_wp2_with fail
                refine (allFinite_ref _ _ a (unhide hua0) na).mono ?_
                rintro e w2 ⟨rfl, rfl⟩
                go_wp2_with fail
                refine (allFinite_ref _ _ b (unhide hub0) nb).mono ?_
                rintro e w2 ⟨rfl, rfl⟩
                go_wp2_with fail
                refine (unhide HS).mono ?_
                rintro e w3 ⟨rfl, b3⟩
                go_wp2
                go_ret3
                exact ⟨by rw [unhide HR2]; rfl, b3⟩
        · have hb3 : ((b.length : Int) != (a.length : Int)) = true := by rw [bne_iff_ne]; omega
          have HR := hide (ans_err (unhide Hk) (vec_dim (Or.inr (Or.inr h3))) (by decide))
          clear h3
          go_enter Try.func8, Try.ntmps8
          go_wp2_with fail
          refine (unhide HK).mono ?_
          rintro e w1 ⟨rfl, rfl⟩
          go_wp2_with fail
          refine (allFinite_ref _ _ a (unhide hua0) na).mono ?_
          rintro e w2 ⟨rfl, rfl⟩
          go_wp2_with fail
          refine (allFinite_ref _ _ b (unhide hub0) nb).mono ?_
          rintro e w2 ⟨rfl, rfl⟩
          go_wp2
          go_ret3
          exact ⟨by rw [unhide HR]; rfl, Below.refl _ _⟩

end Go.Proofs.Ytnoccennhgnjnaa

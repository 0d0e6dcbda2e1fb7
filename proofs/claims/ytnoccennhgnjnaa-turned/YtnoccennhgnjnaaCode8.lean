import Derived.Test.YtnoccennhgnjnaaCode7
namespace Go.Proofs.Ytnoccennhgnjnaa
open Go.RowKit

def vecErr (first : List Nat) (os : List (List Nat)) : Int :=
  if first.length < 1 ∨ 8 < first.length then 4 else if os.all (fun o => decide (o.length = first.length)) then (if allFin first && os.all allFin then 0 else 5) else 4
def at_ (os : List (List Nat)) (j : Nat) : List Nat := os.getD j []
theorem all_at (os : List (List Nat)) (P : List Nat → Bool) : os.all P = true ↔ ∀ j, j < os.length → P (at_ os j) = true := by
  rw [List.all_eq_true]
  constructor
  · intro h j hj
    rw [show at_ os j = os[j] by simp [at_, hj]]; exact h _ (List.getElem_mem hj)
  · intro h x hx
    obtain ⟨j, hj, rfl⟩ := List.mem_iff_getElem.1 hx
    have := h j hj
    rw [show at_ os j = os[j] by simp [at_, hj]] at this; exact this
theorem all_not (os : List (List Nat)) (P : List Nat → Bool) {k : Nat} (hk : k < os.length) (h : P (at_ os k) = false) : os.all P = false := by
  cases e : os.all P with
  | false => rfl
  | true => have := (all_at os P).1 e k hk; rw [h] at this; cases this
def Others (w : World) (q : Nat) (os : List (List Nat)) : Prop := ∀ j, j < os.length → (∃ v, w.cell? ⟨q, j, none⟩ = some v ∧ Us w v (at_ os j)) ∧ Wd (at_ os j)

theorem dimension_no (n : Nat) (hd : n < 1 ∨ 8 < n) (w : World) :
    Calls Try.prog 22 #[.int .i64 n] w fun e w' => e = .returned (.bool false) ∧ w' = w := by
  rcases hd with hd | hd
  · have hz : n = 0 := by omega
    subst hz
    go_enter Try.func22, Try.ntmps22
    go_wp2
    go_ret
    exact ⟨rfl, rfl⟩
  · have hb : decide ((n : Int) ≤ 8) = false := by simp; omega
    have HB := hide hb
    clear hb
    go_enter Try.func22, Try.ntmps22
    go_wp2
    go_ret
    exact ⟨by show Ending.returned (.bool (decide ((n : Int) ≤ 8))) = _; rw [unhide HB], rfl⟩

theorem dimension_yes (n : Nat) (hd1 : 1 ≤ n) (hd2 : n ≤ 8) (w : World) :
    Calls Try.prog 22 #[.int .i64 n] w fun e w' => e = .returned (.bool true) ∧ w' = w := by
  have hb : decide ((n : Int) ≤ 8) = true := by simp; omega
  have HB := hide hb
  clear hb
  go_enter Try.func22, Try.ntmps22
  go_wp2
  go_ret
  exact ⟨by show Ending.returned (.bool (decide ((n : Int) ≤ 8))) = _; rw [unhide HB], rfl⟩

set_option maxHeartbeats 400000 in
theorem vectors_dim (w : World) (ad : Option Addr) (cap : Nat) (first : List Nat) (v2 : Value) (hd : first.length < 1 ∨ 8 < first.length) :
    Calls Try.prog 16 #[.slice ad first.length cap, v2] w fun e w' => e = .returned (.int .i64 4) ∧ w' = w := by
  have HD := hide hd
  clear hd
  go_enter Try.func16, Try.ntmps16
  go_wp2_with (go_at_call 22; refine (dimension_no _ (unhide HD) _).mono ?_; rintro e w' ⟨rfl, rfl⟩)
  go_ret
  exact ⟨rfl, rfl⟩

set_option maxHeartbeats 800000 in
theorem vectors_any (w : World) (v : Value) (first : List Nat) (q : Nat) (os : List (List Nat)) (hu : Us w v first) (hw : Wd first) (ho : Others w q os) (hm : os.length ≤ 8) :
    Calls Try.prog 16 #[v, .slice (some ⟨q, 0, none⟩) os.length os.length] w fun e w' => e = .returned (.int .i64 (vecErr first os)) ∧ w' = w := by
  by_cases hd : first.length < 1 ∨ 8 < first.length
  · obtain ⟨ad, cap, rfl, _⟩ := hu
    have : vecErr first os = 4 := by unfold vecErr; rw [if_pos hd]
    rw [this]
    exact vectors_dim w ad cap first _ hd
  · have hd1 : 1 ≤ first.length := by omega
    have hd2 : first.length ≤ 8 := by omega
    have hu0 := hu
    obtain ⟨ad, cap, rfl, hu⟩ := hu
    obtain ⟨g, off, rfl, hul⟩ := hu hd1
    have HE : Hid (vecErr first os = if os.all (fun o => decide (o.length = first.length)) then (if allFin first && os.all allFin then 0 else 5) else 4) := by unfold vecErr; exact if_neg hd
    have HU := hide hu0
    clear hu hd hul hu0
    go_enter Try.func16, Try.ntmps16
    go_wp2_with (go_at_call 22; refine (dimension_yes _ hd1 hd2 _).mono ?_; rintro e w' ⟨rfl, rfl⟩)
    go_loop [15] (fun i => ∃ k : Nat, k ≤ os.length ∧ i = .int .i64 k ∧ Hid (∀ j, j < k → (at_ os j).length = first.length)) (fun i => os.length - (intOf i).toNat)
    case atStart => exact ⟨0, by omega, rfl, fun j hj => absurd hj (by omega)⟩
    case round =>
      obtain ⟨k, hk, rfl, hall⟩ := hrel
      by_cases hlt : k < os.length
      · obtain ⟨v, hcell, ad2, cap2, rfl, _⟩ := (ho k hlt).1
        by_cases hlen : (at_ os k).length = first.length
        · have hb : (((at_ os k).length : Int) != (first.length : Int)) = false := by simp [hlen]
          have HL := hide hlen
          clear hlen
          go_wp2
          go_round
          case rel => exact ⟨k + 1, by omega, by go_num, fun j hj => by
            by_cases h : j < k
            · exact hall.out j h
            · have : j = k := by omega
              subst this; exact unhide HL⟩
          case measure => simp [intOf]; omega
        · have hb : (((at_ os k).length : Int) != (first.length : Int)) = true := by rw [bne_iff_ne]; omega
          have hA := all_not os (fun o => decide (o.length = first.length)) hlt (by simpa using hlen)
          have HA : Hid (vecErr first os = 4) := by rw [Hid, HE.out, hA]; rfl
          clear hlen hA
          go_wp2
          go_ret
          exact ⟨by rw [HA.out]; rfl, rfl⟩
      · have hA : os.all (fun o => decide (o.length = first.length)) = true := (all_at os _).2 fun j hj => by simpa using hall.out j (by omega)
        have HB : Hid (vecErr first os = if allFin first && os.all allFin then 0 else 5) := by rw [Hid, HE.out, hA]; rfl
        have hlen : ∀ j, j < os.length → (at_ os j).length = first.length := fun j hj => hall.out j (by omega)
        have HL := hide hlen
        clear hA HE hlen
        cases hf : allFin first with
        | false =>
          go_wp2_with (go_at_call 23; refine (allFinite_any _ _ first (unhide HU) hw hd2).mono ?_; rintro e w' ⟨rfl, rfl⟩)
          go_ret
          exact ⟨by rw [HB.out, hf]; rfl, rfl⟩
        | true =>
          go_wp2_with (go_at_call 23; refine (allFinite_any _ _ first (unhide HU) hw hd2).mono ?_; rintro e w' ⟨rfl, rfl⟩)
          go_loop [30] (fun i => ∃ k : Nat, k ≤ os.length ∧ i = .int .i64 k ∧ Hid (∀ j, j < k → allFin (at_ os j) = true)) (fun i => os.length - (intOf i).toNat)
          case atStart => exact ⟨0, by omega, rfl, fun j hj => absurd hj (by omega)⟩
          case round =>
            obtain ⟨k2, hk2, rfl, hall2⟩ := hrel
            by_cases hlt2 : k2 < os.length
            · obtain ⟨v2, hcell2, hu2⟩ := (ho k2 hlt2).1
              have hw2 := (ho k2 hlt2).2
              have hn2 : (at_ os k2).length ≤ 8 := by rw [unhide HL k2 hlt2]; exact hd2
              have HU2 := hide hu2
              obtain ⟨ad2, cap2, rfl, _⟩ := hu2
              cases hf2 : allFin (at_ os k2) with
              | true =>
                go_wp2_with (go_at_call 23; refine (allFinite_any _ _ (at_ os k2) (unhide HU2) hw2 hn2).mono ?_; rintro e w' ⟨rfl, rfl⟩)
                go_round
                case rel => exact ⟨k2 + 1, by omega, by go_num, fun j hj => by
                  by_cases h : j < k2
                  · exact hall2.out j h
                  · have : j = k2 := by omega
                    subst this; exact hf2⟩
                case measure => simp [intOf]; omega
              | false =>
                have hA := all_not os allFin hlt2 hf2
                have HA : Hid (vecErr first os = 5) := by rw [Hid, HB.out, hA, hf]; rfl
                clear hA
                go_wp2_with (go_at_call 23; refine (allFinite_any _ _ (at_ os k2) (unhide HU2) hw2 hn2).mono ?_; rintro e w' ⟨rfl, rfl⟩)
                go_ret
                exact ⟨by rw [HA.out]; rfl, rfl⟩
            · have hA : os.all allFin = true := (all_at os _).2 fun j hj => hall2.out j (by omega)
              have HA : Hid (vecErr first os = 0) := by rw [Hid, HB.out, hA, hf]; rfl
              clear hA
              go_wp2
              go_ret
              exact ⟨by rw [HA.out]; rfl, rfl⟩

end Go.Proofs.Ytnoccennhgnjnaa

import Derived.Test.YtnoccennhgnjnaaCode6
namespace Go.Proofs.Ytnoccennhgnjnaa
open Go.RowKit

/-- a list of words, wherever it lies (an empty one anywhere) -/
def Us (w : World) (v : Value) (l : List Nat) : Prop := ∃ ad cap, v = .slice ad l.length cap ∧ (0 < l.length → ∃ g off, ad = some ⟨g, off, none⟩ ∧ Ul w g off l)
/-- words -/
def Wd (l : List Nat) : Prop := ∀ j, j < l.length → nth l j < 4294967296
def allFin (l : List Nat) : Bool := l.all Near.finB
theorem allFin_iff (l : List Nat) : allFin l = true ↔ ∀ j, j < l.length → Near.finB (nth l j) = true := by
  unfold allFin
  rw [List.all_eq_true]
  constructor
  · intro h j hj
    have : nth l j = l[j] := by simp [nth, hj]
    rw [this]; exact h _ (List.getElem_mem hj)
  · intro h x hx
    obtain ⟨j, hj, rfl⟩ := List.mem_iff_getElem.1 hx
    have := h j hj
    rw [show nth l j = l[j] by simp [nth, hj]] at this; exact this
theorem allFin_false {l : List Nat} {k : Nat} (h : k < l.length) (hf : Near.finB (nth l k) = false) : allFin l = false := by
  cases e : allFin l with
  | false => rfl
  | true => have := (allFin_iff l).1 e k h; rw [hf] at this; cases this

set_option maxHeartbeats 400000 in
theorem allFinite_any (w : World) (v : Value) (l : List Nat) (hu : Us w v l) (hw : Wd l) (hn : l.length ≤ 8) :
    Calls Try.prog 23 #[v] w fun e w' => e = .returned (.bool (allFin l)) ∧ w' = w := by
  obtain ⟨ad, cap, rfl, hu⟩ := hu
  by_cases hl : 0 < l.length
  · obtain ⟨g, off, rfl, hul⟩ := hu hl
    clear hu
    go_enter Try.func23, Try.ntmps23
    go_wp2
    go_loop [7] (fun i => ∃ k : Nat, k ≤ l.length ∧ i = .int .i64 k ∧ Hid (∀ j, j < k → Near.finB (nth l j) = true)) (fun i => l.length - (intOf i).toNat)
    case atStart => exact ⟨0, by omega, rfl, fun j hj => absurd hj (by omega)⟩
    case round =>
      obtain ⟨k, hk, rfl, hall⟩ := hrel
      by_cases hlt : k < l.length
      · have hcell := hul k hlt
        have hwk := hw k hlt
        cases hf : Near.finB (nth l k) with
        | true =>
          go_wp2_with (go_at_call 32; refine (finite_any _ hwk _).mono ?_; rintro e w' ⟨rfl, rfl⟩)
          go_round
          case rel => exact ⟨k + 1, by omega, by go_num, fun j hj => by
            by_cases h : j < k
            · exact hall.out j h
            · have : j = k := by omega
              subst this; exact hf⟩
          case measure => simp [intOf]; omega
        | false =>
          go_wp2_with (go_at_call 32; refine (finite_any _ hwk _).mono ?_; rintro e w' ⟨rfl, rfl⟩)
          go_ret
          exact ⟨by rw [allFin_false hlt hf]; rfl, rfl⟩
      · have hy : allFin l = true := (allFin_iff l).2 fun j hj => hall.out j (by omega)
        have HY := hide hy
        clear hy
        go_wp2
        go_ret
        exact ⟨by rw [unhide HY]; rfl, rfl⟩
  · have hz : l = [] := List.length_eq_zero_iff.1 (by omega)
    subst hz
    clear hu
    go_enter Try.func23, Try.ntmps23
    go_wp2
    refine wp_loop_rounds 1 ?_
    rw [rounds_succ]
    go_wp2
    go_ret
    exact ⟨rfl, rfl⟩

end Go.Proofs.Ytnoccennhgnjnaa

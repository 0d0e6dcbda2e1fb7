import Derived.Test.YtnoccennhgnjnaaLaw1
namespace Go.Proofs.Ytnoccennhgnjnaa
open Go.RowKit

theorem lent_at (l : List Nat) (k : Nat) (h : k < l.length + 8) : (lentRow l 8)[k]? = some (.int .u32 (if k < l.length then nth l k else 77 : Nat)) := by
  unfold lentRow
  by_cases hk : k < l.length
  · rw [List.getElem?_append_left (by simpa using hk), if_pos hk]
    simp [nth, hk, uv]
  · rw [List.getElem?_append_right (by simp; omega), if_neg hk]
    rw [List.getElem?_append_left (by simp; omega)]
    rw [List.getElem?_replicate, if_pos (by simp; omega)]
    rfl

/-- all blocks but one are as they were -/
structure But (t : Nat) (w w' : World) : Prop where
  os : w'.os = w.os
  tape : w'.tape = w.tape
  output : w'.output = w.output
  size : w.heap.size ≤ w'.heap.size
  rest : ∀ k, k ≠ t → w'.heap[k]? = w.heap[k]?
theorem But.refl (t : Nat) (w : World) : But t w w := ⟨rfl, rfl, rfl, Nat.le_refl _, fun _ _ => rfl⟩
theorem But.drewN {t : Nat} {w w' : World} (h : But t w w') (n : Nat) : But t w (w'.drewN n) := ⟨h.os, h.tape, h.output, h.size, h.rest⟩
theorem But.set {t : Nat} {w w' : World} (h : But t w w') (j : Nat) (u : Value) : But t w (w'.setCell ⟨t, j, none⟩ u) :=
  ⟨h.os, h.tape, h.output, by simp [World.setCell]; exact h.size, fun k hk => by rw [Below.heap_setCell _ _ _ _ hk]; exact h.rest k hk⟩
theorem But.below {t B : Nat} {w w' : World} (h : But t w w') (hB : B ≤ t) : Below B w w' := ⟨h.os, h.tape, h.output, h.size, fun k hk => h.rest k (by omega)⟩
/-- what is still as it was, from the k-th on -/
def StRel (l : List Nat) (t : Nat) (w : World) (k : Nat) (wr : World) : Prop :=
  ∃ cur, wr.heap[t]? = some (.cells cur 25 (0, 0)) ∧ cur.size = l.length + 8 ∧ (∀ j, k ≤ j → cur[j]? = (lentRow l 8)[j]?) ∧ But t w wr

theorem StRel.cell {l : List Nat} {t : Nat} {w wr : World} {k : Nat} (h : StRel l t w k wr) (hk : k < l.length + 8) : wr.cell? ⟨t, k, none⟩ = some (.int .u32 (if k < l.length then nth l k else 77 : Nat)) := by
  obtain ⟨cur, h1, _, h3, _⟩ := h
  simp only [World.cell?, h1]
  have := (h3 k (Nat.le_refl _)).trans (lent_at l k hk)
  simpa using this
theorem StRel.free {l : List Nat} {t : Nat} {w wr : World} {k : Nat} (h : StRel l t w k wr) : wr.frozen? ⟨t, k, none⟩ = false := by
  obtain ⟨cur, h1, _⟩ := h
  simp [World.frozen?, h1]
theorem StRel.next {l : List Nat} {t : Nat} {w wr : World} {k : Nat} (h : StRel l t w k wr) (u : Value) : StRel l t w (k + 1) (wr.setCell ⟨t, k, none⟩ u) := by
  obtain ⟨cur, h1, h2, h3, h4⟩ := h
  refine ⟨cur.setIfInBounds k u, heap_setCell_same wr t k cur _ u h1, by simpa using h2, fun j hj => ?_, h4.set _ _⟩
  rw [Array.getElem?_setIfInBounds, if_neg (by omega)]
  exact h3 j (by omega)
theorem StRel.drewN {l : List Nat} {t : Nat} {w wr : World} {k : Nat} (h : StRel l t w k wr) (n : Nat) : StRel l t w k (wr.drewN n) := by
  obtain ⟨cur, h1, h2, h3, h4⟩ := h
  exact ⟨cur, h1, h2, h3, h4.drewN n⟩

set_option maxHeartbeats 1600000 in
theorem still_any (w : World) (l : List Nat) (t cap : Nat) (ad : Option Addr) (h0 : StRel l t w 0 w) (hu : 0 < l.length → ∃ g off, ad = some ⟨g, off, none⟩ ∧ Ul w g off l ∧ g ≠ t) (hreach : l.length * 4 ≤ 140737488351232) :
    Calls Try.prog 9 #[.slice (some ⟨t, 0, none⟩) (l.length + 8) (l.length + 8), .slice ad l.length cap] w fun e w' => e = .returned (.bool true) ∧ But t w w' := by
  go_enter Try.func9, Try.ntmps9
  go_wp2
  go_loopw [5, 6] (fun u i wr => ∃ k : Nat, k ≤ l.length + 8 ∧ u = .bool true ∧ i = .int .i64 k ∧ StRel l t w k wr) (fun _ i _ => l.length + 8 - (intOf i).toNat)
  case atStart => exact ⟨0, by omega, rfl, rfl, h0⟩
  case round =>
    obtain ⟨k, hk, rfl, rfl, hR⟩ := hrel
    by_cases hlt : k < l.length + 8
    · have hc := hR.cell hlt
      by_cases hin : k < l.length
      · obtain ⟨g, off, rfl, hul, hgt⟩ := hu (by omega)
        rw [if_pos hin] at hc
        have hc2 : wr.cell? ⟨g, off + k, none⟩ = some (.int .u32 (nth l k)) := by
          obtain ⟨_, _, _, _, hb⟩ := hR
          exact (hul.same (hb.rest g hgt)) k hin
        have hd1 : decide ((k : Int) < (l.length : Int)) = true := by simpa using hin
        have hd2 : decide (l.length ≤ k) = false := by simp; omega
        clear hu
        go_wp2_with fail
        go_quiet (fail)
        have hRq := hR.drewN nq
        have hcq : (wr.drewN nq).cell? ⟨t, k, none⟩ = some (.int .u32 (nth l k)) := hc
        have hfq := hRq.free
        clear hR hc hc2
        generalize wr.drewN nq = wq at *
        go_wp2
        go_roundw
        case rel => exact ⟨k + 1, by omega, rfl, by go_num, hRq.next _⟩
        case measure => simp [intOf]; omega
      · rw [if_neg hin] at hc
        have hd1 : decide (k < l.length) = false := by simp; omega
        have hd2 : decide (l.length ≤ k) = true := by simp; omega
        clear hu hin
        go_wp2_with fail
        go_quiet (fail)
        have hRq := hR.drewN nq
        have hcq : (wr.drewN nq).cell? ⟨t, k, none⟩ = some (.int .u32 (77 : Nat)) := hc
        have hfq := hRq.free
        clear hR hc
        generalize wr.drewN nq = wq at *
        go_wp2
        go_roundw
        case rel => exact ⟨k + 1, by omega, rfl, by go_num, hRq.next _⟩
        case measure => simp [intOf]; omega
    · go_wp2
      go_ret
      obtain ⟨_, _, _, _, hb⟩ := hR
      exact ⟨rfl, hb⟩

end Go.Proofs.Ytnoccennhgnjnaa

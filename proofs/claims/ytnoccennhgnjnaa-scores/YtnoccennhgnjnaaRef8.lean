import Derived.Test.YtnoccennhgnjnaaRef7
namespace Go.Proofs.Ytnoccennhgnjnaa
open Go.RowKit

theorem step_none : stepAns none = .tuple #[.int .u32 0, .bool false] := rfl
theorem step_some (r : Nat) : stepAns (some r) = .tuple #[.int .u32 r, .bool true] := rfl

set_option maxHeartbeats 800000 in
theorem plain_ref (w : World) (v : Value) (l : List Nat) (hu : Us w v l) (hl : 0 < l.length) (hn : l.length ≤ 8) (hg : Good false l) :
    Calls Try.prog 29 #[v] w fun e w' => e = .returned (stepAns (Near.plainM (nth l 0) l.tail)) ∧ Below w.heap.size w w' := by
  obtain ⟨ad, cap, rfl, hu⟩ := hu
  obtain ⟨g, off, rfl, hul⟩ := hu hl
  have hgl := hul.lt hl
  have h0 : w.cell? ⟨g, off, none⟩ = some (.int .u32 (nth l 0)) := hul 0 hl
  clear hu
  go_enter Try.func29, Try.ntmps29
  go_wp2
  go_loopw [4, 5] (fun s i wr => ∃ k r : Nat, k < l.length ∧ i = .int .i64 ((k : Int) + 1) ∧ s = .int .u32 r ∧ r < 4294967296 ∧ Near.finB r = true ∧ Hid (Near.plainM (nth l 0) l.tail = Near.plainM r (l.tail.drop k)) ∧ Below w.heap.size w wr) (fun _ i _ => l.length + 1 - (intOf i).toNat)
  case atStart => exact ⟨0, nth l 0, hl, rfl, rfl, (hg 0 hl).1, (hg 0 hl).2 rfl, rfl, Below.refl _ _⟩
  case round =>
    obtain ⟨k, r, hk, rfl, rfl, hr, hfr, hm, hbel⟩ := hrel
    by_cases hlt : k + 1 < l.length
    · have hcell : wr.cell? ⟨g, off + (k + 1), none⟩ = some (.int .u32 (nth l (k + 1))) := (hul.same (hbel.block _ hgl)) (k + 1) hlt
      have hgk := hg _ hlt
      have hm2 : Hid (Near.plainM (nth l 0) l.tail = (Near.fadd r (nth l (k + 1))).bind fun t => Near.plainM t (l.tail.drop (k + 1))) := by rw [Hid, unhide hm, tail_drop l k hlt]; rfl
      have C := sum_ref wr r (nth l (k + 1)) hr hgk.1 hfr (hgk.2 rfl)
      have hki : (k : Int) + 1 < l.length := by omega
      cases hs : Near.fadd r (nth l (k + 1)) with
      | none =>
        rw [hs, step_none] at C
        have HC := hide C
        have HR : Hid (Near.plainM (nth l 0) l.tail = none) := by rw [Hid, unhide hm2, hs]; rfl
        clear C hs hm2 hm
        go_wp2_with fail
        refine (unhide HC).mono ?_
        rintro e w2 ⟨rfl, b2⟩
        go_wp2
        go_ret2
        exact ⟨by rw [unhide HR]; rfl, hbel.trans (b2.mono hbel.size)⟩
      | some t =>
        rw [hs, step_some] at C
        have HC := hide C
        have ht := Near.fadd_lt hs
        have hft := Near.fadd_fin hs
        have HR : Hid (Near.plainM (nth l 0) l.tail = Near.plainM t (l.tail.drop (k + 1))) := by rw [Hid, unhide hm2, hs]; rfl
        clear C hs hm2 hm
        go_wp2_with fail
        refine (unhide HC).mono ?_
        rintro e w2 ⟨rfl, b2⟩
        go_wp2
        go_roundw
        case rel => exact ⟨k + 1, t, hlt, by go_num, rfl, ht, hft, HR, hbel.trans (b2.mono hbel.size)⟩
        case measure => simp [intOf]; omega
    · have HR : Hid (Near.plainM (nth l 0) l.tail = some r) := by
        rw [Hid, unhide hm, List.drop_eq_nil_of_le (by simp; omega)]; rfl
      have hki : ¬ (k : Int) + 1 < l.length := by omega
      clear hm
      go_wp2
      go_ret2
      exact ⟨by rw [unhide HR]; rfl, hbel⟩

end Go.Proofs.Ytnoccennhgnjnaa

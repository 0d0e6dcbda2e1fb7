import Derived.Test.YtnoccennhgnjnaaLaw2
import Derived.Test.YtnoccennhgnjnaaTurned2
namespace Go.Proofs.Ytnoccennhgnjnaa
open Go.RowKit

theorem us_two (w : World) (x y : Nat) : Us (w.alloc (.cells #[.int .u32 x, .int .u32 y] 25)) (.slice (some ⟨w.heap.size, 0, none⟩) 2 2) [x, y] :=
  ⟨_, _, rfl, fun _ => ⟨w.heap.size, 0, rfl, fun j hj => by
    have hb : (w.alloc (.cells #[.int .u32 x, .int .u32 y] 25)).heap[w.heap.size]? = some (.cells #[.int .u32 x, .int .u32 y] 25) := heap_alloc_new _ _
    have : j = 0 ∨ j = 1 := by simp at hj; omega
    rcases this with rfl | rfl
    · simp only [World.cell?, hb]; rfl
    · simp only [World.cell?, hb]; rfl⟩⟩
theorem good_two {x y : Nat} (hx : x < 4294967296) (hf : Near.finB x = true) (hy : y < 4294967296) (hg : Near.finB y = true) : Good false [x, y] := fun j hj => by
  have : j = 0 ∨ j = 1 := by simp at hj; omega
  rcases this with rfl | rfl
  · exact ⟨hx, fun _ => hf⟩
  · exact ⟨hy, fun _ => hg⟩
theorem score_11 : scoreS false 1 [0x3f800000, 0x40000000] [0x40400000, 0x40800000] = some 0x41300000 := by decide +kernel

set_option maxHeartbeats 800000 in
theorem eleven_any (w : World) : Calls Try.prog 5 #[] w fun e w' => e = .returned (.bool true) ∧ Below w.heap.size w w' := by
  have u1 : Us ((w.alloc (.cells #[.int .u32 1065353216, .int .u32 1073741824] 25)).alloc (.cells #[.int .u32 1077936128, .int .u32 1082130432] 25)) (.slice (some ⟨w.heap.size, 0, none⟩) 2 2) [1065353216, 1073741824] :=
    (us_two w 1065353216 1073741824).same fun g hg => Below.heap_alloc _ _ _ hg
  have u2 : Us ((w.alloc (.cells #[.int .u32 1065353216, .int .u32 1073741824] 25)).alloc (.cells #[.int .u32 1077936128, .int .u32 1082130432] 25)) (.slice (some ⟨w.heap.size + 1, 0, none⟩) 2 2) [1077936128, 1082130432] := by
    have := us_two (w.alloc (.cells #[.int .u32 1065353216, .int .u32 1073741824] 25)) 1077936128 1082130432
    simp only [World.size_alloc] at this
    exact this
  have C := score_good _ 1 1 _ _ [1065353216, 1073741824] [1077936128, 1082130432] (by decide) (by decide) u1 u2 (by decide) (by decide) rfl (good_two (by decide) (by decide) (by decide) (by decide)) (good_two (by decide) (by decide) (by decide) (by decide))
  have C2 : Calls Try.prog 7 #[.int .i64 1, .int .i64 1, .slice (some ⟨w.heap.size, 0, none⟩) 2 2, .slice (some ⟨w.heap.size + 1, 0, none⟩) 2 2] ((w.alloc (.cells #[.int .u32 1065353216, .int .u32 1073741824] 25)).alloc (.cells #[.int .u32 1077936128, .int .u32 1082130432] 25)) fun e w' => e = .returned (.tuple #[.int .u32 1093664768, .bool false, .int .i64 0]) ∧ Below w.heap.size w w' := by
    refine C.mono ?_
    rintro e w' ⟨⟨s, over, rfl, hs, _⟩, hb⟩
    have e1 : ((1 : Int) == 2) = false := by decide
    have e2 : (1 : Int).toNat = 1 := rfl
    rw [e1, e2, score_11] at hs
    cases over with
    | true => cases hs
    | false =>
      cases hs
      exact ⟨rfl, (((Below.refl _ w).alloc (Nat.le_refl _) _).alloc (by simp) _).trans (hb.mono (by simp; omega))⟩
  have HC := hide C2
  clear C C2 u1 u2
  go_enter Try.func5, Try.ntmps5
  go_wp2_with fail
  refine (unhide HC).mono ?_
  rintro e w1 ⟨rfl, b1⟩
  go_wp2
  go_ret
  exact ⟨rfl, b1⟩

end Go.Proofs.Ytnoccennhgnjnaa

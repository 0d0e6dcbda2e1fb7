import Derived.Test.YtnoccennhgnjnaaCode3
namespace Go.Proofs.Ytnoccennhgnjnaa
open Go.RowKit

/-- the round of 'kahan' -/
def KaRel (p : Nat) (o : Bool) (l : List Nat) (w : World) (k : Nat) (r c : Nat) (wr : World) : Prop :=
  ∃ o', r < 4294967296 ∧ c < 4294967296 ∧ Wk p o' w wr ∧ Live o' r ∧ Live o' c ∧ Good o' l ∧ Inv o o' (Near.kahanM (nth l 0) 0 l.tail) (Near.kahanM r c (l.tail.drop k))

set_option maxHeartbeats 800000 in
theorem kahan_any (p g off cap : Nat) (l : List Nat) (o : Bool) (w : World) (hp : g ≠ p) (hl : 0 < l.length) (hn : l.length ≤ 8) (hcap : l.length ≤ cap) (hfl : Fl w g off l) (hgood : Good o l)
    (hc : w.heap[p]? = some (.cells #[.bool o] 46 (0, 0))) :
    Calls Try.prog 34 #[.pointer (some ⟨p, 0, none⟩), .slice (some ⟨g, off, none⟩) l.length cap] w fun e w' =>
      ∃ r o', e = .returned (.float .f32 r) ∧ r < 4294967296 ∧ Wk p o' w w' ∧ Tr o o' (Near.kahanM (nth l 0) 0 l.tail) r := by
  have h0 : w.cell? ⟨g, off, none⟩ = some (.float .f32 (nth l 0)) := hfl 0 hl
  by_cases hone : 1 < l.length
  · go_enter Try.func34, Try.ntmps34
    go_wp2
    go_loopw [5, 6, 17] (fun v u i wr => ∃ k r c : Nat, k < l.length ∧ i = .int .i64 k ∧ v = .float .f32 r ∧ u = .float .f32 c ∧ KaRel p o l w k r c wr) (fun _ _ i _ => l.length - (intOf i).toNat)
    case atStart => exact ⟨0, nth l 0, 0, hl, rfl, rfl, rfl, o, (hgood 0 hl).1, by omega, Wk.refl hc, (hgood 0 hl).2, fun _ => by decide, hgood, Inv.refl _ _⟩
    case round =>
      obtain ⟨k, r, c, hk, rfl, rfl, rfl, o1, hr, hcc, hwk, hlive, hlc, hg1, hinv⟩ := hrel
      by_cases hlt : k + 1 < l.length
      · have hcell : wr.cell? ⟨g, off + 1 + k, none⟩ = some (.float .f32 (nth l (k + 1))) := by
          have := (hfl.wk hwk hp) (k + 1) hlt
          rw [show off + (k + 1) = off + 1 + k by omega] at this; exact this
        have HI : Hid (Inv o o1 (Near.kahanM (nth l 0) 0 l.tail) (Near.kahanM r c (nth l (k + 1) :: l.tail.drop (k + 1)))) := by rw [tail_drop l k hlt] at hinv; exact hinv
        clear hinv
        go_wp2_with fail
        refine (difference_any p (nth l (k + 1)) c o1 wr (hg1 _ hlt).1 hcc (fun e => ⟨(hg1 _ hlt).2 e, hlc e⟩) hwk.flag).mono ?_
        rintro e w2 ⟨y, o2, rfl, hy, hwk2, t2⟩
        have l2 := hlive.later t2
        go_wp2_with fail
        refine (sum_any p r y o2 w2 hr hy (fun e => ⟨l2 e, t2.live e⟩) hwk2.flag).mono ?_
        rintro e w3 ⟨t, o3, rfl, ht, hwk3, t3⟩
        have l3 := l2.later t3
        go_wp2_with fail
        refine (difference_any p t r o3 w3 ht hr (fun e => ⟨t3.live e, l3 e⟩) hwk3.flag).mono ?_
        rintro e w4 ⟨d, o4, rfl, hd, hwk4, t4⟩
        have y4 := (t2.live.later t3).later t4
        go_wp2_with fail
        refine (difference_any p d y o4 w4 hd hy (fun e => ⟨t4.live e, y4 e⟩) hwk4.flag).mono ?_
        rintro e w5 ⟨c5, o5, rfl, h5, hwk5, t5⟩
        go_wp2
        go_roundw
        case rel => exact ⟨k + 1, t, c5, hlt, by go_num, rfl, rfl, o5, ht, h5, (((hwk.trans hwk2).trans hwk3).trans hwk4).trans hwk5, (t3.live.later t4).later t5, t5.live, (((hg1.later t2).later t3).later t4).later t5, ((((HI.out).step t2).step t3).step t4).step t5⟩
        case measure => simp [intOf]; omega
      · go_wp2
        go_ret
        refine ⟨r, o1, rfl, hr, hwk, Inv.done ?_ hlive⟩
        rw [List.drop_eq_nil_of_le (by simp; omega)] at hinv
        exact hinv
  · go_enter Try.func34, Try.ntmps34
    go_wp2
    all_goals
      go_loopw [5, 6, 17] (fun v u i wr => ∃ k r c : Nat, k < l.length ∧ i = .int .i64 k ∧ v = .float .f32 r ∧ u = .float .f32 c ∧ KaRel p o l w k r c wr) (fun _ _ i _ => l.length - (intOf i).toNat)
      case atStart => exact ⟨0, nth l 0, 0, hl, rfl, rfl, rfl, o, (hgood 0 hl).1, by omega, Wk.refl hc, (hgood 0 hl).2, fun _ => by decide, hgood, Inv.refl _ _⟩
      case round =>
        obtain ⟨k, r, c, hk, rfl, rfl, rfl, o1, hr, hcc, hwk, hlive, hlc, hg1, hinv⟩ := hrel
        go_wp2
        go_ret
        refine ⟨r, o1, rfl, hr, hwk, Inv.done ?_ hlive⟩
        rw [List.drop_eq_nil_of_le (by simp; omega)] at hinv
        exact hinv

end Go.Proofs.Ytnoccennhgnjnaa

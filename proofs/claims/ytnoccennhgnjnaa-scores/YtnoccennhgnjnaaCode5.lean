import Derived.Test.YtnoccennhgnjnaaCode4
import Derived.Deep.RegionWith
namespace Go.Proofs.Ytnoccennhgnjnaa
open Go.RowKit

theorem Inv.last {o o' o'' : Bool} {m g : Option Nat} {r : Nat} (h : Inv o o' m g) (t : Tr o' o'' g r) : Tr o o'' m r := by
  refine ⟨fun k => t.1 (h.1 k), fun k => ?_⟩
  rcases h.2 k with ⟨a, b⟩ | ⟨a, b⟩
  · exact Or.inl ⟨t.1 a, b⟩
  · rw [b]; exact t.2 a
theorem pairs_close {o o1 o2 o3 : Bool} {A B : Option Nat} {r1 r2 r3 : Nat} (t1 : Tr o o1 A r1) (t2 : Tr o1 o2 B r2) (t3 : Tr o2 o3 (Near.fadd r1 r2) r3) : Tr o o3 (A.bind fun a => B.bind fun b => Near.fadd a b) r3 := by
  have i1 := Inv.step (K := fun a => B.bind fun b => Near.fadd a b) (Inv.refl o _) t1
  have i2 := Inv.step (K := fun b => Near.fadd r1 b) i1 t2
  exact i2.last t3

def PairsSaid (f : Nat) : Prop := ∀ (p g off cap : Nat) (l : List Nat) (o : Bool) (w : World), l.length ≤ f → g ≠ p → 0 < l.length → l.length ≤ 8 → l.length ≤ cap → Fl w g off l → Good o l →
    w.heap[p]? = some (.cells #[.bool o] 46 (0, 0)) →
    Calls Try.prog 33 #[.pointer (some ⟨p, 0, none⟩), .slice (some ⟨g, off, none⟩) l.length cap] w fun e w' =>
      ∃ r o', e = .returned (.float .f32 r) ∧ r < 4294967296 ∧ Wk p o' w w' ∧ Tr o o' (Near.pairsM f l) r

set_option maxHeartbeats 800000 in
theorem pairs_one (f : Nat) (p g off cap : Nat) (l : List Nat) (o : Bool) (w : World) (hl : l.length = 1) (hcap : l.length ≤ cap) (hfl : Fl w g off l) (hgood : Good o l)
    (hc : w.heap[p]? = some (.cells #[.bool o] 46 (0, 0))) :
    Calls Try.prog 33 #[.pointer (some ⟨p, 0, none⟩), .slice (some ⟨g, off, none⟩) l.length cap] w fun e w' =>
      ∃ r o', e = .returned (.float .f32 r) ∧ r < 4294967296 ∧ Wk p o' w w' ∧ Tr o o' (Near.pairsM (f + 1) l) r := by
  have h0 : w.cell? ⟨g, off, none⟩ = some (.float .f32 (nth l 0)) := hfl 0 (by omega)
  have h1 := hgood 0 (by omega)
  have e : l = [nth l 0] := by
    match l, hl with
    | [x], _ => rfl
  have hm : Near.pairsM (f + 1) l = some (nth l 0) := by rw [e]; rfl
  have HM : Hid (Near.pairsM (f + 1) l = some (nth l 0)) := hm
  clear e hm
  go_enter Try.func33, Try.ntmps33
  go_wp2
  go_ret
  exact ⟨_, o, rfl, h1.1, Wk.refl hc, by rw [HM.out]; exact Inv.done (Inv.refl _ _) h1.2⟩

set_option maxHeartbeats 800000 in
theorem pairs_more (f : Nat) (ih : PairsSaid f) (p g off cap : Nat) (l : List Nat) (o : Bool) (w : World) (hf : l.length ≤ f + 1) (hg : g ≠ p) (hl : 2 ≤ l.length) (hn : l.length ≤ 8) (hcap : l.length ≤ cap) (hfl : Fl w g off l) (hgood : Good o l)
    (hc : w.heap[p]? = some (.cells #[.bool o] 46 (0, 0))) :
    Calls Try.prog 33 #[.pointer (some ⟨p, 0, none⟩), .slice (some ⟨g, off, none⟩) l.length cap] w fun e w' =>
      ∃ r o', e = .returned (.float .f32 r) ∧ r < 4294967296 ∧ Wk p o' w w' ∧ Tr o o' (Near.pairsM (f + 1) l) r := by
  have hne : ((l.length : Int) == 1) = false := by simp; omega
  have e1 : (l.take ((l.length + 1) / 2)).length = (l.length + 1) / 2 := by simp; omega
  have e2 : (l.drop ((l.length + 1) / 2)).length = l.length - (l.length + 1) / 2 := by simp
  have n1 : ∀ j, j < (l.length + 1) / 2 → nth (l.take ((l.length + 1) / 2)) j = nth l j := by
    intro j hj; simp [nth, List.getD_eq_getElem?_getD, hj]
  have n2 : ∀ j, nth (l.drop ((l.length + 1) / 2)) j = nth l ((l.length + 1) / 2 + j) := by
    intro j; simp [nth, List.getD_eq_getElem?_getD, List.getElem?_drop]
  have hm : Near.pairsM (f + 1) l = (Near.pairsM f (l.take ((l.length + 1) / 2))).bind fun a => (Near.pairsM f (l.drop ((l.length + 1) / 2))).bind fun b => Near.fadd a b := by
    match l, hl with
    | a :: b :: t, _ =>
      have : (t.length + 3) / 2 = ((a :: b :: t).length + 1) / 2 := by simp
      rw [Near.pairsM, this]
  have HM : Hid (Near.pairsM (f + 1) l = (Near.pairsM f (l.take ((l.length + 1) / 2))).bind fun a => (Near.pairsM f (l.drop ((l.length + 1) / 2))).bind fun b => Near.fadd a b) := hm
  have C1 : Hid (∀ W, Wk p o w W → Calls Try.prog 33 #[.pointer (some ⟨p, 0, none⟩), .slice (some ⟨g, off, none⟩) ((l.length + 1) / 2) cap] W fun e w' =>
      ∃ r o', e = .returned (.float .f32 r) ∧ r < 4294967296 ∧ Wk p o' w w' ∧ Tr o o' (Near.pairsM f (l.take ((l.length + 1) / 2))) r) := by
    intro W hk
    have := ih p g off cap (l.take ((l.length + 1) / 2)) o W (by omega) hg (by omega) (by omega) (by omega)
      (by intro j hj; rw [e1] at hj; rw [n1 j hj]; exact (hfl.wk hk hg) j (by omega)) (by intro j hj; rw [e1] at hj; rw [n1 j hj]; exact hgood j (by omega)) hk.flag
    rw [e1] at this
    refine this.mono ?_
    rintro e w' ⟨r, o', a, b, c, d⟩
    exact ⟨r, o', a, b, hk.trans c, d⟩
  have C2 : Hid (∀ o1 r1 W, Tr o o1 (Near.pairsM f (l.take ((l.length + 1) / 2))) r1 → Wk p o1 w W → Calls Try.prog 33 #[.pointer (some ⟨p, 0, none⟩), .slice (some ⟨g, off + (l.length + 1) / 2, none⟩) (l.length - (l.length + 1) / 2) (cap - (l.length + 1) / 2)] W fun e w' =>
      ∃ r o', e = .returned (.float .f32 r) ∧ r < 4294967296 ∧ Wk p o' w w' ∧ Tr o1 o' (Near.pairsM f (l.drop ((l.length + 1) / 2))) r) := by
    intro o1 r1 W t1 hk
    have := ih p g (off + (l.length + 1) / 2) (cap - (l.length + 1) / 2) (l.drop ((l.length + 1) / 2)) o1 W (by omega) hg (by omega) (by omega) (by omega)
      (by intro j hj; rw [e2] at hj; rw [n2 j]; have := (hfl.wk hk hg) ((l.length + 1) / 2 + j) (by omega); rw [← Nat.add_assoc] at this; exact this)
      (by intro j hj; rw [e2] at hj; rw [n2 j]; exact (hgood.later t1) _ (by omega)) hk.flag
    rw [e2] at this
    refine this.mono ?_
    rintro e w' ⟨r, o', a, b, c, d⟩
    exact ⟨r, o', a, b, hk.trans c, d⟩
  clear hm e1 e2 n1 n2
  go_enter Try.func33, Try.ntmps33
  go_wp2
  go_region_with (first | (go_at_call 33; have hz := k1; refine (C2.out o1 r1 _ t1 ?_).mono ?_; exact k1; rintro e w2 ⟨r2, o2, rfl, hr2, k2, t2⟩) | (go_at_call 33; refine (C1.out _ ?_).mono ?_; exact (Wk.refl hc).drew; rintro e w1 ⟨r1, o1, rfl, hr1, k1, t1⟩) | (go_at_call 42; refine (sum_any p r1 r2 o2 _ hr1 hr2 (fun e => ⟨t1.live.later t2 e, t2.live e⟩) ?_).mono ?_; exact k2.flag; rintro e w3 ⟨r3, o3, rfl, hr3, k3, t3⟩))
  all_goals
    go_wp2
    go_ret
    refine ⟨r3, o3, rfl, hr3, k2.trans k3, ?_⟩
    rw [HM.out]
    exact pairs_close t1 t2 t3

theorem pairs_any : ∀ f, PairsSaid f
  | 0 => fun _ _ _ _ l _ _ hf _ hl _ _ _ _ _ => absurd hl (by omega)
  | f + 1 => by
    intro p g off cap l o w hf hg hl hn hcap hfl hgood hc
    by_cases h : l.length = 1
    · exact pairs_one f p g off cap l o w h hcap hfl hgood hc
    · exact pairs_more f (pairs_any f) p g off cap l o w hf hg (by omega) hn hcap hfl hgood hc

set_option maxHeartbeats 400000 in
theorem sumUp_any (p g off cap : Nat) (l : List Nat) (way : Nat) (o : Bool) (w : World) (hway : way = 1 ∨ way = 2 ∨ way = 3) (hp : g ≠ p) (hl : 0 < l.length) (hn : l.length ≤ 8) (hcap : l.length ≤ cap) (hfl : Fl w g off l) (hgood : Good o l)
    (hc : w.heap[p]? = some (.cells #[.bool o] 46 (0, 0))) :
    Calls Try.prog 24 #[.pointer (some ⟨p, 0, none⟩), .int .i64 way, .slice (some ⟨g, off, none⟩) l.length cap] w fun e w' =>
      ∃ r o', e = .returned (.float .f32 r) ∧ r < 4294967296 ∧ Wk p o' w w' ∧ Tr o o' (Near.sumM way l) r := by
  have en : nth l 0 = l.headD 0 := by cases l <;> rfl
  rcases hway with rfl | rfl | rfl
  · have hm : Near.sumM 1 l = Near.plainM (nth l 0) l.tail := by rw [en]; rfl
    rw [hm]; clear hm en
    go_enter Try.func24, Try.ntmps24
    go_wp2_with (go_at_call 35; refine (plain_any p g off cap l o w hp hl hn hcap hfl hgood hc).mono ?_; rintro e w' ⟨r, o', rfl, hr, hk, ht⟩)
    go_ret
    exact ⟨r, o', rfl, hr, hk, ht⟩
  · have hm : Near.sumM 2 l = Near.pairsM l.length l := rfl
    rw [hm]; clear hm en
    go_enter Try.func24, Try.ntmps24
    go_wp2_with (go_at_call 33; refine (pairs_any l.length p g off cap l o w (Nat.le_refl _) hp hl hn hcap hfl hgood hc).mono ?_; rintro e w' ⟨r, o', rfl, hr, hk, ht⟩)
    go_ret
    exact ⟨r, o', rfl, hr, hk, ht⟩
  · have hm : Near.sumM 3 l = Near.kahanM (nth l 0) 0 l.tail := by rw [en]; rfl
    rw [hm]; clear hm en
    go_enter Try.func24, Try.ntmps24
    go_wp2_with (go_at_call 34; refine (kahan_any p g off cap l o w hp hl hn hcap hfl hgood hc).mono ?_; rintro e w' ⟨r, o', rfl, hr, hk, ht⟩)
    go_ret
    exact ⟨r, o', rfl, hr, hk, ht⟩

end Go.Proofs.Ytnoccennhgnjnaa

import Derived.Test.YtnoccennhgnjnaaLaw3
namespace Go.Proofs.Ytnoccennhgnjnaa
open Go.RowKit

theorem ans_tuple (m k : Int) (a b : List Nat) : ∃ (s : Nat) (o : Bool) (e : Int), scoreAns m k a b = .tuple #[.int .u32 s, .bool o, .int .i64 e] := by
  unfold scoreAns
  split
  · exact ⟨0, false, 3, rfl⟩
  · split
    · cases scoreS (m == 2) k.toNat a b with
      | none => exact ⟨0, true, 0, rfl⟩
      | some r => exact ⟨r, false, 0, rfl⟩
    · exact ⟨0, false, _, rfl⟩

theorem lent_us {w : World} {B t : Nat} {l : List Nat} (h : w.ownsRow B 25 1 (.slice (some ⟨t, 0, none⟩) (l.length + 8) (l.length + 8)) (l.length + 8) (lentRow l 8)) : Us w (.slice (some ⟨t, 0, none⟩) l.length (l.length + 8)) l := by
  refine ⟨_, _, rfl, fun _ => ⟨t, 0, rfl, fun j hj => ?_⟩⟩
  have := (h.cellAt j (by omega)).trans (lent_at l j (by omega))
  rw [if_pos hj] at this
  rw [Nat.zero_add]; exact this
theorem lent_st {w : World} {t : Nat} {l : List Nat} (h : w.heap[t]? = some (.cells (lentRow l 8).toArray 25 (0, 0))) : StRel l t w 0 w :=
  ⟨_, h, by simpa using lentRow_len l 8 (Nat.le_refl _), fun j _ => by simp, But.refl _ _⟩

theorem us_far {w : World} {ad : Option Addr} {n cap : Nat} {l : List Nat} (h : Us w (.slice ad n cap) l) : ∀ w5, Us w5 (.slice ad n cap) l → 0 < l.length → ∃ g off, ad = some ⟨g, off, none⟩ ∧ Ul w5 g off l ∧ g < w.heap.size := by
  intro w5 h5 h0
  obtain ⟨ad1, c1, e1, h1⟩ := h
  obtain ⟨g, off, e2, hu⟩ := h1 h0
  obtain ⟨ad5, c5, e5, h5⟩ := h5
  obtain ⟨g', off', e6, hu'⟩ := h5 h0
  simp at e1 e5
  obtain ⟨rfl, _⟩ := e1
  obtain ⟨rfl, _⟩ := e5
  rw [e2] at e6
  simp at e6
  obtain ⟨rfl, rfl⟩ := e6
  exact ⟨g, off, e2, hu', hu.lt h0⟩

set_option maxHeartbeats 3200000 in
set_option maxRecDepth 100000 in
theorem scores_any (w : World) (measure way : Int) (ada adb : Option Addr) (capa capb : Nat) (a b : List Nat) (hua : Us w (.slice ada a.length capa) a) (hub : Us w (.slice adb b.length capb) b) (ha : Wd a) (hb : Wd b)
    (ra : a.length * 4 ≤ 140737488351232) (rb : b.length * 4 ≤ 140737488351232) :
    Calls Try.prog 3 #[.int .i64 measure, .int .i64 way, .slice ada a.length capa, .slice adb b.length capb] w fun e w' => e = .returned (.bool true) ∧ Below w.heap.size w w' := by
  obtain ⟨s, o, er, hans⟩ := ans_tuple measure way a b
  have HA := hide hans
  clear hans
  go_enter Try.func3, Try.ntmps3
  go_wp2_with fail
  refine (eleven_any w).mono ?_
  rintro e w1 ⟨rfl, b1⟩
  have ua1 := hua.below b1
  have ub1 := hub.below b1
  go_wp2_with fail
  refine (lent_any w1 _ a ua1 ra).mono ?_
  rintro e w2 ⟨t1, rfl, ht1, o1, b2⟩
  have ub2 := ub1.below b2
  have ua2 := ua1.below b2
  go_wp2_with fail
  refine (lent_any w2 _ b ub2 rb).mono ?_
  rintro e w3 ⟨t2, rfl, ht2, o2, b3⟩
  have k1 := own_block o1
  have k2 := own_block o2
  have lt1 : t1 < w2.heap.size := lt_of_block k1.1
  have q1 : w3.heap[t1]? = some (.cells (lentRow a 8).toArray 25 (0, 0)) := (b3.block t1 lt1).trans k1.1
  have q2 : w3.heap[t2]? = some (.cells (lentRow b 8).toArray 25 (0, 0)) := k2.1
  have lt2 : t2 < w3.heap.size := lt_of_block q2
  have hx : Us w3.drew (.slice (some ⟨t1, 0, none⟩) a.length (a.length + 8)) a := lent_us (block_own (w := w3) (B := 0) q1 k1.2.1 k1.2.2 (Nat.zero_le _))
  have hy : Us w3.drew (.slice (some ⟨t2, 0, none⟩) b.length (b.length + 8)) b := lent_us (block_own (w := w3) (B := 0) q2 k2.2.1 k2.2.2 (Nat.zero_le _))
  have ua3 : Us w3.drew (.slice ada a.length capa) a := ua2.below b3.drew
  have ub3 : Us w3.drew (.slice adb b.length capb) b := ub2.below b3.drew
  have bb3 : Below w.heap.size w w3 := bstep (bstep b1 b2) b3
  have SC := score_any w3.drew measure way _ _ a b hx hy ha hb
  rw [unhide HA] at SC
  have HS := hide SC
  have bs1 := b1.size
  have bs2 := b2.size
  have FA := hide (us_far hua)
  have FB := hide (us_far hub)
  clear SC hx hy k1 k2 o1 o2 b1 b2 b3 hua hub ua1 ub1 ua2 ub2
  go_wp2_with fail
  go_region_with (go_at_call 7; refine (unhide HS).mono ?_; rintro e w4 ⟨rfl, b4⟩)
  all_goals
    have ua4 := ua3.below b4
    have ub4 := ub3.below b4
    have RC := Score_ref w4 measure way _ _ a b ua4 ub4 ha hb (by omega) (by omega)
    rw [unhide HA] at RC
    have HR := hide RC
    have q14 : w4.heap[t1]? = some (.cells (lentRow a 8).toArray 25 (0, 0)) := (b4.block t1 (by show t1 < w3.heap.size; omega)).trans q1
    have q24 : w4.heap[t2]? = some (.cells (lentRow b 8).toArray 25 (0, 0)) := (b4.block t2 lt2).trans q2
    have bb4 : Below w.heap.size w w4 := bb3.drew.trans (b4.mono bb3.size)
    have s34 : w3.heap.size ≤ w4.heap.size := b4.size
    clear RC b4 HS ua3 ub3 q1 q2
    go_wp2_with fail
    refine (unhide HR).mono ?_
    rintro e w5 ⟨rfl, b5⟩
    have ua5 := ua4.below b5
    have ub5 := ub4.below b5
    have q15 := (b5.block t1 (lt_of_block q14)).trans q14
    have q25 := (b5.block t2 (lt_of_block q24)).trans q24
    have bb5 : Below w.heap.size w w5 := bb4.trans (b5.mono bb4.size)
    clear HR b5 ua4 ub4 q14 q24 bb4
    have Ha5 : Hid (0 < a.length → ∃ g off, ada = some ⟨g, off, none⟩ ∧ Ul w5 g off a ∧ g ≠ t1) := fun h0 => by
      obtain ⟨g, off, e, hu, hg⟩ := unhide FA w5 ua5 h0
      exact ⟨g, off, e, hu, by omega⟩
    have Hb5 : Hid (0 < b.length → ∃ g off, adb = some ⟨g, off, none⟩ ∧ Ul w5 g off b ∧ g < w.heap.size) := unhide FB w5 ub5
    clear ua5 ub5
    go_wp2_with fail
    refine (still_any w5 a t1 capa ada (lent_st q15) (unhide Ha5) ra).mono ?_
    rintro e w6 ⟨rfl, k6⟩
    have q26 : w6.heap[t2]? = some (.cells (lentRow b 8).toArray 25 (0, 0)) := (k6.rest t2 (by omega)).trans q25
    have Hb6 : Hid (0 < b.length → ∃ g off, adb = some ⟨g, off, none⟩ ∧ Ul w6 g off b ∧ g ≠ t2) := fun h0 => by
      obtain ⟨g, off, e, hu, hg⟩ := unhide Hb5 h0
      exact ⟨g, off, e, hu.same (k6.rest g (by omega)), by omega⟩
    have bb6 : Below w.heap.size w w6 := bb5.trans (k6.below (by omega))
    go_wp2_with fail
    refine (still_any w6 b t2 capb adb (lent_st q26) (unhide Hb6) rb).mono ?_
    rintro e w7 ⟨rfl, k7⟩
    have bb7 : Below w.heap.size w w7 := bb6.trans (k7.below (by omega))
    clear q15 q25 q26 bb5 bb6 k6 k7
    go_wp2
    go_ret
    exact ⟨rfl, bb7⟩

end Go.Proofs.Ytnoccennhgnjnaa

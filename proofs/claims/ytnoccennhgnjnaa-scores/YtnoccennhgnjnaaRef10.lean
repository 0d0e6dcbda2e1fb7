import Derived.Test.YtnoccennhgnjnaaRef9
namespace Go.Proofs.Ytnoccennhgnjnaa
open Go.RowKit

/-- the document's terms, as far as they go -/
def TermsAns (w' : World) (e : Ending) (m : Option (List Nat)) : Prop :=
  (∃ l v, m = some l ∧ e = .returned (.tuple #[v, .bool true]) ∧ Us w' v l ∧ (∀ ad cap, v = .slice ad l.length cap → l.length ≤ cap) ∧ Good false l) ∨ (m = none ∧ e = .returned (.tuple #[.slice none 0 0, .bool false]))

theorem owns_cap {w : World} {base e n : Nat} {v : Value} {xs : List Value} (h : w.ownsRow base e 1 v n xs) : ∀ ad cap, v = .slice ad n cap → n ≤ cap := by
  intro ad cap e
  rcases h.2 with ⟨rfl, hz⟩ | ⟨g, c, cur, rfl, _, _, hnc, _⟩
  · omega
  · simp at e; omega
theorem owns_below {B e n : Nat} {w wr w2 : World} {v : Value} {xs : List Value} (h : wr.ownsRow B e 1 v n xs) (_hb : Below B w wr) (b2 : Below wr.heap.size wr w2) : w2.ownsRow B e 1 v n xs := by
  obtain ⟨h1, h2⟩ := h
  refine ⟨h1, ?_⟩
  rcases h2 with h2 | ⟨g, cap, cur, hv, hg, hh, r⟩
  · exact Or.inl h2
  · exact Or.inr ⟨g, cap, cur, hv, hg, by rw [b2.block g (lt_of_block hh)]; exact hh, r⟩
theorem termsM_step {sq : Bool} {a b l : List Nat} {k t : Nat} (h1 : k < a.length) (h2 : k < b.length) (h : Near.termsM sq (a.take k) (b.take k) = some l) (ht : Near.termM sq (nth a k) (nth b k) = some t) :
    Near.termsM sq (a.take (k + 1)) (b.take (k + 1)) = some (l ++ [t]) := by
  rw [termsM_snoc sq a b k h1 h2, h, ht]; rfl

set_option maxHeartbeats 3200000 in
theorem terms_ref (w : World) (measure : Int) (va vb : Value) (a b : List Nat) (hua : Us w va a) (hub : Us w vb b) (hl : 0 < a.length) (hn : a.length ≤ 8) (hab : b.length = a.length) (ga : Good false a) (gb : Good false b) :
    Calls Try.prog 28 #[.int .i64 measure, va, vb] w fun e w' => TermsAns w' e (Near.termsM (measure == 2) a b) ∧ Below w.heap.size w w' := by
  obtain ⟨i0, hi, hz0, hz1, hz2⟩ := info_parts Try.info25
  obtain ⟨ada, capa, rfl, hua'⟩ := hua
  obtain ⟨g1, off1, rfl, hu1⟩ := hua' hl
  obtain ⟨adb, capb, rfl, hub'⟩ := hub
  obtain ⟨g2, off2, rfl, hu2⟩ := hub' (by omega)
  have l1 := hu1.lt hl
  have l2 := hu2.lt (by omega)
  have Hab := hide hab
  rw [hab]
  clear hua' hub' hab
  go_enter Try.func28, Try.ntmps28
  go_wp2
  go_loopw [8, 9] (fun u i wr => ∃ l : List Nat, l.length ≤ a.length ∧ i = .int .i64 l.length ∧ Good false l ∧ Hid (Near.termsM (measure == 2) (a.take l.length) (b.take l.length) = some l) ∧ wr.ownsRow w.heap.size 25 1 u l.length (l.map uv) ∧ Below w.heap.size w wr) (fun _ i _ => a.length - (intOf i).toNat)
  case atStart => exact ⟨[], by simp, rfl, fun j hj => absurd hj (by simp), by simp [Hid, Near.termsM], World.ownsRow_nil _ _ _ _, Below.refl _ _⟩
  case round =>
    obtain ⟨l, hk, rfl, hgl, hm, hown, hbel⟩ := hrel
    have hsz := hbel.size
    by_cases hlt : l.length < a.length
    · have hc1 : wr.cell? ⟨g1, off1 + l.length, none⟩ = some (.int .u32 (nth a l.length)) := (hu1.same (hbel.block _ l1)) _ hlt
      have hc2 : wr.cell? ⟨g2, off2 + l.length, none⟩ = some (.int .u32 (nth b l.length)) := (hu2.same (hbel.block _ l2)) _ (by have := unhide Hab; omega)
      have ka := ga _ hlt
      have kb := gb l.length (by have := unhide Hab; omega)
      cases hsq : (measure == 2) with
      | true =>
        have C1 := difference_ref wr (nth a l.length) (nth b l.length) ka.1 kb.1 (ka.2 rfl) (kb.2 rfl)
        cases h1 : Near.fsub (nth a l.length) (nth b l.length) with
        | none =>
          rw [h1, step_none] at C1
          have HC := hide C1
          have HR : Hid (Near.termsM true a b = none) := termsM_none true a b l.length hlt (by have := unhide Hab; omega) (by simp [Near.termM, h1])
          have HQ := hide hsq
          clear C1 h1 hm
          go_wp2_with fail
          refine (unhide HC).mono ?_
          rintro e w2 ⟨rfl, b2⟩
          go_wp2
          go_ret2
          exact ⟨Or.inr ⟨by rw [unhide HQ]; exact unhide HR, rfl⟩, hbel.trans (b2.mono hbel.size)⟩
        | some d =>
          rw [h1, step_some] at C1
          have HC := hide C1
          have ld := Near.fsub_lt h1
          have fd := Near.fsub_fin h1
          have HT : Hid (Near.termM true (nth a l.length) (nth b l.length) = Near.fmul d d) := by rw [Hid]; simp [Near.termM, h1]
          clear C1 h1
          go_wp2_with fail
          refine (unhide HC).mono ?_
          rintro e w2 ⟨rfl, b2⟩
          have hown2 : w2.ownsRow w.heap.size 25 1 _ l.length (l.map uv) := owns_below hown hbel b2
          have bb2 := hbel.trans (b2.mono hbel.size)
          clear hown hc1 hc2 b2
          have C2 := product_ref w2 d d ld ld fd fd
          cases h2 : Near.fmul d d with
          | none =>
            rw [h2, step_none] at C2
            have HC2 := hide C2
            have HR : Hid (Near.termsM true a b = none) := termsM_none true a b l.length hlt (by have := unhide Hab; omega) (by rw [unhide HT, h2])
            have HQ := hide hsq
            clear C2 h2 hm
            go_wp2_with fail
            refine (unhide HC2).mono ?_
            rintro e w3 ⟨rfl, b3⟩
            go_wp2
            go_ret2
            exact ⟨Or.inr ⟨by rw [unhide HQ]; exact unhide HR, rfl⟩, bb2.trans (b3.mono bb2.size)⟩
          | some t =>
            rw [h2, step_some] at C2
            have HC2 := hide C2
            have lt := Near.fmul_lt h2
            have ft := Near.fmul_fin h2
            have HM : Hid (Near.termsM true (a.take (l.length + 1)) (b.take (l.length + 1)) = some (l ++ [t])) := by
              have hm' := unhide hm; rw [hsq] at hm'; exact termsM_step hlt (by have := unhide Hab; omega) hm' (by rw [unhide HT, h2])
            clear C2 h2 hm
            go_wp2_with fail
            refine (unhide HC2).mono ?_
            rintro e w3 ⟨rfl, b3⟩
            have hown3 : w3.ownsRow w.heap.size 25 1 _ l.length (l.map uv) := owns_below hown2 bb2 b3
            have bb3 := bb2.trans (b3.mono bb2.size)
            have hsz3 := bb3.size
            clear hown2 b3
            go_wp2_with (at_builtin; refine wpList_append_own _ rfl _ _ 22 rfl w.heap.size 25 i0 (.int .u32 0) 1 4 Try.underlying22 hi hz0 hz1 hz2 rfl (by decide) _ _ _ rfl (hown3.alloc _) ⟨_, 0, none⟩ 1 1 [.int .u32 (t : Nat)] rfl rfl (cell_one_new _ _ _) (by intro u hu; simp at hu; subst hu; rfl) (by unfold maxLen; omega) (by omega) (by simp; omega) ?_; intro v' wx hown' hgrow _)
            obtain ⟨g9, o9, b9⟩ := row_more (x := t) bb3 hsz3 hgl lt ft hown3 hown' hgrow
            clear hown' hgrow hown3 hgl
            go_roundw
            case rel => exact ⟨l ++ [t], by simp; omega, by simp, g9, by rw [Hid, List.length_append]; exact unhide HM, by simpa using o9, b9⟩
            case measure => simp [intOf]; omega
      | false =>
        have C2 := product_ref wr (nth a l.length) (nth b l.length) ka.1 kb.1 (ka.2 rfl) (kb.2 rfl)
        cases h2 : Near.fmul (nth a l.length) (nth b l.length) with
        | none =>
          rw [h2, step_none] at C2
          have HC2 := hide C2
          have HR : Hid (Near.termsM false a b = none) := termsM_none false a b l.length hlt (by have := unhide Hab; omega) (by simp [Near.termM, h2])
          have HQ := hide hsq
          clear C2 h2 hm
          go_wp2_with fail
          refine (unhide HC2).mono ?_
          rintro e w3 ⟨rfl, b3⟩
          go_wp2
          go_ret2
          exact ⟨Or.inr ⟨by rw [unhide HQ]; exact unhide HR, rfl⟩, hbel.trans (b3.mono hbel.size)⟩
        | some t =>
          rw [h2, step_some] at C2
          have HC2 := hide C2
          have lt := Near.fmul_lt h2
          have ft := Near.fmul_fin h2
          have HM : Hid (Near.termsM false (a.take (l.length + 1)) (b.take (l.length + 1)) = some (l ++ [t])) := by
            have hm' := unhide hm; rw [hsq] at hm'; exact termsM_step hlt (by have := unhide Hab; omega) hm' (by simp [Near.termM, h2])
          clear C2 h2 hm
          go_wp2_with fail
          refine (unhide HC2).mono ?_
          rintro e w3 ⟨rfl, b3⟩
          have hown3 : w3.ownsRow w.heap.size 25 1 _ l.length (l.map uv) := owns_below hown hbel b3
          have bb3 := hbel.trans (b3.mono hbel.size)
          have hsz3 := bb3.size
          clear hown b3 hc1 hc2
          go_wp2_with (at_builtin; refine wpList_append_own _ rfl _ _ 22 rfl w.heap.size 25 i0 (.int .u32 0) 1 4 Try.underlying22 hi hz0 hz1 hz2 rfl (by decide) _ _ _ rfl (hown3.alloc _) ⟨_, 0, none⟩ 1 1 [.int .u32 (t : Nat)] rfl rfl (cell_one_new _ _ _) (by intro u hu; simp at hu; subst hu; rfl) (by unfold maxLen; omega) (by omega) (by simp; omega) ?_; intro v' wx hown' hgrow _)
          obtain ⟨g9, o9, b9⟩ := row_more (x := t) bb3 hsz3 hgl lt ft hown3 hown' hgrow
          clear hown' hgrow hown3 hgl
          go_roundw
          case rel => exact ⟨l ++ [t], by simp; omega, by simp, g9, by rw [Hid, List.length_append]; exact unhide HM, by simpa using o9, b9⟩
          case measure => simp [intOf]; omega
    · have HR : Hid (Near.termsM (measure == 2) a b = some l) := by
        have := unhide hm
        rw [List.take_of_length_le (by omega), List.take_of_length_le (by have := unhide Hab; omega)] at this
        exact this
      have hus := owns_us hown
      have hcap := hide (owns_cap hown)
      clear hm hown
      go_wp2
      go_ret2
      exact ⟨Or.inl ⟨l, _, unhide HR, rfl, hus, unhide hcap, hgl⟩, hbel⟩

end Go.Proofs.Ytnoccennhgnjnaa

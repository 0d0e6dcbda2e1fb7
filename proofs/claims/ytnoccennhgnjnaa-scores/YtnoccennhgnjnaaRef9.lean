import Derived.Test.YtnoccennhgnjnaaRef8
namespace Go.Proofs.Ytnoccennhgnjnaa
open Go.RowKit

set_option maxHeartbeats 1600000 in
theorem kahan_ref (w : World) (v : Value) (l : List Nat) (hu : Us w v l) (hl : 0 < l.length) (hn : l.length ≤ 8) (hg : Good false l) :
    Calls Try.prog 31 #[v] w fun e w' => e = .returned (stepAns (Near.kahanM (nth l 0) 0 l.tail)) ∧ Below w.heap.size w w' := by
  obtain ⟨ad, cap, rfl, hu⟩ := hu
  obtain ⟨g, off, rfl, hul⟩ := hu hl
  have hgl := hul.lt hl
  have h0 : w.cell? ⟨g, off, none⟩ = some (.int .u32 (nth l 0)) := hul 0 hl
  clear hu
  go_enter Try.func31, Try.ntmps31
  go_wp2
  go_loopw [4, 5, 6] (fun s c i wr => ∃ k r q : Nat, k < l.length ∧ i = .int .i64 ((k : Int) + 1) ∧ s = .int .u32 r ∧ c = .int .u32 q ∧ (r < 4294967296 ∧ Near.finB r = true) ∧ (q < 4294967296 ∧ Near.finB q = true) ∧ Hid (Near.kahanM (nth l 0) 0 l.tail = Near.kahanM r q (l.tail.drop k)) ∧ Below w.heap.size w wr) (fun _ _ i _ => l.length + 1 - (intOf i).toNat)
  case atStart => exact ⟨0, nth l 0, 0, hl, rfl, rfl, rfl, ⟨(hg 0 hl).1, (hg 0 hl).2 rfl⟩, ⟨by decide, by decide⟩, rfl, Below.refl _ _⟩
  case round =>
    obtain ⟨k, r, q, hk, rfl, rfl, rfl, ⟨hr, hfr⟩, ⟨hq, hfq⟩, hm, hbel⟩ := hrel
    by_cases hlt : k + 1 < l.length
    · have hcell : wr.cell? ⟨g, off + (k + 1), none⟩ = some (.int .u32 (nth l (k + 1))) := (hul.same (hbel.block _ hgl)) (k + 1) hlt
      have hgk := hg _ hlt
      have hm2 : Hid (Near.kahanM (nth l 0) 0 l.tail = (Near.fsub (nth l (k + 1)) q).bind fun y => (Near.fadd r y).bind fun t => (Near.fsub t r).bind fun d => (Near.fsub d y).bind fun c' => Near.kahanM t c' (l.tail.drop (k + 1))) := by rw [Hid, unhide hm, tail_drop l k hlt]; rfl
      have C1 := difference_ref wr (nth l (k + 1)) q hgk.1 hq (hgk.2 rfl) hfq
      have hki : (k : Int) + 1 < l.length := by omega
      clear hm
      cases h1 : Near.fsub (nth l (k + 1)) q with
      | none =>
        rw [h1, step_none] at C1
        have HC := hide C1
        have HR : Hid (Near.kahanM (nth l 0) 0 l.tail = none) := by rw [Hid, unhide hm2, h1]; rfl
        clear C1 h1 hm2
        go_wp2_with fail
        refine (unhide HC).mono ?_
        rintro e w2 ⟨rfl, b2⟩
        go_wp2
        go_ret2
        exact ⟨by rw [unhide HR]; rfl, hbel.trans (b2.mono hbel.size)⟩
      | some y =>
        rw [h1, step_some] at C1
        have HC := hide C1
        have ly := Near.fsub_lt h1
        have fy := Near.fsub_fin h1
        have hm3 : Hid (Near.kahanM (nth l 0) 0 l.tail = (Near.fadd r y).bind fun t => (Near.fsub t r).bind fun d => (Near.fsub d y).bind fun c' => Near.kahanM t c' (l.tail.drop (k + 1))) := by rw [Hid, unhide hm2, h1]; rfl
        clear C1 h1 hm2
        go_wp2_with fail
        refine (unhide HC).mono ?_
        rintro e w2 ⟨rfl, b2⟩
        have bb2 := hbel.trans (b2.mono hbel.size)
        clear b2 HC hcell
        have C2 := sum_ref w2 r y hr ly hfr fy
        cases h2 : Near.fadd r y with
        | none =>
          rw [h2, step_none] at C2
          have HC := hide C2
          have HR : Hid (Near.kahanM (nth l 0) 0 l.tail = none) := by rw [Hid, unhide hm3, h2]; rfl
          clear C2 h2 hm3
          go_wp2_with fail
          refine (unhide HC).mono ?_
          rintro e w3 ⟨rfl, b3⟩
          go_wp2
          go_ret2
          exact ⟨by rw [unhide HR]; rfl, bb2.trans (b3.mono bb2.size)⟩
        | some t =>
          rw [h2, step_some] at C2
          have HC := hide C2
          have lt := Near.fadd_lt h2
          have ft := Near.fadd_fin h2
          have hm4 : Hid (Near.kahanM (nth l 0) 0 l.tail = (Near.fsub t r).bind fun d => (Near.fsub d y).bind fun c' => Near.kahanM t c' (l.tail.drop (k + 1))) := by rw [Hid, unhide hm3, h2]; rfl
          clear C2 h2 hm3
          go_wp2_with fail
          refine (unhide HC).mono ?_
          rintro e w3 ⟨rfl, b3⟩
          have bb3 := bb2.trans (b3.mono bb2.size)
          clear b3 HC bb2
          have C3 := difference_ref w3 t r lt hr ft hfr
          cases h3 : Near.fsub t r with
          | none =>
            rw [h3, step_none] at C3
            have HC := hide C3
            have HR : Hid (Near.kahanM (nth l 0) 0 l.tail = none) := by rw [Hid, unhide hm4, h3]; rfl
            clear C3 h3 hm4
            go_wp2_with fail
            refine (unhide HC).mono ?_
            rintro e w4 ⟨rfl, b4⟩
            go_wp2
            go_ret2
            exact ⟨by rw [unhide HR]; rfl, bb3.trans (b4.mono bb3.size)⟩
          | some d =>
            rw [h3, step_some] at C3
            have HC := hide C3
            have ld := Near.fsub_lt h3
            have fd := Near.fsub_fin h3
            have hm5 : Hid (Near.kahanM (nth l 0) 0 l.tail = (Near.fsub d y).bind fun c' => Near.kahanM t c' (l.tail.drop (k + 1))) := by rw [Hid, unhide hm4, h3]; rfl
            clear C3 h3 hm4
            go_wp2_with fail
            refine (unhide HC).mono ?_
            rintro e w4 ⟨rfl, b4⟩
            have bb4 := bb3.trans (b4.mono bb3.size)
            clear b4 HC bb3
            have C4 := difference_ref w4 d y ld ly fd fy
            cases h4 : Near.fsub d y with
            | none =>
              rw [h4, step_none] at C4
              have HC := hide C4
              have HR : Hid (Near.kahanM (nth l 0) 0 l.tail = none) := by rw [Hid, unhide hm5, h4]; rfl
              clear C4 h4 hm5
              go_wp2_with fail
              refine (unhide HC).mono ?_
              rintro e w5 ⟨rfl, b5⟩
              go_wp2
              go_ret2
              exact ⟨by rw [unhide HR]; rfl, bb4.trans (b5.mono bb4.size)⟩
            | some c' =>
              rw [h4, step_some] at C4
              have HC := hide C4
              have lc := Near.fsub_lt h4
              have fc := Near.fsub_fin h4
              have hm6 : Hid (Near.kahanM (nth l 0) 0 l.tail = Near.kahanM t c' (l.tail.drop (k + 1))) := by rw [Hid, unhide hm5, h4]; rfl
              clear C4 h4 hm5
              go_wp2_with fail
              refine (unhide HC).mono ?_
              rintro e w5 ⟨rfl, b5⟩
              go_wp2
              go_roundw
              case rel => exact ⟨k + 1, t, c', hlt, by go_num, rfl, rfl, ⟨lt, ft⟩, ⟨lc, fc⟩, hm6, bb4.trans (b5.mono bb4.size)⟩
              case measure => simp [intOf]; omega
    · have HR : Hid (Near.kahanM (nth l 0) 0 l.tail = some r) := by
        rw [Hid, unhide hm, List.drop_eq_nil_of_le (by simp; omega)]; rfl
      have hki : ¬ (k : Int) + 1 < l.length := by omega
      clear hm
      go_wp2
      go_ret2
      exact ⟨by rw [unhide HR]; rfl, hbel⟩

def PairsRef (f : Nat) : Prop := ∀ (w : World) (v : Value) (l : List Nat), l.length ≤ f → Us w v l → (∀ ad cap, v = .slice ad l.length cap → l.length ≤ cap) → 0 < l.length → l.length ≤ 8 → Good false l →
    Calls Try.prog 30 #[v] w fun e w' => e = .returned (stepAns (Near.pairsM f l)) ∧ Below w.heap.size w w'

set_option maxHeartbeats 800000 in
theorem pairs_ref_one (f : Nat) (w : World) (v : Value) (l : List Nat) (hu : Us w v l) (hl : l.length = 1) :
    Calls Try.prog 30 #[v] w fun e w' => e = .returned (stepAns (Near.pairsM (f + 1) l)) ∧ Below w.heap.size w w' := by
  obtain ⟨ad, cap, rfl, hu⟩ := hu
  obtain ⟨g, off, rfl, hul⟩ := hu (by omega)
  have h0 : w.cell? ⟨g, off, none⟩ = some (.int .u32 (nth l 0)) := hul 0 (by omega)
  have e : l = [nth l 0] := by
    match l, hl with
    | [x], _ => rfl
  have HM : Hid (Near.pairsM (f + 1) l = some (nth l 0)) := by rw [Hid, e]; rfl
  clear e hu hul
  go_enter Try.func30, Try.ntmps30
  go_wp2
  go_ret2
  exact ⟨by rw [unhide HM]; rfl, Below.refl _ _⟩

theorem pairsM_split (f : Nat) (l : List Nat) (hl : 2 ≤ l.length) : Near.pairsM (f + 1) l = (Near.pairsM f (l.take ((l.length + 1) / 2))).bind fun a => (Near.pairsM f (l.drop ((l.length + 1) / 2))).bind fun b => Near.fadd a b := by
  match l, hl with
  | a :: b :: t, _ =>
    have : (t.length + 3) / 2 = ((a :: b :: t).length + 1) / 2 := by simp
    rw [Near.pairsM, this]
theorem nth_take (l : List Nat) (h j : Nat) (hj : j < h) : nth (l.take h) j = nth l j := by simp [nth, List.getD_eq_getElem?_getD, hj]
theorem nth_drop (l : List Nat) (h j : Nat) : nth (l.drop h) j = nth l (h + j) := by simp [nth, List.getD_eq_getElem?_getD, List.getElem?_drop]
theorem pairsM_fin {f : Nat} {l : List Nat} {r : Nat} (hg : Good false l) (h : Near.pairsM f l = some r) : r < 4294967296 ∧ Near.finB r = true := by
  match f, l, h with
  | f + 1, [p], h => rw [Near.pairsM] at h; cases h; exact ⟨(hg 0 (by simp)).1, (hg 0 (by simp)).2 rfl⟩
  | f + 1, p :: q :: l, h =>
    rw [Near.pairsM] at h
    obtain ⟨a, _, h⟩ := Option.bind_eq_some_iff.1 h
    obtain ⟨b, _, h⟩ := Option.bind_eq_some_iff.1 h
    exact ⟨Near.fadd_lt h, Near.fadd_fin h⟩

set_option maxHeartbeats 1600000 in
theorem pairs_ref_more (f : Nat) (ih : PairsRef f) (w : World) (g off cap : Nat) (l : List Nat) (hf : l.length ≤ f + 1) (hul : Ul w g off l) (hcap : l.length ≤ cap) (hl : 2 ≤ l.length) (hn : l.length ≤ 8) (hg : Good false l) :
    Calls Try.prog 30 #[.slice (some ⟨g, off, none⟩) l.length cap] w fun e w' => e = .returned (stepAns (Near.pairsM (f + 1) l)) ∧ Below w.heap.size w w' := by
  have hne : ((l.length : Int) == 1) = false := by simp; omega
  have e1 : (l.take ((l.length + 1) / 2)).length = (l.length + 1) / 2 := by simp; omega
  have e2 : (l.drop ((l.length + 1) / 2)).length = l.length - (l.length + 1) / 2 := by simp
  have g1 : Good false (l.take ((l.length + 1) / 2)) := by intro j hj; rw [e1] at hj; rw [nth_take _ _ _ hj]; exact hg j (by omega)
  have g2 : Good false (l.drop ((l.length + 1) / 2)) := by intro j hj; rw [e2] at hj; rw [nth_drop]; exact hg _ (by omega)
  have hgl := hul.lt (by omega)
  have HM := hide (pairsM_split f l hl)
  have C1 : Hid (Calls Try.prog 30 #[.slice (some ⟨g, off, none⟩) ((l.length + 1) / 2) cap] w fun e w' => e = .returned (stepAns (Near.pairsM f (l.take ((l.length + 1) / 2)))) ∧ Below w.heap.size w w') := by
    refine ih w _ (l.take ((l.length + 1) / 2)) (by omega) ⟨some ⟨g, off, none⟩, cap, by rw [e1], fun _ => ⟨g, off, rfl, fun j hj => ?_⟩⟩ (fun ad cap' h => ?_) (by omega) (by omega) g1
    · rw [e1] at hj; rw [nth_take _ _ _ hj]; exact hul j (by omega)
    · simp at h; omega
  have C2 : Hid (∀ W, Below w.heap.size w W → Calls Try.prog 30 #[.slice (some ⟨g, off + (l.length + 1) / 2, none⟩) (l.length - (l.length + 1) / 2) (cap - (l.length + 1) / 2)] W fun e w' => e = .returned (stepAns (Near.pairsM f (l.drop ((l.length + 1) / 2)))) ∧ Below W.heap.size W w') := by
    intro W hb
    refine ih W _ (l.drop ((l.length + 1) / 2)) (by omega) ⟨some ⟨g, off + (l.length + 1) / 2, none⟩, cap - (l.length + 1) / 2, by rw [e2], fun _ => ⟨g, off + (l.length + 1) / 2, rfl, fun j hj => ?_⟩⟩ (fun ad cap' h => ?_) (by omega) (by omega) g2
    · rw [e2] at hj; rw [nth_drop]
      have := (hul.same (hb.block _ hgl)) ((l.length + 1) / 2 + j) (by omega)
      rw [← Nat.add_assoc] at this; exact this
    · simp at h; omega
  have HP1 : Hid (∀ r, Near.pairsM f (l.take ((l.length + 1) / 2)) = some r → r < 4294967296 ∧ Near.finB r = true) := fun r => pairsM_fin g1
  have HP2 : Hid (∀ r, Near.pairsM f (l.drop ((l.length + 1) / 2)) = some r → r < 4294967296 ∧ Near.finB r = true) := fun r => pairsM_fin g2
  clear e1 e2 g1 g2 hul hgl
  generalize Near.pairsM f (l.take ((l.length + 1) / 2)) = m1 at *
  generalize Near.pairsM f (l.drop ((l.length + 1) / 2)) = m2 at *
  cases m1 with
  | none =>
    rw [step_none] at C1
    rw [stepAns_eq] at C2
    have HR : Hid (Near.pairsM (f + 1) l = none) := by rw [Hid, unhide HM]; rfl
    go_enter Try.func30, Try.ntmps30
    go_wp2_with fail
    refine (unhide C1).mono ?_
    rintro e w1 ⟨rfl, b1⟩
    go_wp2_with fail
    refine (unhide C2 w1 b1).mono ?_
    rintro e w2 ⟨rfl, b2⟩
    go_wp2
    go_ret2
    exact ⟨by rw [unhide HR]; rfl, b1.trans (b2.mono b1.size)⟩
  | some x =>
    rw [step_some] at C1
    obtain ⟨lx, fx⟩ := unhide HP1 x rfl
    cases m2 with
    | none =>
      rw [step_none] at C2
      have HR : Hid (Near.pairsM (f + 1) l = none) := by rw [Hid, unhide HM]; rfl
      go_enter Try.func30, Try.ntmps30
      go_wp2_with fail
      refine (unhide C1).mono ?_
      rintro e w1 ⟨rfl, b1⟩
      go_wp2_with fail
      refine (unhide C2 w1 b1).mono ?_
      rintro e w2 ⟨rfl, b2⟩
      go_wp2
      go_ret2
      exact ⟨by rw [unhide HR]; rfl, b1.trans (b2.mono b1.size)⟩
    | some y =>
      rw [step_some] at C2
      obtain ⟨ly, fy⟩ := unhide HP2 y rfl
      have HR : Hid (Near.pairsM (f + 1) l = Near.fadd x y) := by rw [Hid, unhide HM]; rfl
      go_enter Try.func30, Try.ntmps30
      go_wp2_with fail
      refine (unhide C1).mono ?_
      rintro e w1 ⟨rfl, b1⟩
      go_wp2_with fail
      refine (unhide C2 w1 b1).mono ?_
      rintro e w2 ⟨rfl, b2⟩
      have bb := b1.trans (b2.mono b1.size)
      have C3 := sum_ref w2 x y lx ly fx fy
      rw [stepAns_eq] at C3
      have HC := hide C3
      clear C3
      go_wp2_with fail
      refine (unhide HC).mono ?_
      rintro e w3 ⟨rfl, b3⟩
      go_wp2
      go_ret2
      exact ⟨by rw [unhide HR, stepAns_eq]; rfl, bb.trans (b3.mono bb.size)⟩

theorem pairs_ref : ∀ f, PairsRef f
  | 0 => fun _ _ l hf _ _ hl _ _ => absurd hl (by omega)
  | f + 1 => by
    intro w v l hf hu hc hl hn hg
    by_cases h : l.length = 1
    · exact pairs_ref_one f w v l hu h
    · obtain ⟨g, off, cap, rfl, hul⟩ : ∃ g off cap, v = .slice (some ⟨g, off, none⟩) l.length cap ∧ Ul w g off l := by
        obtain ⟨ad, cap, e, h⟩ := hu
        obtain ⟨g, off, e2, hu⟩ := h hl
        exact ⟨g, off, cap, by rw [e, e2], hu⟩
      exact pairs_ref_more f (pairs_ref f) w g off cap l hf hul (hc _ _ rfl) (by omega) hn hg

end Go.Proofs.Ytnoccennhgnjnaa

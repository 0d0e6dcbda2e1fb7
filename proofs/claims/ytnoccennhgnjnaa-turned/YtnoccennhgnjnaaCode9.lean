import Derived.Test.YtnoccennhgnjnaaCode8
namespace Go.Proofs.Ytnoccennhgnjnaa
open Go.RowKit

def scoreS (sq : Bool) (way : Nat) (a b : List Nat) : Option Nat := (Near.termsM sq a b).bind (Near.sumM way)

theorem Us.same {w w' : World} {v : Value} {l : List Nat} (h : Us w v l) (k : ∀ g, g < w.heap.size → w'.heap[g]? = w.heap[g]?) : Us w' v l := by
  obtain ⟨ad, cap, e, h⟩ := h
  refine ⟨ad, cap, e, fun hl => ?_⟩
  obtain ⟨g, off, e2, hu⟩ := h hl
  exact ⟨g, off, e2, hu.same (k g (hu.lt hl))⟩

theorem Below.ofWq {p : Nat} {o : Bool} {w w' : World} {ob : Obj} (h : Wq p o (w.alloc ob) w') (hp : w.heap.size ≤ p) : Below w.heap.size w w' :=
  ⟨h.os, h.tape, h.output, by have := h.size; simp at this; omega, fun k hk => (h.rest k (by simp; omega) (by omega)).trans (Below.heap_alloc _ _ _ hk)⟩

def resOf (m : Option Nat) : Value := match m with | none => .tuple #[.int .u32 0, .bool true] | some r => .tuple #[.int .u32 r, .bool false]

set_option maxHeartbeats 800000 in
theorem of_any (w : World) (measure : Int) (way : Nat) (va vb : Value) (a b : List Nat) (hway : way = 1 ∨ way = 2 ∨ way = 3) (hl : 0 < a.length) (hn : a.length ≤ 8) (hab : b.length = a.length)
    (hua : Us w va a) (hub : Us w vb b) (ga1 : Good false a) (gb1 : Good false b) :
    Calls Try.prog 17 #[.int .i64 measure, .int .i64 way, va, vb] w fun e w' => e = .returned (resOf (scoreS (measure == 2) way a b)) ∧ Below w.heap.size w w' := by
  obtain ⟨ada, capa, rfl, hua'⟩ := hua
  obtain ⟨ga, offa, rfl, hua⟩ := hua' hl
  obtain ⟨adb, capb, rfl, hub'⟩ := hub
  obtain ⟨gb, offb, rfl, hub⟩ := hub' (by omega)
  clear hua' hub'
  have la := hua.lt hl
  have lb := hub.lt (by omega)
  rw [hab]
  have hf25 := Try.f32bits
  go_enter Try.func17, Try.ntmps17
  go_wp2_with fail
  refine (terms_any w.heap.size a b measure ga offa capa gb offb capb _ hl hn hab (by omega) (by omega) ?_ ?_ ga1 gb1 ?_).mono ?_
  · exact hua.same (Below.heap_alloc _ _ _ la)
  · exact hub.same (Below.heap_alloc _ _ _ lb)
  · exact heap_alloc_new _ _
  rintro e w1 ⟨t, rfl, ht, hR⟩
  obtain ⟨o, l, hll, hq, hg, hfl, h0, h1⟩ := hR.done hab
  simp only [World.size_alloc] at ht
  have H0 := hide h0
  have H1 := hide h1
  clear h0 h1 hR
  have htp : t ≠ w.heap.size := by omega
  have hs := sumUp_any w.heap.size t 0 l.length l way o w1 hway htp (by omega) (by omega) (Nat.le_refl _) hfl hg hq.flag
  rw [hll] at hs
  have HS := hide hs
  clear hs hll
  go_wp2_with fail
  refine (unhide HS).mono ?_
  rintro e w2 ⟨r, o2, rfl, hr, hk2, tr⟩
  have hcell : w2.cell? ⟨w.heap.size, 0, none⟩ = some (.bool o2) := cell_of_one hk2.flag
  have hB : Below w.heap.size w w2 := Below.ofWq (hq.wk hk2) (Nat.le_refl _)
  cases o2 with
  | true =>
    have hs : scoreS (measure == 2) way a b = none := by
      unfold scoreS
      cases ho : o with
      | true => rw [unhide H1 ho]; rfl
      | false =>
        rw [unhide H0 ho]
        rcases tr.2 ho with ⟨_, d⟩ | ⟨c, _⟩
        · exact d
        · cases c
    have HZ := hide hs
    clear hs
    go_wp2
    go_ret2
    exact ⟨by rw [unhide HZ]; rfl, hB⟩
  | false =>
    have ho := tr.down rfl
    have hs : scoreS (measure == 2) way a b = some r := by
      unfold scoreS
      rw [unhide H0 ho]
      rcases tr.2 ho with ⟨c, _⟩ | ⟨_, d, _⟩
      · cases c
      · exact d
    have HZ := hide hs
    clear hs
    go_wp2
    go_ret2
    exact ⟨by rw [unhide HZ]; rfl, hB⟩

def kindB (m : Int) : Bool := m == 1 || m == 2 || m == 3

set_option maxHeartbeats 400000 in
theorem measure_any (m : Int) (w : World) : Calls Try.prog 14 #[.int .i64 m] w fun e w' => e = .returned (.bool (kindB m)) ∧ w' = w := by
  by_cases h1 : m = 1
  · subst h1
    go_enter Try.func14, Try.ntmps14
    go_wp2
    go_ret
    exact ⟨rfl, rfl⟩
  · have b1 : (m == 1) = false := by simpa using h1
    by_cases h2 : m = 2
    · subst h2
      go_enter Try.func14, Try.ntmps14
      go_wp2
      go_ret
      exact ⟨rfl, rfl⟩
    · have b2 : (m == 2) = false := by simpa using h2
      have hk : kindB m = (m == 3) := by simp [kindB, b1, b2]
      rw [hk]
      clear hk h1 h2
      go_enter Try.func14, Try.ntmps14
      go_wp2
      go_ret
      exact ⟨rfl, rfl⟩

set_option maxHeartbeats 400000 in
theorem way_any (m : Int) (w : World) : Calls Try.prog 15 #[.int .i64 m] w fun e w' => e = .returned (.bool (kindB m)) ∧ w' = w := by
  by_cases h1 : m = 1
  · subst h1
    go_enter Try.func15, Try.ntmps15
    go_wp2
    go_ret
    exact ⟨rfl, rfl⟩
  · have b1 : (m == 1) = false := by simpa using h1
    by_cases h2 : m = 2
    · subst h2
      go_enter Try.func15, Try.ntmps15
      go_wp2
      go_ret
      exact ⟨rfl, rfl⟩
    · have b2 : (m == 2) = false := by simpa using h2
      have hk : kindB m = (m == 3) := by simp [kindB, b1, b2]
      rw [hk]
      clear hk h1 h2
      go_enter Try.func15, Try.ntmps15
      go_wp2
      go_ret
      exact ⟨rfl, rfl⟩

/-- WHAT Score ANSWERS -/
def ansOf (m : Option Nat) : Value := match m with | none => .tuple #[.int .u32 0, .bool true, .int .i64 0] | some r => .tuple #[.int .u32 r, .bool false, .int .i64 0]
def scoreAns (measure way : Int) (a b : List Nat) : Value :=
  if !kindB measure || !kindB way then .tuple #[.int .u32 0, .bool false, .int .i64 3]
  else if vecErr a [b] = 0 then ansOf (scoreS (measure == 2) way.toNat a b) else .tuple #[.int .u32 0, .bool false, .int .i64 (vecErr a [b])]

theorem kind_way {way : Int} (h : kindB way = true) : ∃ n : Nat, way = n ∧ (n = 1 ∨ n = 2 ∨ n = 3) := by
  simp only [kindB, Bool.or_eq_true, beq_iff_eq] at h
  rcases h with (h | h) | h
  · exact ⟨1, h, by simp⟩
  · exact ⟨2, h, by simp⟩
  · exact ⟨3, h, by simp⟩

theorem vecErr_ok {a b : List Nat} (h : vecErr a [b] = 0) (ha : Wd a) (hb : Wd b) : 0 < a.length ∧ a.length ≤ 8 ∧ b.length = a.length ∧ Good false a ∧ Good false b := by
  unfold vecErr at h
  split at h
  · cases h
  · split at h
    · rename_i h1 h2
      split at h
      · rename_i h3
        simp only [List.all_cons, List.all_nil, Bool.and_true, decide_eq_true_eq] at h2
        simp only [List.all_cons, List.all_nil, Bool.and_true, Bool.and_eq_true] at h3
        exact ⟨by omega, by omega, h2, fun j hj => ⟨ha j hj, fun _ => (allFin_iff a).1 h3.1 j hj⟩, fun j hj => ⟨hb j hj, fun _ => (allFin_iff b).1 h3.2 j hj⟩⟩
      · cases h
    · cases h

set_option maxHeartbeats 800000 in
theorem score_any (w : World) (measure way : Int) (va vb : Value) (a b : List Nat) (hua : Us w va a) (hub : Us w vb b) (ha : Wd a) (hb : Wd b) :
    Calls Try.prog 7 #[.int .i64 measure, .int .i64 way, va, vb] w fun e w' => e = .returned (scoreAns measure way a b) ∧ Below w.heap.size w w' := by
  cases hm : kindB measure with
  | false =>
    have HZ : Hid (scoreAns measure way a b = .tuple #[.int .u32 0, .bool false, .int .i64 3]) := by unfold scoreAns; simp [hm, Hid]
    go_enter Try.func7, Try.ntmps7
    go_wp2_with (go_at_call 14; refine (measure_any _ _).mono ?_; rintro e w' ⟨rfl, rfl⟩)
    go_ret3
    exact ⟨by rw [unhide HZ]; rfl, Below.refl _ _⟩
  | true =>
    cases hw : kindB way with
    | false =>
      have HZ : Hid (scoreAns measure way a b = .tuple #[.int .u32 0, .bool false, .int .i64 3]) := by unfold scoreAns; simp [hm, hw, Hid]
      go_enter Try.func7, Try.ntmps7
      go_wp2_with (first | (go_at_call 14; refine (measure_any _ _).mono ?_; rintro e w' ⟨rfl, rfl⟩) | (go_at_call 15; refine (way_any _ _).mono ?_; rintro e w' ⟨rfl, rfl⟩))
      go_ret3
      exact ⟨by rw [unhide HZ]; rfl, Below.refl _ _⟩
    | true =>
      have hua1 : Us (w.alloc (.cells #[vb] 22)) va a := hua.same fun g hg => Below.heap_alloc _ _ _ hg
      have hub1 : Us (w.alloc (.cells #[vb] 22)) vb b := hub.same fun g hg => Below.heap_alloc _ _ _ hg
      have VC : Hid (Calls Try.prog 16 #[va, .slice (some ⟨w.heap.size, 0, none⟩) 1 1] (w.alloc (.cells #[vb] 22)) fun e w' => e = .returned (.int .i64 (vecErr a [b])) ∧ w' = w.alloc (.cells #[vb] 22)) := by
        refine vectors_any (w.alloc (.cells #[vb] 22)) va a w.heap.size [b] hua1 ha ?_ (by simp)
        intro j hj
        have hj0 : j = 0 := by simpa using hj
        subst hj0
        exact ⟨⟨vb, cell_of_one (heap_alloc_new _ _), hub1⟩, hb⟩
      by_cases hv : vecErr a [b] = 0
      · obtain ⟨hl, hn, hab, g1, g2⟩ := vecErr_ok hv ha hb
        obtain ⟨nway, rfl, hnw⟩ := kind_way hw
        have OC := of_any (w.alloc (.cells #[vb] 22)) measure nway va vb a b hnw hl hn hab hua1 hub1 g1 g2
        have HZ : Hid (scoreAns measure nway a b = ansOf (scoreS (measure == 2) nway a b)) := by unfold scoreAns; simp [hm, hw, hv, Hid]
        have bv : (vecErr a [b] != 0) = false := by simpa using hv
        obtain ⟨ada, capa, rfl, _⟩ := hua
        obtain ⟨adb, capb, rfl, _⟩ := hub
        clear hv hua1 hub1 g1 g2 hab
        cases hs : scoreS (measure == 2) nway a b with
        | none =>
          rw [hs] at HZ OC
          have HO := hide OC
          clear OC hs
          go_enter Try.func7, Try.ntmps7
          go_wp2_with (first | (go_at_call 14; refine (measure_any _ _).mono ?_; rintro e w' ⟨rfl, rfl⟩) | (go_at_call 15; refine (way_any _ _).mono ?_; rintro e w' ⟨rfl, rfl⟩))
          refine (unhide VC).mono ?_
          rintro e w2 ⟨rfl, rfl⟩
          go_wp2_with fail
          refine (unhide HO).mono ?_
          rintro e w3 ⟨rfl, hB⟩
          unfold resOf
          go_wp2
          go_ret3
          exact ⟨by rw [unhide HZ]; rfl, ((Below.refl _ _).alloc (Nat.le_refl _) _).trans (hB.mono (by simp))⟩
        | some r =>
          rw [hs] at HZ OC
          have HO := hide OC
          clear OC hs
          go_enter Try.func7, Try.ntmps7
          go_wp2_with (first | (go_at_call 14; refine (measure_any _ _).mono ?_; rintro e w' ⟨rfl, rfl⟩) | (go_at_call 15; refine (way_any _ _).mono ?_; rintro e w' ⟨rfl, rfl⟩))
          refine (unhide VC).mono ?_
          rintro e w2 ⟨rfl, rfl⟩
          go_wp2_with fail
          refine (unhide HO).mono ?_
          rintro e w3 ⟨rfl, hB⟩
          unfold resOf
          go_wp2
          go_ret3
          exact ⟨by rw [unhide HZ]; rfl, ((Below.refl _ _).alloc (Nat.le_refl _) _).trans (hB.mono (by simp))⟩
      · have HZ : Hid (scoreAns measure way a b = .tuple #[.int .u32 0, .bool false, .int .i64 (vecErr a [b])]) := by unfold scoreAns; simp [hm, hw, hv, Hid]
        have bv : (vecErr a [b] != 0) = true := by simpa using hv
        obtain ⟨ada, capa, rfl, _⟩ := hua
        obtain ⟨adb, capb, rfl, _⟩ := hub
        clear hv hua1 hub1
        go_enter Try.func7, Try.ntmps7
        go_wp2_with (first | (go_at_call 14; refine (measure_any _ _).mono ?_; rintro e w' ⟨rfl, rfl⟩) | (go_at_call 15; refine (way_any _ _).mono ?_; rintro e w' ⟨rfl, rfl⟩))
        refine (unhide VC).mono ?_
        rintro e w2 ⟨rfl, rfl⟩
        go_wp2
        go_ret3
        exact ⟨by rw [unhide HZ]; rfl, (Below.refl _ _).alloc (Nat.le_refl _) _⟩

end Go.Proofs.Ytnoccennhgnjnaa

import Derived.Test.YtnoccennhgnjnaaTurned1
namespace Go.Proofs.Ytnoccennhgnjnaa
open Go.RowKit

theorem Us.open {w : World} {v : Value} {l : List Nat} (h : Us w v l) (hl : 0 < l.length) : ∃ g off cap, v = .slice (some ⟨g, off, none⟩) l.length cap ∧ Ul w g off l := by
  obtain ⟨ad, cap, e, h⟩ := h
  obtain ⟨g, off, e2, hu⟩ := h hl
  exact ⟨g, off, cap, by rw [e, e2], hu⟩
theorem Us.below {w w' : World} {v : Value} {l : List Nat} (h : Us w v l) (k : Below w.heap.size w w') : Us w' v l := h.same k.block

theorem same_score {m : Option Nat} {s t : Nat} {o o' : Bool} (h : m = if o then none else some s) (h' : m = if o' then none else some t) (hz : o = true → s = 0) (hz' : o' = true → t = 0) : t = s ∧ o' = o := by
  cases o <;> cases o'
  · rw [h] at h'; simp at h'; exact ⟨h'.symm, rfl⟩
  · rw [h] at h'; simp at h'
  · rw [h] at h'; simp at h'
  · exact ⟨by rw [hz rfl, hz' rfl], rfl⟩

theorem row_flip {B : Nat} {w wr w1 : World} {o : Obj} {v v' : Value} {a : List Nat} {k : Nat} (hbel : Below B w wr) (hB : B ≤ wr.heap.size) (hlt : k < a.length)
    (hown : wr.ownsRow B 25 1 v k (((a.take k).map Near.flip).map uv)) (hown' : w1.ownsRow B 25 1 v' (k + 1) (((a.take k).map Near.flip).map uv ++ [.int .u32 (Near.flip (nth a k) : Nat)])) (hgrow : (wr.alloc o).grownBy w1 v.ownBlock) :
    w1.ownsRow B 25 1 v' (k + 1) (((a.take (k + 1)).map Near.flip).map uv) ∧ Below B w w1 := by
  refine ⟨?_, ?_⟩
  · rw [List.take_succ_eq_append_getElem hlt, List.map_append, List.map_append]
    have e : nth a k = a[k] := by simp [nth, hlt]
    rw [e] at hown'
    exact hown'
  · refine (hbel.alloc hB o).grown hgrow (by simp; omega) fun k hk => ?_
    rcases hown.2 with ⟨rfl, _⟩ | ⟨g, cap, cur, rfl, hg', _⟩
    · simp [Value.ownBlock] at hk
    · simp [Value.ownBlock] at hk; omega

theorem nth_map (f : Nat → Nat) (l : List Nat) (j : Nat) (h : j < l.length) : nth (l.map f) j = f (nth l j) := by simp [nth, h]
theorem good_flip {a : List Nat} (h : Good false a) : Good false (a.map Near.flip) := by
  intro j hj
  rw [List.length_map] at hj
  rw [nth_map _ _ _ hj]
  exact ⟨flip_lt _, fun _ => Near.flip_fin ((h j hj).2 rfl)⟩

/-- the last test of Turned -/
theorem turned_end {a b : List Nat} {way : Nat} {u v : Nat} {more much : Bool} (ga : Good false a) (gb : Good false b) (hu : scoreS false way (a.map Near.flip) b = if more then none else some u) (hv : scoreS false way a b = if much then none else some v)
    (hmz : more = true → u = 0) (hvz : much = true → v = 0) : much = more ∧ ((((u : Int) == (Near.flip v : Nat)) = true ∨ ((u % 2147483648 == 0) = true ∧ (v % 2147483648 == 0) = true)) ∧ v < 4294967296) := by
  have h := score_flip way ga gb
  rw [hu, hv] at h
  cases more <;> cases much
  · have hu' : u < 4294967296 := score_lt hu
    have hv' : v < 4294967296 := score_lt hv
    refine ⟨rfl, ?_, hv'⟩
    rcases opp_xor hu' h.1 with e | ⟨e1, e2⟩
    · left; rw [e]; simp
    · right; exact ⟨by simpa using e1, by simpa using e2⟩
  · exact h.elim
  · exact h.elim
  · refine ⟨rfl, Or.inr ?_, ?_⟩
    · rw [hmz rfl, hvz rfl]; exact ⟨by decide, by decide⟩
    · rw [hvz rfl]; decide

theorem bstep {a b c : World} (h : Below a.heap.size a b) (k : Below b.heap.size b c) : Below a.heap.size a c := h.trans (k.mono h.size)
theorem turned_below {a b c d e f g h i : World} (b1 : Below a.heap.size a b) (b2 : Below b.heap.size b c) (b3 : Below c.heap.size c d) (b4 : Below d.heap.size d e) (b5 : Below e.heap.size e f) (b6 : Below f.heap.size f g) (b7 : Below g.heap.size g h)
    (b8 : Below h.heap.size h i) : Below a.heap.size a i := bstep (bstep (bstep (bstep (bstep (bstep (bstep b1 b2) b3) b4) b5) b6) b7) b8

theorem us_one (w : World) (x : Nat) : Us (w.alloc (.cells #[.int .u32 x] 25)) (.slice (some ⟨w.heap.size, 0, none⟩) 1 1) [x] :=
  ⟨_, _, rfl, fun _ => ⟨w.heap.size, 0, rfl, fun j hj => by
    have : j = 0 := by simpa using hj
    subst this
    exact cell_of_one (heap_alloc_new _ _)⟩⟩
theorem good_one {x : Nat} (hx : x < 4294967296) (hf : Near.finB x = true) : Good false [x] := fun j hj => by
  have : j = 0 := by simpa using hj
  subst this
  exact ⟨hx, fun _ => hf⟩
theorem score_35 : ∀ n : Nat, n = 1 ∨ n = 2 ∨ n = 3 → scoreS false n [0x40400000] [0x40a00000] = some 0x41700000 := by
  rintro n (rfl | rfl | rfl) <;> decide +kernel

theorem score35 (W : World) (way : Int) (h1 : 1 ≤ way) (h3 : way ≤ 3) :
    Calls Try.prog 7 #[.int .i64 1, .int .i64 way, .slice (some ⟨W.heap.size, 0, none⟩) 1 1, .slice (some ⟨W.heap.size + 1, 0, none⟩) 1 1] ((W.alloc (.cells #[.int .u32 1077936128] 25)).alloc (.cells #[.int .u32 1084227584] 25)) fun e w' =>
      e = .returned (.tuple #[.int .u32 0x41700000, .bool false, .int .i64 0]) ∧ Below W.heap.size W w' := by
  have u1 : Us ((W.alloc (.cells #[.int .u32 1077936128] 25)).alloc (.cells #[.int .u32 1084227584] 25)) (.slice (some ⟨W.heap.size, 0, none⟩) 1 1) [1077936128] :=
    (us_one W 1077936128).same fun g hg => Below.heap_alloc _ _ _ hg
  have u2 : Us ((W.alloc (.cells #[.int .u32 1077936128] 25)).alloc (.cells #[.int .u32 1084227584] 25)) (.slice (some ⟨W.heap.size + 1, 0, none⟩) 1 1) [1084227584] := by
    have := us_one (W.alloc (.cells #[.int .u32 1077936128] 25)) 1084227584
    simp only [World.size_alloc] at this
    exact this
  refine (score_good _ 1 way _ _ [1077936128] [1084227584] (by decide) ⟨h1, h3⟩ u1 u2 (by decide) (by decide) rfl (good_one (by decide) (by decide)) (good_one (by decide) (by decide))).mono ?_
  rintro e w' ⟨⟨s, over, rfl, hs, _⟩, hb⟩
  have hn : way.toNat = 1 ∨ way.toNat = 2 ∨ way.toNat = 3 := by omega
  have hv := score_35 way.toNat hn
  have e : (((1 : Int) == 2)) = false := by decide
  rw [e, hv] at hs
  cases over with
  | true => cases hs
  | false =>
    cases hs
    refine ⟨rfl, ?_⟩
    exact (((Below.refl _ W).alloc (Nat.le_refl _) _).alloc (by simp) _).trans (hb.mono (by simp; omega))

set_option maxHeartbeats 4000000 in
set_option maxRecDepth 100000 in
theorem turned_any (w : World) (measure way dim : Int) (va vb : Value) (ra rb : List Nat) (hm : -9223372036854775808 ≤ measure ∧ measure ≤ 9223372036854775807) (hw : -9223372036854775808 ≤ way ∧ way ≤ 9223372036854775807)
    (hd : -9223372036854775808 ≤ dim ∧ dim ≤ 9223372036854775807) (hua : Us w va ra) (hub : Us w vb rb) (hwa : Wd ra) (hwb : Wd rb) (hra : ra.length ≤ 9223372036854775807) (hrb : rb.length ≤ 9223372036854775807) :
    Calls Try.prog 4 #[.int .i64 measure, .int .i64 way, .int .i64 dim, va, vb] w fun e w' => e = .returned (.bool true) ∧ Below w.heap.size w w' := by
  have Hm := hide hm
  have Hw := hide hw
  have Hd := hide hd
  clear hm hw hd
  go_enter Try.func4, Try.ntmps4
  go_wp2_with fail
  refine (pick_any measure 3 (by decide) (by decide) (unhide Hm) _).mono ?_
  rintro e w0 ⟨⟨r1, ⟨r1a, r1b⟩, rfl⟩, rfl⟩
  go_wp2_with fail
  refine (pick_any way 3 (by decide) (by decide) (unhide Hw) _).mono ?_
  rintro e w0 ⟨⟨r2, ⟨r2a, r2b⟩, rfl⟩, rfl⟩
  go_wp2_with fail
  refine (pick_any dim 8 (by decide) (by decide) (unhide Hd) _).mono ?_
  rintro e w0 ⟨⟨r3, ⟨r3a, r3b⟩, rfl⟩, rfl⟩
  go_wp2_with fail
  refine (vector_int _ va ra (1 + r3) hua hwa (by omega) (by omega) hra).mono ?_
  rintro e w1 ⟨v1, a, rfl, hla, ga, ua, b1⟩
  have hub1 := hub.below b1
  have a1 : 0 < a.length := by omega
  have a8 : a.length ≤ 8 := by omega
  have la : (1 : Int) + r3 ≤ a.length := by omega
  have la' : (a.length : Int) ≤ 1 + r3 := by omega
  clear hla hua hub
  go_wp2_with fail
  refine (vector_int _ vb rb (1 + r3) hub1 hwb (by omega) (by omega) hrb).mono ?_
  rintro e w2 ⟨v2, b, rfl, hlb, gb, ub, b2⟩
  have ua2 := ua.below b2
  have HB : Hid (b.length = a.length) := by rw [Hid]; omega
  clear hlb hub1 ua
  obtain ⟨g1, off1, cap1, rfl, ul⟩ := ua2.open a1
  go_wp2_with fail
  refine (score_good _ (1 + r1) (1 + r2) _ _ a b (by omega) (by omega) ua2 ub a1 a8 (unhide HB) ga gb).mono ?_
  rintro e w3 ⟨⟨s, over, rfl, hs, hz⟩, b3⟩
  have ua3 := ua2.below b3
  have ub3 := ub.below b3
  have Hs := hide hs
  have Hz := hide hz
  clear hs hz ua2 ub
  go_wp2_with fail
  refine (score_good _ (1 + r1) (1 + r2) _ _ b a (by omega) (by omega) ub3 ua3 (by have := unhide HB; omega) (by have := unhide HB; omega) (unhide HB).symm gb ga).mono ?_
  rintro e w4 ⟨⟨t, out, rfl, hs2, hz2⟩, b4⟩
  rw [← score_turn _ _ ga gb] at hs2
  obtain ⟨e1, e2⟩ := same_score (unhide Hs) hs2 (unhide Hz) hz2
  subst e1
  subst e2
  have ua4 := ua3.below b4
  have ub4 := ub3.below b4
  clear hs2 hz2 ua3 ub3
  have hfirst : out = false ∨ (out = true ∧ t = 0) := by
    cases ho : out with
    | false => exact Or.inl rfl
    | true => exact Or.inr ⟨rfl, unhide Hz ho⟩
  obtain ⟨i0, hi, hz0, hz1, hz2⟩ := info_parts Try.info25
  have ul4 : Ul w4 g1 off1 a := ((ul.same (b3.block _ (ul.lt a1))).same (b4.block _ (by have := ul.lt a1; have := b3.size; omega)))
  have gl4 : g1 < w4.heap.size := ul4.lt a1
  clear Hs Hz ul
  rcases hfirst with rfl | ⟨rfl, rfl⟩
  all_goals
    go_wp2
    go_loopw [22, 23] (fun v i wr => ∃ k : Nat, k ≤ a.length ∧ i = .int .i64 k ∧ wr.ownsRow w4.heap.size 25 1 v k (((a.take k).map Near.flip).map uv) ∧ Below w4.heap.size w4 wr) (fun _ i _ => a.length - (intOf i).toNat)
    case atStart => exact ⟨0, by omega, rfl, by simpa using World.ownsRow_nil _ _ _ _, Below.refl _ _⟩
    case round =>
      obtain ⟨k, hk, rfl, hown, hbel⟩ := hrel
      have hsz := hbel.size
      by_cases hlt : k < a.length
      · have hcell : wr.cell? ⟨g1, off1 + k, none⟩ = some (.int .u32 (nth a k)) := (ul4.same (hbel.block _ gl4)) k hlt
        have hxb := xor_bits (nth a k) (ga k hlt).1
        have hki : (k : Int) < 1 + r3 := by omega
        go_wp2_with (at_builtin; refine wpList_append_own _ rfl _ _ 22 rfl w4.heap.size 25 i0 (.int .u32 0) 1 4 Try.underlying22 hi hz0 hz1 hz2 rfl (by decide) _ _ _ rfl (hown.alloc _) ⟨_, 0, none⟩ 1 1 [.int .u32 (Near.flip (nth a k) : Nat)] rfl rfl (cell_one_new _ _ _) (by intro u hu; simp at hu; subst hu; rfl) (by unfold maxLen; omega) (by omega) (by simp; omega) ?_; intro v' wx hown' hgrow _)
        obtain ⟨o2, bl2⟩ := row_flip hbel hsz hlt hown hown' hgrow
        clear hown' hgrow hown
        go_roundw
        case rel => exact ⟨k + 1, by omega, by go_num, o2, bl2⟩
        case measure => simp [intOf]; omega
      · have hke : k = a.length := by omega
        subst hke
        rw [List.take_of_length_le (Nat.le_refl _)] at hown
        have uc : Us wr _ (a.map Near.flip) := owns_us (by rw [List.length_map]; exact hown)
        have ua5 := ua4.below hbel
        have ub5 := ub4.below hbel
        have gc : Good false (a.map Near.flip) := good_flip ga
        have Hl : Hid ((a.map Near.flip).length = a.length) := List.length_map _
        clear hown ul4 ua4 ub4
        go_wp2_with fail
        refine (score_good _ 1 (1 + r2) _ _ (a.map Near.flip) b (by decide) (by omega) uc ub5 (by rw [unhide Hl]; exact a1) (by rw [unhide Hl]; exact a8) (by rw [unhide Hl]; exact unhide HB) gc gb).mono ?_
        rintro e w5 ⟨⟨u, more, rfl, hu, hmz⟩, b5⟩
        have Hu := hide hu
        have Hmz := hide hmz
        have ua6 := ua5.below b5
        have ub6 := ub5.below b5
        clear hu hmz ua5 ub5 uc
        go_wp2_with fail
        refine (score_good _ 1 (1 + r2) _ _ a b (by decide) (by omega) ua6 ub6 a1 a8 (unhide HB) ga gb).mono ?_
        rintro e w6 ⟨⟨v, much, rfl, hv, hvz⟩, b6⟩
        obtain ⟨hmm, hend⟩ := turned_end ga gb (unhide Hu) hv (unhide Hmz) hvz
        subst hmm
        have He := hide hend
        clear hv hvz hend Hu Hmz ua6 ub6
        go_wp2_with fail
        refine (nought_any u _).mono ?_
        rintro e w7 ⟨rfl, rfl⟩
        go_wp2_with fail
        refine (nought_any v _).mono ?_
        rintro e w7 ⟨rfl, rfl⟩
        go_wp2_with fail
        refine (whole3 _).mono ?_
        rintro e w7 ⟨rfl, rfl⟩
        go_wp2_with fail
        refine (whole5 _).mono ?_
        rintro e w8 ⟨rfl, rfl⟩
        go_wp2_with fail
        refine (score35 _ (1 + r2) (by omega) (by omega)).mono ?_
        rintro e w8 ⟨rfl, b8⟩
        go_wp2_with fail
        refine (whole15 _).mono ?_
        rintro e w9 ⟨rfl, rfl⟩
        have hxv := xor_bits v (unhide He).2
        have hz9 := turned_below b1 b2 b3 b4 hbel b5 b6 b8
        have Hz9 := hide hz9
        clear hz9 b1 b2 b3 b4 hbel b5 b6 b8 ga gb gc
        rcases (unhide He).1 with hy | ⟨hy1, hy2⟩
        · clear He
          go_wp2
          go_ret
          exact ⟨rfl, unhide Hz9⟩
        · clear He
          cases hy : ((u : Int) == (Near.flip v : Nat)) with
          | true =>
            go_wp2
            go_ret
            exact ⟨rfl, unhide Hz9⟩
          | false =>
            go_wp2
            go_ret
            exact ⟨rfl, unhide Hz9⟩

end Go.Proofs.Ytnoccennhgnjnaa

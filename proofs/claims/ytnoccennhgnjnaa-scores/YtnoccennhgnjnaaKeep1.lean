import Derived.Test.YtnoccennhgnjnaaCode9
namespace Go.Proofs.Ytnoccennhgnjnaa
open Go.RowKit

theorem Try.info25 : (Try.prog.info? 25).map (fun i => (i.zero, i.size, i.bytes)) = some (some (.int .u32 0), 1, 4) := by kernel_rfl

theorem ret_int {k : IntKind} {a b : Int} (h : a = b) : Ending.returned (.int k a) = .returned (.int k b) := by rw [h]
theorem ret_bool {a b : Bool} (h : a = b) : Ending.returned (.bool a) = .returned (.bool b) := by rw [h]

set_option maxHeartbeats 400000 in
theorem pick_any (c n : Int) (hn : 0 < n) (hn2 : n ≤ 100000) (hc : -9223372036854775808 ≤ c ∧ c ≤ 9223372036854775807) (w : World) :
    Calls Try.prog 10 #[.int .i64 c, .int .i64 n] w fun e w' => (∃ r : Int, (0 ≤ r ∧ r < n) ∧ e = .returned (.int .i64 r)) ∧ w' = w := by
  have h1 := hc.1
  have h2 := hc.2
  clear hc
  by_cases h0 : c < 0
  · go_enter Try.func10, Try.ntmps10
    go_wp2
    go_ret
    refine ⟨⟨(-(c + 1)) % n, ⟨Int.emod_nonneg _ (by omega), Int.emod_lt_of_pos _ hn⟩, ret_int ?_⟩, rfl⟩
    have e : (-(c + 1)).tmod n = (-(c + 1)) % n := Int.tmod_eq_emod_of_nonneg (by omega)
    first | exact e | (rw [Int.neg_tmod] at e; omega)
  · go_enter Try.func10, Try.ntmps10
    go_wp2
    go_ret
    exact ⟨⟨c % n, ⟨Int.emod_nonneg _ (by omega), Int.emod_lt_of_pos _ hn⟩, rfl⟩, rfl⟩

set_option maxHeartbeats 400000 in
theorem nought_any (x : Nat) (w : World) :
    Calls Try.prog 12 #[.int .u32 x] w fun e w' => e = .returned (.bool (x % 2147483648 == 0)) ∧ w' = w := by
  go_enter Try.func12, Try.ntmps12
  go_wp2
  go_ret
  refine ⟨ret_bool ?_, rfl⟩
  rw [Bool.eq_iff_iff, beq_iff_eq, beq_iff_eq]
  omega

set_option maxHeartbeats 400000 in
theorem tame_any (x : Nat) (hx : x < 4294967296) (w : World) :
    Calls Try.prog 21 #[.int .u32 x] w fun e w' => (∃ r : Nat, r < 4294967296 ∧ Near.finB r = true ∧ e = .returned (.int .u32 r)) ∧ w' = w := by
  by_cases h : x % 2147483648 < 2139095040
  · have hf : Near.finB x = true := by simpa [Near.finB] using h
    have hb : decide ((2139095040 : Int) ≤ (x : Int) % 2147483648) = false := by simp; omega
    clear h
    go_enter Try.func21, Try.ntmps21
    go_wp2
    go_ret
    exact ⟨⟨x, hx, hf, rfl⟩, rfl⟩
  · have hf : Near.finB (x - 8388608) = true := by simp only [Near.finB, decide_eq_true_eq]; omega
    have hb : decide ((2139095040 : Int) ≤ (x : Int) % 2147483648) = true := by simp; omega
    have hlo : (8388608 : Int) ≤ x := by omega
    clear h
    go_enter Try.func21, Try.ntmps21
    go_wp2
    go_ret
    refine ⟨⟨x - 8388608, by omega, hf, ret_int ?_⟩, rfl⟩
    first | omega | (simp [IntKind.wrap]; omega)

set_option maxHeartbeats 400000 in
theorem whole3 (w : World) : Calls Try.prog 13 #[.int .i64 3] w fun e w' => e = .returned (.int .u32 0x40400000) ∧ w' = w := by
  go_enter Try.func13, Try.ntmps13
  go_wp2
  refine wp_loop_rounds 2 ?_
  rw [rounds_succ]
  go_wp2
  rw [rounds_succ]
  go_wp2
  go_ret
  exact ⟨rfl, rfl⟩

set_option maxHeartbeats 400000 in
theorem whole5 (w : World) : Calls Try.prog 13 #[.int .i64 5] w fun e w' => e = .returned (.int .u32 0x40a00000) ∧ w' = w := by
  go_enter Try.func13, Try.ntmps13
  go_wp2
  refine wp_loop_rounds 3 ?_
  rw [rounds_succ]
  go_wp2
  rw [rounds_succ]
  go_wp2
  rw [rounds_succ]
  go_wp2
  go_ret
  exact ⟨rfl, rfl⟩

set_option maxHeartbeats 400000 in
theorem whole15 (w : World) : Calls Try.prog 13 #[.int .i64 15] w fun e w' => e = .returned (.int .u32 0x41700000) ∧ w' = w := by
  go_enter Try.func13, Try.ntmps13
  go_wp2
  refine wp_loop_rounds 4 ?_
  rw [rounds_succ]
  go_wp2
  rw [rounds_succ]
  go_wp2
  rw [rounds_succ]
  go_wp2
  rw [rounds_succ]
  go_wp2
  go_ret
  exact ⟨rfl, rfl⟩

/-- words that the call itself has made -/
def uv (x : Nat) : Value := .int .u32 x
theorem owns_us {w : World} {base : Nat} {v : Value} {l : List Nat} (h : w.ownsRow base 25 1 v l.length (l.map uv)) : Us w v l := by
  rcases h.2 with ⟨rfl, hz⟩ | ⟨g, cap, cur, rfl, hg, hh, hnc, hcm, hcs, ht⟩
  · exact ⟨none, 0, by rw [hz], fun h => by omega⟩
  · refine ⟨some ⟨g, 0, none⟩, cap, rfl, fun _ => ⟨g, 0, rfl, fun j hj => ?_⟩⟩
    have := h.cellAt j (by omega)
    rw [Nat.zero_add, this]
    simp [nth, hj, uv]

/-- one word more -/
theorem row_more {B : Nat} {w wr w1 : World} {o : Obj} {v v' : Value} {l : List Nat} {x : Nat} (hbel : Below B w wr) (hB : B ≤ wr.heap.size) (hg : Good false l) (hx : x < 4294967296) (hf : Near.finB x = true)
    (hown : wr.ownsRow B 25 1 v l.length (l.map uv)) (hown' : w1.ownsRow B 25 1 v' (l.length + 1) (l.map uv ++ [.int .u32 x])) (hgrow : (wr.alloc o).grownBy w1 v.ownBlock) :
    Good false (l ++ [x]) ∧ w1.ownsRow B 25 1 v' (l.length + 1) ((l ++ [x]).map uv) ∧ Below B w w1 := by
  refine ⟨?_, by rw [List.map_append]; exact hown', ?_⟩
  · intro j hj
    by_cases hjl : j < l.length
    · have e : nth (l ++ [x]) j = nth l j := by simp [nth, List.getD_eq_getElem?_getD, List.getElem?_append_left hjl]
      rw [e]; exact hg j hjl
    · have : j = l.length := by simp at hj; omega
      subst this
      have e : nth (l ++ [x]) l.length = x := by simp [nth, List.getD_eq_getElem?_getD]
      rw [e]; exact ⟨hx, fun _ => hf⟩
  · refine (hbel.alloc hB o).grown hgrow (by simp; omega) fun k hk => ?_
    rcases hown.2 with ⟨rfl, _⟩ | ⟨g, cap, cur, rfl, hg', _⟩
    · simp [Value.ownBlock] at hk
    · simp [Value.ownBlock] at hk; omega

set_option maxHeartbeats 800000 in
theorem vector_any (w : World) (v : Value) (raw : List Nat) (n : Nat) (hu : Us w v raw) (hw : Wd raw) (hn : n ≤ 8) (hreach : raw.length ≤ 9223372036854775807) :
    Calls Try.prog 11 #[v, .int .i64 n] w fun e w' => ∃ v' l, e = .returned v' ∧ l.length = n ∧ Good false l ∧ w'.ownsRow w.heap.size 25 1 v' n (l.map uv) ∧ Below w.heap.size w w' := by
  obtain ⟨i0, hi, hz0, hz1, hz2⟩ := info_parts Try.info25
  obtain ⟨ad, cap, rfl, hu⟩ := hu
  go_enter Try.func11, Try.ntmps11
  go_wp2
  go_loopw [5, 6] (fun v i wr => ∃ l : List Nat, l.length ≤ n ∧ i = .int .i64 l.length ∧ Good false l ∧ wr.ownsRow w.heap.size 25 1 v l.length (l.map uv) ∧ Below w.heap.size w wr) (fun _ i _ => n - (intOf i).toNat)
  case atStart => exact ⟨[], by simp, rfl, fun j hj => absurd hj (by simp), World.ownsRow_nil _ _ _ _, Below.refl _ _⟩
  case round =>
    obtain ⟨l, hk, rfl, hg, hown, hbel⟩ := hrel
    have hsz := hbel.size
    by_cases hlt : l.length < n
    · by_cases hr : raw.length = 0
      · have hrb : ((raw.length : Int) == 0) = true := by simp [hr]
        clear hr
        go_wp2_with (at_builtin; refine wpList_append_own _ rfl _ _ 22 rfl w.heap.size 25 i0 (.int .u32 0) 1 4 Try.underlying22 hi hz0 hz1 hz2 rfl (by decide) _ _ _ rfl (hown.alloc _) ⟨wr.heap.size, 0, none⟩ 1 1 [.int .u32 0] rfl rfl (cell_one_new _ _ _) (by intro u hu; simp at hu; subst hu; rfl) (by unfold maxLen; omega) (by omega) (by simp; omega) ?_; intro v' w1 hown' hgrow _)
        obtain ⟨g2, o2, b2⟩ := row_more (x := 0) hbel hsz hg (by omega) (by decide) hown hown' hgrow
        clear hown' hgrow hown hg
        go_roundw
        case rel => exact ⟨l ++ [0], by simp; omega, by simp, g2, by simpa using o2, b2⟩
        case measure => simp [intOf]; omega
      · have hrb : ((raw.length : Int) == 0) = false := by simp [hr]
        have hr0 : 0 < raw.length := by omega
        obtain ⟨g0, off, rfl, hul⟩ := hu hr0
        have hmod : l.length % raw.length < raw.length := Nat.mod_lt _ hr0
        have hmi : (l.length : Int) % (raw.length : Int) < (raw.length : Int) := by omega
        have hmi0 : (0 : Int) ≤ (l.length : Int) % (raw.length : Int) := by omega
        have hcell : wr.cell? ⟨g0, off + l.length % raw.length, none⟩ = some (.int .u32 (nth raw (l.length % raw.length))) := (hul.same (hbel.block _ (hul.lt hr0))) _ hmod
        have hwx := hw _ hmod
        clear hr hu
        go_wp2_with fail
        refine (tame_any _ hwx wr).mono ?_
        rintro e w9 ⟨⟨x, hx, hfx, rfl⟩, hw9⟩
        subst hw9
        go_wp2_with (at_builtin; refine wpList_append_own _ rfl _ _ 22 rfl w.heap.size 25 i0 (.int .u32 0) 1 4 Try.underlying22 hi hz0 hz1 hz2 rfl (by decide) _ _ _ rfl (hown.alloc _) ⟨_, 0, none⟩ 1 1 [.int .u32 x] rfl rfl (cell_one_new _ _ _) (by intro u hu; simp at hu; subst hu; rfl) (by unfold maxLen; omega) (by omega) (by simp; omega) ?_; intro v' w1 hown' hgrow _)
        obtain ⟨g2, o2, b2⟩ := row_more (x := x) hbel hsz hg hx hfx hown hown' hgrow
        clear hown' hgrow hown hg
        go_roundw
        case rel => exact ⟨l ++ [x], by simp; omega, by simp, g2, by simpa using o2, b2⟩
        case measure => simp [intOf]; omega
    · go_wp2
      go_ret
      exact ⟨_, l, rfl, by omega, hg, by rw [show n = l.length by omega]; exact hown, hbel⟩

theorem vector_int (w : World) (v : Value) (raw : List Nat) (d : Int) (hu : Us w v raw) (hw : Wd raw) (hd : 0 ≤ d) (hn : d ≤ 8) (hreach : raw.length ≤ 9223372036854775807) :
    Calls Try.prog 11 #[v, .int .i64 d] w fun e w' => ∃ v' l, e = .returned v' ∧ (l.length : Int) = d ∧ Good false l ∧ Us w' v' l ∧ Below w.heap.size w w' := by
  obtain ⟨n, rfl⟩ := Int.eq_ofNat_of_zero_le hd
  refine (vector_any w v raw n hu hw (by omega) hreach).mono ?_
  rintro e w' ⟨v', l, he, hl, hg, ho, hb⟩
  subst hl
  exact ⟨v', l, he, rfl, hg, owns_us ho, hb⟩

end Go.Proofs.Ytnoccennhgnjnaa

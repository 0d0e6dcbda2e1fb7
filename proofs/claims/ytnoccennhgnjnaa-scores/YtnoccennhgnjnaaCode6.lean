import Derived.Test.YtnoccennhgnjnaaCode5
import Derived.Deep.QuietTactic
import Derived.BigQuiet
namespace Go.Proofs.Ytnoccennhgnjnaa
open Go.RowKit

theorem hide {p : Prop} (h : p) : Hid p := h
theorem unhide {p : Prop} (h : Hid p) : p := h

theorem Try.info47 : (Try.prog.info? 47).map (fun i => (i.zero, i.size, i.bytes)) = some (some (.float .f32 0), 1, 4) := by kernel_rfl

/-- words in memory -/
def Ul (w : World) (g off : Nat) (l : List Nat) : Prop := ∀ j, j < l.length → w.cell? ⟨g, off + j, none⟩ = some (.int .u32 (nth l j))
theorem Ul.same {w w' : World} {g off : Nat} {l : List Nat} (h : Ul w g off l) (k : w'.heap[g]? = w.heap[g]?) : Ul w' g off l := fun j hj => (World.cell?_of_block (a := ⟨g, off + j, none⟩) k).trans (h j hj)

theorem Ul.lt {w : World} {g off : Nat} {l : List Nat} (h : Ul w g off l) (hl : 0 < l.length) : g < w.heap.size := by
  have := h 0 hl
  unfold World.cell? at this
  cases e : w.heap[g]? with
  | none => simp [e] at this
  | some x => exact lt_of_block e

/-- Everything that was there but the flag is as it was; the flag holds o. -/
structure Wq (p : Nat) (o : Bool) (w w' : World) : Prop where
  os : w'.os = w.os
  tape : w'.tape = w.tape
  output : w'.output = w.output
  size : w.heap.size ≤ w'.heap.size
  flag : w'.heap[p]? = some (.cells #[.bool o] 46 (0, 0))
  rest : ∀ k, k < w.heap.size → k ≠ p → w'.heap[k]? = w.heap[k]?
theorem Wq.wk {p : Nat} {o o' : Bool} {a b c : World} (h : Wq p o a b) (k : Wk p o' b c) : Wq p o' a c :=
  ⟨k.os.trans h.os, k.tape.trans h.tape, k.output.trans h.output, by rw [k.size]; exact h.size, k.flag, fun i hi hp => (k.rest i hp).trans (h.rest i hi hp)⟩
theorem Wq.drew {p : Nat} {o : Bool} {a w : World} (h : Wq p o a w) : Wq p o a w.drew := ⟨h.os, h.tape, h.output, h.size, h.flag, h.rest⟩
theorem Wq.drewN {p : Nat} {o : Bool} {a w : World} (h : Wq p o a w) (n : Nat) : Wq p o a (w.drewN n) := ⟨h.os, h.tape, h.output, h.size, h.flag, h.rest⟩
theorem Wq.grown {p : Nat} {o : Bool} {a w : World} (hf : a.heap[p]? = some (.cells #[.bool o] 46 (0, 0))) (h : a.grownBy w none) : Wq p o a w :=
  ⟨h.os, h.tape, h.output, h.size, by rw [h.block p (lt_of_block hf) (by simp)]; exact hf, fun k hk _ => h.block k hk (by simp)⟩
theorem Wq.store {p : Nat} {o : Bool} {a w : World} (h : Wq p o a w) {t : Nat} (ht : a.heap.size ≤ t) (htp : t ≠ p) (j : Nat) (u : Value) : Wq p o a (w.setCell ⟨t, j, none⟩ u) :=
  ⟨h.os, h.tape, h.output, by simp [World.setCell]; exact h.size, by rw [Below.heap_setCell _ _ _ _ (fun e => htp e.symm)]; exact h.flag, fun k hk hp => by rw [Below.heap_setCell _ _ _ _ (by simp only; omega)]; exact h.rest k hk hp⟩

/-- the terms so far -/
def TmRel (p t n : Nat) (sq : Bool) (a b : List Nat) (w : World) (k : Nat) (wr : World) : Prop :=
  ∃ o l, l.length = k ∧ Wq p o w wr ∧ Good o l ∧ wr.ownsRow w.heap.size 47 1 (.slice (some ⟨t, 0, none⟩) n n) n (l.map (Value.float .f32) ++ List.replicate (n - k) (.float .f32 0)) ∧
    (o = false → Near.termsM sq (a.take k) (b.take k) = some l) ∧ (o = true → Near.termsM sq a b = none)

theorem nth_cons (x : Nat) (l : List Nat) (j : Nat) : nth (x :: l) (j + 1) = nth l j := rfl
theorem termsM_snoc (sq : Bool) : ∀ (a b : List Nat) (k : Nat), k < a.length → k < b.length → Near.termsM sq (a.take (k + 1)) (b.take (k + 1)) =
    (Near.termsM sq (a.take k) (b.take k)).bind fun l => (Near.termM sq (nth a k) (nth b k)).bind fun t => some (l ++ [t])
  | [], _, _, h, _ => absurd h (by simp)
  | _ :: _, [], _, _, h => absurd h (by simp)
  | x :: a, y :: b, 0, _, _ => by
    simp only [List.take_succ_cons, List.take_zero, Near.termsM, nth, List.getD_cons_zero, Option.bind_some, List.nil_append]
  | x :: a, y :: b, k + 1, h1, h2 => by
    have ih := termsM_snoc sq a b k (by simpa using h1) (by simpa using h2)
    rw [List.take_succ_cons, List.take_succ_cons, Near.termsM, ih, List.take_succ_cons, List.take_succ_cons, Near.termsM, nth_cons, nth_cons]
    cases Near.termM sq x y with
    | none => rfl
    | some t =>
      simp only [Option.bind_some]
      cases Near.termsM sq (a.take k) (b.take k) with
      | none => rfl
      | some l =>
        simp only [Option.bind_some]
        cases Near.termM sq (nth a k) (nth b k) <;> rfl
theorem termsM_none (sq : Bool) : ∀ (a b : List Nat) (k : Nat), k < a.length → k < b.length → Near.termM sq (nth a k) (nth b k) = none → Near.termsM sq a b = none
  | [], _, _, h, _, _ => absurd h (by simp)
  | _ :: _, [], _, _, h, _ => absurd h (by simp)
  | x :: a, y :: b, 0, _, _, h => by
    have h' : Near.termM sq x y = none := h
    rw [Near.termsM, h']; rfl
  | x :: a, y :: b, k + 1, h1, h2, h => by
    have ih := termsM_none sq a b k (by simpa using h1) (by simpa using h2) h
    rw [Near.termsM, ih]
    cases Near.termM sq x y <;> rfl

theorem set_fill (l : List Nat) (n : Nat) (r : Nat) (h : l.length < n) :
    (l.map (Value.float .f32) ++ List.replicate (n - l.length) (Value.float .f32 0)).set l.length (.float .f32 r) = (l ++ [r]).map (Value.float .f32) ++ List.replicate (n - (l.length + 1)) (.float .f32 0) := by
  rw [List.set_append, if_neg (by simp)]
  obtain ⟨m, hm⟩ : ∃ m, n - l.length = m + 1 := ⟨n - l.length - 1, by omega⟩
  rw [hm, show n - (l.length + 1) = m by omega]
  simp [List.replicate_succ]

theorem Tr.sq {o o2 o3 : Bool} {x y d r : Nat} (t2 : Tr o o2 (Near.fsub x y) d) (t3 : Tr o2 o3 (Near.fmul d d) r) : Tr o o3 (Near.termM true x y) r := by
  have i1 := Inv.step (K := fun d => Near.fmul d d) (Inv.refl o ((Near.fsub x y).bind fun d => Near.fmul d d)) t2
  exact i1.last t3

theorem Wk.owns {p : Nat} {o : Bool} {w w' : World} {base e size t n c : Nat} {xs : List Value} (h : Wk p o w w') (htp : t ≠ p) (k : w.ownsRow base e size (.slice (some ⟨t, 0, none⟩) n c) n xs) : w'.ownsRow base e size (.slice (some ⟨t, 0, none⟩) n c) n xs := by
  obtain ⟨h1, h2⟩ := k
  refine ⟨h1, ?_⟩
  rcases h2 with ⟨h2, _⟩ | ⟨g, cap, cur, hv, hg, hh, r⟩
  · cases h2
  · have e : t = g := by simp at hv; exact hv.1
    exact Or.inr ⟨g, cap, cur, hv, hg, by rw [h.rest g (by omega)]; exact hh, r⟩

theorem TmRel.step {p t n : Nat} {sq : Bool} {a b : List Nat} {w w' : World} {k : Nat} {o o' : Bool} {l : List Nat} {r : Nat} (hk : l.length = k) (hlt : k < n) (ha : a.length = n) (hb : b.length = n)
    (hg : Good o l)
    (h0 : o = false → Near.termsM sq (a.take k) (b.take k) = some l) (h1 : o = true → Near.termsM sq a b = none)
    (hq' : Wq p o' w w') (hown' : w'.ownsRow w.heap.size 47 1 (.slice (some ⟨t, 0, none⟩) n n) n (l.map (Value.float .f32) ++ List.replicate (n - k) (.float .f32 0)))
    (hr : r < 4294967296) (tr : Tr o o' (Near.termM sq (nth a k) (nth b k)) r) (ht : w.heap.size ≤ t) (htp : t ≠ p) :
    TmRel p t n sq a b w (k + 1) (w'.setCell ⟨t, k, none⟩ (.float .f32 r)) := by
  subst hk
  refine ⟨o', l ++ [r], by simp, hq'.store ht htp _ _, ?_, ?_, ?_, ?_⟩
  · intro j hj
    by_cases hjl : j < l.length
    · have e : nth (l ++ [r]) j = nth l j := by simp [nth, List.getD_eq_getElem?_getD, List.getElem?_append_left hjl]
      rw [e]; exact (hg.later tr) j hjl
    · have : j = l.length := by simp at hj; omega
      subst this
      have e : nth (l ++ [r]) l.length = r := by simp [nth, List.getD_eq_getElem?_getD]
      rw [e]; exact ⟨hr, tr.live⟩
  · have := (hown'.stored l.length (.float .f32 r)).1
    rw [set_fill l n r hlt] at this
    exact this
  · intro e
    have eo := tr.down e
    rw [termsM_snoc sq a b l.length (by omega) (by omega), h0 eo]
    rcases tr.2 eo with ⟨c, _⟩ | ⟨_, d, _⟩
    · rw [c] at e; cases e
    · rw [d]; rfl
  · intro e
    cases ho : o with
    | true => exact h1 ho
    | false =>
      rcases tr.2 ho with ⟨_, d⟩ | ⟨c, _⟩
      · exact termsM_none sq a b l.length (by omega) (by omega) d
      · rw [c] at e; cases e

set_option maxHeartbeats 800000 in
theorem terms_any (p : Nat) (a b : List Nat) (measure : Int) (ga offa capa gb offb capb : Nat) (w : World) (hl : 0 < a.length) (hn : a.length ≤ 8) (hab : b.length = a.length)
    (hga : ga ≠ p) (hgb : gb ≠ p) (ha : Ul w ga offa a) (hb : Ul w gb offb b) (ga1 : Good false a) (gb1 : Good false b)
    (hc : w.heap[p]? = some (.cells #[.bool false] 46 (0, 0))) :
    Calls Try.prog 25 #[.pointer (some ⟨p, 0, none⟩), .int .i64 measure, .slice (some ⟨ga, offa, none⟩) a.length capa, .slice (some ⟨gb, offb, none⟩) a.length capb] w fun e w' =>
      ∃ t, e = .returned (.slice (some ⟨t, 0, none⟩) a.length a.length) ∧ w.heap.size ≤ t ∧ TmRel p t a.length (measure == 2) a b w a.length w' := by
  obtain ⟨i0, hi, hz0, hz1, hz2⟩ := info_parts Try.info47
  go_enter Try.func25, Try.ntmps25
  go_wp2_with (at_make; refine wpList_make_full _ rfl _ _ 49 rfl w.heap.size 47 i0 (.float .f32 0) 1 Try.underlying49 hi hz0 hz1 .i64 .i64 _ _ a.length rfl rfl rfl rfl (by rw [hz2]; omega) (by unfold maxLen; omega) (Nat.le_refl _) ?_; intro w1 hown1 hgr1)
  have hf35 := Try.f32from
  have hst := fun w a b => run_store Try.prog w a (.float .f32 b) .plain rfl
  have hne : w.heap.size ≠ p := by have := lt_of_block hc; omega
  have R0 : TmRel p w.heap.size a.length (measure == 2) a b w 0 w1 := by
    refine ⟨false, [], rfl, Wq.grown hc hgr1, fun j hj => absurd hj (by simp), ?_, fun _ => by simp [Near.termsM], fun e => by cases e⟩
    have e : (madeCells (Value.cells (.float .f32 0)) (a.length * 1)).toList = List.replicate a.length (Value.float .f32 0) := by
      rw [show Value.cells (.float .f32 0) = #[.float .f32 0] from rfl, toList_madeCells_one, Nat.mul_one]
    rw [e] at hown1
    simpa using hown1
  clear hown1 hgr1
  go_loopw [18] (fun i wr => ∃ k : Nat, k ≤ a.length ∧ i = .int .i64 k ∧ TmRel p w.heap.size a.length (measure == 2) a b w k wr) (fun i _ => a.length - (intOf i).toNat)
  case atStart => exact ⟨0, by omega, rfl, R0⟩
  case round =>
    clear R0
    obtain ⟨k, hk, rfl, o, l, hll, hq, hgl, hown, h0, h1⟩ := hrel
    by_cases hlt : k < a.length
    · have hxa : wr.cell? ⟨ga, offa + k, none⟩ = some (.int .u32 (nth a k)) := (ha.same (hq.rest ga (Ul.lt ha hl) hga)) k hlt
      have hxb : wr.cell? ⟨gb, offb + k, none⟩ = some (.int .u32 (nth b k)) := (hb.same (hq.rest gb (Ul.lt hb (by omega)) hgb)) k (by omega)
      have la := ga1 k hlt
      have lb := gb1 k (by omega)
      have H0 := hide h0
      have H1 := hide h1
      clear h0 h1
      by_cases hm : measure = 2
      · have hmb : (measure == 2) = true := by simpa using hm
        clear hm
        go_wp2_with fail
        go_quiet (fail)
        go_wp2_with fail
        refine (difference_any p (nth a k) (nth b k) o _ la.1 lb.1 (fun _ => ⟨la.2 rfl, lb.2 rfl⟩) ?_).mono ?_
        · exact hq.flag
        rintro e w2 ⟨d, o2, rfl, hd, k2, t2⟩
        go_wp2_with fail
        refine (product_any p d d o2 w2 hd hd (fun e => ⟨t2.live e, t2.live e⟩) k2.flag).mono ?_
        rintro e w3 ⟨r, o3, rfl, hr, k3, t3⟩
        have hown3 : w3.ownsRow w.heap.size 47 1 (.slice (some ⟨w.heap.size, 0, none⟩) a.length a.length) a.length (l.map (Value.float .f32) ++ List.replicate (a.length - k) (.float .f32 0)) := k3.owns hne (k2.owns hne hown)
        have hfr3 := hown3.frozenAt k
        obtain ⟨v3, hv3⟩ : ∃ v, w3.cell? ⟨w.heap.size, k, none⟩ = some v := by
          have hl3 := hown3.1
          exact ⟨_, (hown3.cellAt k (by omega)).trans (List.getElem?_eq_getElem (by omega))⟩
        go_wp2
        go_roundw
        case rel => exact ⟨k + 1, by omega, by go_num, TmRel.step hll hlt rfl hab hgl (unhide H0) (unhide H1) (((hq.drewN _).wk k2).wk k3) hown3 hr (by rw [hmb]; exact t2.sq t3) (Nat.le_refl _) hne⟩
        case measure => simp [intOf]; omega
      · have hmb : (measure == 2) = false := by simpa using hm
        clear hm
        go_wp2_with fail
        go_quiet (fail)
        go_wp2_with fail
        refine (product_any p (nth a k) (nth b k) o _ la.1 lb.1 (fun _ => ⟨la.2 rfl, lb.2 rfl⟩) ?_).mono ?_
        · exact hq.flag
        rintro e w3 ⟨r, o3, rfl, hr, k3, t3⟩
        have hown3 : w3.ownsRow w.heap.size 47 1 (.slice (some ⟨w.heap.size, 0, none⟩) a.length a.length) a.length (l.map (Value.float .f32) ++ List.replicate (a.length - k) (.float .f32 0)) := k3.owns hne hown
        have hfr3 := hown3.frozenAt k
        obtain ⟨v3, hv3⟩ : ∃ v, w3.cell? ⟨w.heap.size, k, none⟩ = some v := by
          have hl3 := hown3.1
          exact ⟨_, (hown3.cellAt k (by omega)).trans (List.getElem?_eq_getElem (by omega))⟩
        go_wp2
        go_roundw
        case rel => exact ⟨k + 1, by omega, by go_num, TmRel.step hll hlt rfl hab hgl (unhide H0) (unhide H1) ((hq.drewN _).wk k3) hown3 hr (by rw [hmb]; exact t3) (Nat.le_refl _) hne⟩
        case measure => simp [intOf]; omega
    · have hke : k = a.length := by omega
      subst hke
      have R : TmRel p w.heap.size a.length (measure == 2) a b w a.length wr := ⟨o, l, hll, hq, hgl, hown, h0, h1⟩
      clear h0 h1 hown
      go_wp2
      go_ret
      exact ⟨_, rfl, Nat.le_refl _, R⟩

/-- what the terms come to -/
theorem TmRel.done {p t : Nat} {sq : Bool} {a b : List Nat} {w wr : World} (hab : b.length = a.length) (h : TmRel p t a.length sq a b w a.length wr) :
    ∃ o l, l.length = a.length ∧ Wq p o w wr ∧ Good o l ∧ Fl wr t 0 l ∧ (o = false → Near.termsM sq a b = some l) ∧ (o = true → Near.termsM sq a b = none) := by
  obtain ⟨o, l, hl, hq, hg, hown, h0, h1⟩ := h
  refine ⟨o, l, hl, hq, hg, ?_, ?_, h1⟩
  · intro j hj
    have := hown.cellAt j (by omega)
    rw [Nat.zero_add, this, List.getElem?_append_left (by simpa using hj)]
    simp [nth, hj]
  · intro e
    have := h0 e
    rw [List.take_of_length_le (Nat.le_refl _), List.take_of_length_le (by omega)] at this
    exact this

end Go.Proofs.Ytnoccennhgnjnaa

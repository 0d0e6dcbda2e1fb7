/- Plain numbers: what changes places, and what changes its sign. Nothing of the program. -/
import Derived.Test.YtnoccennhgnjnaaMath
namespace Go.Proofs.Ytnoccennhgnjnaa.Near
open Ieee

/-- the same with the other sign, or noughts both -/
def Opp (x y : Nat) : Prop := x % 2147483648 = y % 2147483648 ∧ (x % 2147483648 = 0 ∨ negOf y = !negOf x)
def OOpp : Option Nat → Option Nat → Prop
  | none, none => True
  | some x, some y => Opp x y ∧ finB x = true ∧ finB y = true
  | _, _ => False
/-- finite numbers all -/
def Fin1 (x : Nat) : Prop := finB x = true

theorem Opp.mag {x y : Nat} (h : Opp x y) : magOf y = magOf x := by
  have e : y % 8388608 = x % 8388608 := by have := h.1; omega
  unfold magOf; rw [e, h.1]
theorem Opp.ex {x y : Nat} (h : Opp x y) : exOf y = exOf x := by unfold exOf; rw [h.1]
theorem Opp.units {x y : Nat} (h : Opp x y) : units y = units x := by unfold Near.units; rw [h.mag, h.ex]
theorem units_zero {x : Nat} (h : x % 2147483648 = 0) : units x = 0 := by
  unfold Near.units magOf
  rw [if_pos (by omega), h, Nat.zero_mul]
theorem Opp.sunits {x y : Nat} (h : Opp x y) : sunits y = -sunits x := by
  unfold Near.sunits
  rcases h.2 with h0 | hn
  · rw [h.units, units_zero h0]; simp
  · rw [hn, h.units]; cases negOf x <;> simp
theorem Opp.fin {x y : Nat} (h : Opp x y) : finB y = finB x := by unfold finB; rw [h.1]
theorem opp_flip (x : Nat) : Opp x (flip x) := ⟨(flip_mod x).symm, Or.inr (flip_neg x)⟩
theorem Opp.flip {x y : Nat} (h : Opp x y) : Opp (flip x) (flip y) :=
  ⟨by rw [flip_mod, flip_mod]; exact h.1, by
    rcases h.2 with h0 | hn
    · left; rw [flip_mod]; exact h0
    · right; rw [flip_neg, flip_neg, hn]⟩
theorem opp_nought : Opp 0 0 := ⟨rfl, Or.inl rfl⟩

theorem word_neg {n : Bool} {r : Nat} (h : r ≤ 2139095040) : negOf (single.word n r) = n := by
  unfold negOf Format.word
  rw [single_sign]
  cases n
  · simp; omega
  · simp; omega

theorem keep_word {n : Bool} {r : Nat} (h : r ≤ 2139095040) : keep (some (single.word n r)) = if r < 2139095040 then some (single.word n r) else none := by
  unfold keep
  rw [Option.bind_some, finB_word h]
  simp

theorem oopp_words {n n' : Bool} {r : Nat} (h : r ≤ 2139095040) (hn : r = 0 ∨ n' = !n) : OOpp (keep (some (single.word n r))) (keep (some (single.word n' r))) := by
  rw [keep_word h, keep_word h]
  by_cases hr : r < 2139095040
  · rw [if_pos hr, if_pos hr]
    refine ⟨⟨by rw [word_mod h, word_mod h], ?_⟩, by rw [finB_word h]; simpa using hr, by rw [finB_word h]; simpa using hr⟩
    rw [word_mod h, word_neg h, word_neg h]
    exact hn
  · rw [if_neg hr, if_neg hr]; trivial

theorem rung_zero (s : Nat) : rungW 0 s = 0 := by unfold rungW; rw [if_pos rfl]

theorem fadd_opp {x x' y y' : Nat} (hx : finB x = true) (hy : finB y = true) (h1 : Opp x x') (h2 : Opp y y') : OOpp (fadd x y) (fadd x' y') := by
  unfold fadd
  rw [add_fin hx hy, add_fin (by rw [h1.fin]; exact hx) (by rw [h2.fin]; exact hy), h1.sunits, h2.sunits, nearW_form, nearW_form]
  have e : (-sunits x + -sunits y) = -(sunits x + sunits y) := by omega
  rw [e, Int.natAbs_neg]
  refine oopp_words (rungW_le _ _) ?_
  by_cases hz : sunits x + sunits y = 0
  · left; rw [hz]; exact rung_zero _
  · right
    rw [if_neg hz, if_neg (by omega)]
    by_cases hl : sunits x + sunits y < 0
    · rw [decide_eq_true hl, decide_eq_false (by omega)]; rfl
    · rw [decide_eq_false hl, decide_eq_true (by omega)]; rfl
theorem fsub_eq {x y : Nat} (hy : finB y = true) : fsub x y = fadd x (flip y) := by unfold fsub fadd; rw [sub_fin hy]
theorem fsub_opp {x x' y y' : Nat} (hx : finB x = true) (hy : finB y = true) (h1 : Opp x x') (h2 : Opp y y') : OOpp (fsub x y) (fsub x' y') := by
  rw [fsub_eq hy, fsub_eq (by rw [h2.fin]; exact hy)]
  exact fadd_opp hx (flip_fin hy) h1 h2.flip
theorem fmul_opp {x x' y : Nat} (hx : finB x = true) (hy : finB y = true) (h1 : Opp x x') : OOpp (fmul x y) (fmul x' y) := by
  unfold fmul
  rw [mul_fin hx hy, mul_fin (by rw [h1.fin]; exact hx) hy, h1.units, nearW_form, nearW_form]
  refine oopp_words (rungW_le _ _) ?_
  rcases h1.2 with h0 | hn
  · left; rw [units_zero h0, Nat.zero_mul]; exact rung_zero _
  · right; rw [hn]; cases negOf x <;> cases negOf y <;> rfl
theorem fadd_comm {x y : Nat} (hx : finB x = true) (hy : finB y = true) : fadd x y = fadd y x := by
  unfold fadd
  rw [add_fin hx hy, add_fin hy hx, Int.add_comm, Bool.and_comm]
theorem fmul_comm {x y : Nat} (hx : finB x = true) (hy : finB y = true) : fmul x y = fmul y x := by
  unfold fmul
  rw [mul_fin hx hy, mul_fin hy hx, Nat.mul_comm, Bool.xor_comm]
theorem fmul_self {d d' : Nat} (h : Opp d d') (hd : finB d = true) : fmul d d = fmul d' d' := by
  have hd' : finB d' = true := by rw [h.fin]; exact hd
  unfold fmul
  rw [mul_fin hd hd, mul_fin hd' hd', h.units, Bool.xor_self, Bool.xor_self]
theorem fsub_turn {x y : Nat} (hx : finB x = true) (hy : finB y = true) : OOpp (fsub x y) (fsub y x) := by
  rw [fsub_eq hy, fsub_eq hx, fadd_comm hy (flip_fin hx)]
  have h := fadd_opp hx (flip_fin hy) (opp_flip x) (opp_flip (flip y))
  have e : Opp (Near.flip y) y := ⟨flip_mod y, Or.inr (by rw [flip_neg]; simp)⟩
  exact fadd_opp hx (flip_fin hy) (opp_flip x) e

theorem termM_turn {sq : Bool} {x y : Nat} (hx : finB x = true) (hy : finB y = true) : termM sq x y = termM sq y x := by
  unfold termM
  cases sq
  · exact fmul_comm hx hy
  · have h := fsub_turn hx hy
    simp only [if_true]
    generalize fsub x y = m at *
    generalize fsub y x = m' at *
    cases m <;> cases m'
    · rfl
    · exact h.elim
    · exact h.elim
    · exact fmul_self h.1 h.2.1

theorem termsM_turn (sq : Bool) : ∀ (a b : List Nat), (∀ x ∈ a, finB x = true) → (∀ x ∈ b, finB x = true) → termsM sq a b = termsM sq b a
  | [], [], _, _ => rfl
  | [], _ :: _, _, _ => rfl
  | _ :: _, [], _, _ => rfl
  | x :: a, y :: b, ha, hb => by
    have ih := termsM_turn sq a b (fun z hz => ha z (List.mem_cons_of_mem _ hz)) (fun z hz => hb z (List.mem_cons_of_mem _ hz))
    rw [termsM, termsM, termM_turn (ha x (List.mem_cons_self)) (hb y (List.mem_cons_self)), ih]

/-- number by number -/
inductive Opps : List Nat → List Nat → Prop
  | nil : Opps [] []
  | cons {x y : Nat} {a b : List Nat} : Opp x y → finB x = true → finB y = true → Opps a b → Opps (x :: a) (y :: b)
def LOpp : Option (List Nat) → Option (List Nat) → Prop
  | none, none => True
  | some a, some b => Opps a b
  | _, _ => False

theorem Opps.length {a b : List Nat} (h : Opps a b) : b.length = a.length := by induction h with
  | nil => rfl
  | cons _ _ _ _ ih => simp [ih]
theorem Opps.take {a b : List Nat} (h : Opps a b) : ∀ n, Opps (a.take n) (b.take n) := by
  induction h with
  | nil => intro n; simp; exact .nil
  | cons h1 h2 h3 _ ih => intro n; cases n with
    | zero => exact .nil
    | succ n => exact .cons h1 h2 h3 (ih n)
theorem Opps.drop {a b : List Nat} (h : Opps a b) : ∀ n, Opps (a.drop n) (b.drop n) := by
  induction h with
  | nil => intro n; simp; exact .nil
  | cons h1 h2 h3 h4 ih => intro n; cases n with
    | zero => exact .cons h1 h2 h3 h4
    | succ n => exact ih n

theorem termsM_opp : ∀ {a a' : List Nat} (b : List Nat), Opps a a' → (∀ x ∈ b, finB x = true) → LOpp (termsM false a b) (termsM false a' b)
  | _, _, [], .nil, _ => .nil
  | _, _, _ :: _, .nil, _ => .nil
  | _, _, [], .cons _ _ _ _, _ => .nil
  | _, _, y :: b, .cons (x := x) (y := x') (a := a) (b := a') h1 h2 h3 h4, hb => by
    have ih := termsM_opp b h4 (fun z hz => hb z (List.mem_cons_of_mem _ hz))
    have ht : OOpp (termM false x y) (termM false x' y) := fmul_opp h2 (hb y (List.mem_cons_self)) h1
    rw [termsM, termsM]
    cases e1 : termM false x y <;> cases e2 : termM false x' y <;> rw [e1, e2] at ht
    · trivial
    · exact ht.elim
    · exact ht.elim
    · simp only [Option.bind_some]
      cases e3 : termsM false a b <;> cases e4 : termsM false a' b <;> rw [e3, e4] at ih
      · trivial
      · exact ih.elim
      · exact ih.elim
      · exact .cons ht.1 ht.2.1 ht.2.2 ih

theorem bind_opp {m m' : Option Nat} {K K' : Nat → Option Nat} (h : OOpp m m') (hk : ∀ x x', Opp x x' → finB x = true → finB x' = true → OOpp (K x) (K' x')) : OOpp (m.bind K) (m'.bind K') := by
  cases m <;> cases m'
  · trivial
  · exact h.elim
  · exact h.elim
  · exact hk _ _ h.1 h.2.1 h.2.2

theorem plainM_opp {l l' : List Nat} (h : Opps l l') : ∀ {s s' : Nat}, Opp s s' → finB s = true → finB s' = true → OOpp (plainM s l) (plainM s' l') := by
  induction h with
  | nil => intro s s' h1 h2 h3; exact ⟨h1, h2, h3⟩
  | cons k1 k2 k3 _ ih =>
    intro s s' h1 h2 h3
    rw [plainM, plainM]
    exact bind_opp (fadd_opp h2 k2 h1 k1) fun x x' a b c => ih a b c
theorem kahanM_opp {l l' : List Nat} (h : Opps l l') : ∀ {s s' c c' : Nat}, Opp s s' → finB s = true → finB s' = true → Opp c c' → finB c = true → finB c' = true → OOpp (kahanM s c l) (kahanM s' c' l') := by
  induction h with
  | nil => intro s s' c c' h1 h2 h3 _ _ _; exact ⟨h1, h2, h3⟩
  | cons k1 k2 k3 _ ih =>
    intro s s' c c' h1 h2 h3 g1 g2 g3
    rw [kahanM, kahanM]
    exact bind_opp (fsub_opp k2 g2 k1 g1) fun y y' a1 a2 a3 => bind_opp (fadd_opp h2 a2 h1 a1) fun t t' b1 b2 b3 =>
      bind_opp (fsub_opp b2 h2 b1 h1) fun d d' c1 c2 c3 => bind_opp (fsub_opp c2 a2 c1 a1) fun e e' d1 d2 d3 => ih b1 b2 b3 d1 d2 d3
theorem pairsM_opp : ∀ (f : Nat) {l l' : List Nat}, Opps l l' → OOpp (pairsM f l) (pairsM f l')
  | 0, _, _, _ => trivial
  | _ + 1, _, _, .nil => trivial
  | _ + 1, _, _, .cons h1 h2 h3 .nil => ⟨h1, h2, h3⟩
  | f + 1, _, _, .cons h1 h2 h3 (.cons k1 k2 k3 k4) => by
    have hl := k4.length
    rw [pairsM, pairsM, hl]
    exact bind_opp (pairsM_opp f ((Opps.cons h1 h2 h3 (.cons k1 k2 k3 k4)).take _)) fun a a' a1 a2 a3 =>
      bind_opp (pairsM_opp f ((Opps.cons h1 h2 h3 (.cons k1 k2 k3 k4)).drop _)) fun b b' b1 b2 b3 => fadd_opp a2 b2 a1 b1
theorem Opps.head {l l' : List Nat} (h : Opps l l') : Opp (l.headD 0) (l'.headD 0) ∧ finB (l.headD 0) = true ∧ finB (l'.headD 0) = true := by
  cases h with
  | nil => exact ⟨opp_nought, by decide, by decide⟩
  | cons h1 h2 h3 _ => exact ⟨h1, h2, h3⟩
theorem Opps.tail {l l' : List Nat} (h : Opps l l') : Opps l.tail l'.tail := by
  cases h with
  | nil => exact .nil
  | cons _ _ _ h => exact h
theorem sumM_opp (way : Nat) {l l' : List Nat} (h : Opps l l') : OOpp (sumM way l) (sumM way l') := by
  unfold sumM
  have hh := h.head
  split
  · rw [h.length]; exact pairsM_opp _ h
  · split
    · exact kahanM_opp h.tail hh.1 hh.2.1 hh.2.2 opp_nought (by decide) (by decide)
    · exact plainM_opp h.tail hh.1 hh.2.1 hh.2.2

theorem opps_flip : ∀ (a : List Nat), (∀ x ∈ a, finB x = true) → Opps a (a.map Near.flip)
  | [], _ => .nil
  | x :: a, h => .cons (opp_flip x) (h x (List.mem_cons_self)) (flip_fin (h x (List.mem_cons_self))) (opps_flip a fun z hz => h z (List.mem_cons_of_mem _ hz))

theorem termM_lt {sq : Bool} {x y r : Nat} (h : termM sq x y = some r) : r < 4294967296 := by
  unfold termM at h
  split at h
  · obtain ⟨d, _, h2⟩ := Option.bind_eq_some_iff.1 h
    exact fmul_lt h2
  · exact fmul_lt h
theorem termsM_lt (sq : Bool) : ∀ (a b l : List Nat), termsM sq a b = some l → ∀ x ∈ l, x < 4294967296
  | [], _, l, h, x, hx => by simp [termsM] at h; subst h; cases hx
  | _ :: _, [], l, h, x, hx => by simp [termsM] at h; subst h; cases hx
  | u :: a, v :: b, l, h, x, hx => by
    rw [termsM] at h
    obtain ⟨t, h1, h2⟩ := Option.bind_eq_some_iff.1 h
    obtain ⟨l', h3, h4⟩ := Option.bind_eq_some_iff.1 h2
    cases h4
    rcases List.mem_cons.1 hx with rfl | hx
    · exact termM_lt h1
    · exact termsM_lt sq a b l' h3 x hx
theorem plainM_lt : ∀ (l : List Nat) (s r : Nat), s < 4294967296 → plainM s l = some r → r < 4294967296
  | [], s, r, hs, h => by simp [plainM] at h; omega
  | p :: l, s, r, _, h => by
    rw [plainM] at h
    obtain ⟨t, h1, h2⟩ := Option.bind_eq_some_iff.1 h
    exact plainM_lt l t r (fadd_lt h1) h2
theorem kahanM_lt : ∀ (l : List Nat) (s c r : Nat), s < 4294967296 → kahanM s c l = some r → r < 4294967296
  | [], s, _, r, hs, h => by simp [kahanM] at h; omega
  | p :: l, s, c, r, _, h => by
    rw [kahanM] at h
    obtain ⟨y, _, h⟩ := Option.bind_eq_some_iff.1 h
    obtain ⟨t, h1, h⟩ := Option.bind_eq_some_iff.1 h
    obtain ⟨d, _, h⟩ := Option.bind_eq_some_iff.1 h
    obtain ⟨c', _, h⟩ := Option.bind_eq_some_iff.1 h
    exact kahanM_lt l t c' r (fadd_lt h1) h
theorem pairsM_lt : ∀ (f : Nat) (l : List Nat) (r : Nat), (∀ x ∈ l, x < 4294967296) → pairsM f l = some r → r < 4294967296
  | 0, _, _, _, h => by cases h
  | _ + 1, [], _, _, h => by cases h
  | _ + 1, [p], r, hl, h => by rw [pairsM] at h; cases h; exact hl _ (List.mem_cons_self)
  | f + 1, p :: q :: l, r, _, h => by
    rw [pairsM] at h
    obtain ⟨a, _, h⟩ := Option.bind_eq_some_iff.1 h
    obtain ⟨b, _, h⟩ := Option.bind_eq_some_iff.1 h
    exact fadd_lt h
theorem sumM_lt (way : Nat) (l : List Nat) (r : Nat) (hl : ∀ x ∈ l, x < 4294967296) (h : sumM way l = some r) : r < 4294967296 := by
  have hh : l.headD 0 < 4294967296 := by
    cases l with
    | nil => decide
    | cons x l => exact hl x (List.mem_cons_self)
  unfold sumM at h
  split at h
  · exact pairsM_lt _ l r hl h
  · split at h
    · exact kahanM_lt _ _ _ r hh h
    · exact plainM_lt _ _ r hh h

end Go.Proofs.Ytnoccennhgnjnaa.Near

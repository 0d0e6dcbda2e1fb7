import Derived.Test.YtnoccennhgnjnaaCode1
namespace Go.Proofs.Ytnoccennhgnjnaa
open Go.RowKit

/-- Everything but the block of the flag is as it was; the flag holds o. -/
structure Wk (p : Nat) (o : Bool) (w w' : World) : Prop where
  os : w'.os = w.os
  tape : w'.tape = w.tape
  output : w'.output = w.output
  size : w'.heap.size = w.heap.size
  flag : w'.heap[p]? = some (.cells #[.bool o] 46 (0, 0))
  rest : ∀ k, k ≠ p → w'.heap[k]? = w.heap[k]?

theorem Wk.refl {p : Nat} {o : Bool} {w : World} (h : w.heap[p]? = some (.cells #[.bool o] 46 (0, 0))) : Wk p o w w := ⟨rfl, rfl, rfl, rfl, h, fun _ _ => rfl⟩
theorem Wk.trans {p : Nat} {o o' : Bool} {a b c : World} (h : Wk p o a b) (k : Wk p o' b c) : Wk p o' a c :=
  ⟨k.os.trans h.os, k.tape.trans h.tape, k.output.trans h.output, k.size.trans h.size, k.flag, fun i hi => (k.rest i hi).trans (h.rest i hi)⟩
theorem Wk.drew {p : Nat} {o : Bool} {a w : World} (h : Wk p o a w) : Wk p o a w.drew := ⟨h.os, h.tape, h.output, h.size, h.flag, h.rest⟩
theorem Wk.set {p : Nat} {o : Bool} {a w : World} (h : Wk p o a w) : Wk p true a (w.setCell ⟨p, 0, none⟩ (.bool true)) :=
  h.trans ⟨rfl, rfl, rfl, by simp [World.setCell], one_setCell h.flag, fun k hk => Below.heap_setCell _ _ _ _ hk⟩
theorem Wk.cell {p : Nat} {o : Bool} {w w' : World} (h : Wk p o w w') {a : Addr} (ha : a.block ≠ p) : w'.cell? a = w.cell? a := World.cell?_of_block (w := w) (h.rest _ ha)
theorem Wk.frozen {p : Nat} {o : Bool} {w w' : World} (h : Wk p o w w') {a : Addr} (ha : a.block ≠ p) : w'.frozen? a = w.frozen? a := World.frozen?_of_block (w := w) (h.rest _ ha)

/-- the flag, and what a step comes to: once it is up it stays; else it is up just if there is nothing -/
def Tr (o o' : Bool) (m : Option Nat) (r : Nat) : Prop := (o = true → o' = true) ∧ (o = false → (o' = true ∧ m = none) ∨ (o' = false ∧ m = some r ∧ Near.finB r = true))

theorem Tr.of {o : Bool} {r : Nat} {m : Option Nat} (h : o = false → m = if Near.finB r then some r else none) : Tr o (o || !Near.finB r) m r := by
  refine ⟨fun h => by simp [h], fun k => ?_⟩
  subst k
  rw [h rfl]
  cases e : Near.finB r <;> simp

set_option maxHeartbeats 400000 in
theorem rounded_any (p : Nat) (x : Nat) (o : Bool) (hx : x < 4294967296) (w : World) (hc : w.heap[p]? = some (.cells #[.bool o] 46 (0, 0))) :
    Calls Try.prog 43 #[.pointer (some ⟨p, 0, none⟩), .float .f32 x] w fun e w' => e = .returned (.float .f32 x) ∧ Wk p (o || !Near.finB x) w w' := by
  cases hf : Near.finB x with
  | true =>
    refine (rounded_fin p x hx hf w).mono ?_
    rintro e w' ⟨rfl, rfl⟩
    exact ⟨rfl, by simpa using Wk.refl hc⟩
  | false =>
    refine (rounded_inf p x o hx hf w hc).mono ?_
    rintro e w' ⟨rfl, rfl⟩
    exact ⟨rfl, by simpa using (Wk.refl hc).set⟩

/-- what a step on floats comes to: a word; that of the model where there is one -/
theorem float_run (P : Program) (w : World) (op : BinOp) (t : TypeId) (x y : Nat) (hop : op = .add ∨ op = .sub ∨ op = .mul) :
    ∃ r, r < 4294967296 ∧ (∀ q, floatBits op .f32 x y = some q → r = q) ∧
      ((binOp op t (.float .f32 x) (.float .f32 y)).run P w = .ok (.float .f32 r) w ∨ (binOp op t (.float .f32 x) (.float .f32 y)).run P w = .ok (.float .f32 r) w.drew) := by
  cases h : floatBits op .f32 x y with
  | some q =>
    refine ⟨q, ?_, fun q' e => by cases e; rfl, Or.inl (run_float_arith w op t .f32 x y q h)⟩
    have := floatBits_wf h
    simpa [Lit.wf] using this
  | none =>
    refine ⟨(Question.nanBits .f32 x y).cut (w.tape w.drawn (.nanBits .f32 x y)), ?_, (by intro q' e; cases e), Or.inr ?_⟩
    · simp only [Question.cut]; omega
    · rcases hop with rfl | rfl | rfl
      all_goals
        simp only [floatBits] at h
        simp [binOp, Op.floatArith, h, Question.forced]

/-- A STEP: the three of them by one text. -/
def StepSaid (f : Nat) (g : Nat → Nat → Option Nat) : Prop := ∀ (p x y : Nat) (o : Bool) (w : World), x < 4294967296 → y < 4294967296 → (o = false → Near.finB x = true ∧ Near.finB y = true) →
    w.heap[p]? = some (.cells #[.bool o] 46 (0, 0)) →
    Calls Try.prog f #[.pointer (some ⟨p, 0, none⟩), .float .f32 x, .float .f32 y] w fun e w' => ∃ r o', e = .returned (.float .f32 r) ∧ r < 4294967296 ∧ Wk p o' w w' ∧ Tr o o' (g x y) r

theorem step_close {g : Nat → Nat → Option Nat} {p x y r : Nat} {o : Bool} {w w1 w' : World} (hr : r < 4294967296) (hw : Wk p o w w1) (hk : Wk p (o || !Near.finB r) w1 w') (h : o = false → g x y = if Near.finB r then some r else none) :
    ∃ r' o', Ending.returned (.float .f32 r) = .returned (.float .f32 r') ∧ r' < 4294967296 ∧ Wk p o' w w' ∧ Tr o o' (g x y) r' := ⟨r, _, rfl, hr, hw.trans hk, Tr.of h⟩

set_option maxHeartbeats 400000 in
theorem sum_any : StepSaid 42 Near.fadd := by
  intro p x y o w hx hy hfin hc
  obtain ⟨r, hr, hq, hrun⟩ := float_run Try.prog w .add 47 x y (by simp)
  have hg : o = false → Near.fadd x y = if Near.finB r then some r else none := by
    intro ho
    obtain ⟨q, h1, _, h3⟩ := Near.add_some (hfin ho).1 (hfin ho).2
    rw [hq q h1]; exact h3
  have HG : Hid (o = false → Near.fadd x y = if Near.finB r then some r else none) := hg
  clear hg hq hfin
  rcases hrun with hrun | hrun
  · go_enter Try.func42, Try.ntmps42
    go_wp2_with (go_at_call 43; refine (rounded_any p r o hr w hc).mono ?_; rintro e w' ⟨rfl, hk⟩)
    go_ret
    exact step_close hr (Wk.refl hc) hk HG.out
  · go_enter Try.func42, Try.ntmps42
    go_wp2_with (go_at_call 43; refine (rounded_any p r o hr w.drew hc).mono ?_; rintro e w' ⟨rfl, hk⟩)
    go_ret
    exact step_close hr (Wk.refl hc).drew hk HG.out

set_option maxHeartbeats 400000 in
theorem product_any : StepSaid 38 Near.fmul := by
  intro p x y o w hx hy hfin hc
  obtain ⟨r, hr, hq, hrun⟩ := float_run Try.prog w .mul 47 x y (by simp)
  have hg : o = false → Near.fmul x y = if Near.finB r then some r else none := by
    intro ho
    obtain ⟨q, h1, _, h3⟩ := Near.mul_some (hfin ho).1 (hfin ho).2
    rw [hq q h1]; exact h3
  have HG : Hid (o = false → Near.fmul x y = if Near.finB r then some r else none) := hg
  clear hg hq hfin
  rcases hrun with hrun | hrun
  · go_enter Try.func38, Try.ntmps38
    go_wp2_with (go_at_call 43; refine (rounded_any p r o hr w hc).mono ?_; rintro e w' ⟨rfl, hk⟩)
    go_ret
    exact step_close hr (Wk.refl hc) hk HG.out
  · go_enter Try.func38, Try.ntmps38
    go_wp2_with (go_at_call 43; refine (rounded_any p r o hr w.drew hc).mono ?_; rintro e w' ⟨rfl, hk⟩)
    go_ret
    exact step_close hr (Wk.refl hc).drew hk HG.out

set_option maxHeartbeats 400000 in
theorem difference_any : StepSaid 37 Near.fsub := by
  intro p x y o w hx hy hfin hc
  obtain ⟨r, hr, hq, hrun⟩ := float_run Try.prog w .sub 47 x y (by simp)
  have hg : o = false → Near.fsub x y = if Near.finB r then some r else none := by
    intro ho
    obtain ⟨q, h1, _, h3⟩ := Near.sub_some (hfin ho).1 (hfin ho).2
    rw [hq q h1]; exact h3
  have HG : Hid (o = false → Near.fsub x y = if Near.finB r then some r else none) := hg
  clear hg hq hfin
  rcases hrun with hrun | hrun
  · go_enter Try.func37, Try.ntmps37
    go_wp2_with (go_at_call 43; refine (rounded_any p r o hr w hc).mono ?_; rintro e w' ⟨rfl, hk⟩)
    go_ret
    exact step_close hr (Wk.refl hc) hk HG.out
  · go_enter Try.func37, Try.ntmps37
    go_wp2_with (go_at_call 43; refine (rounded_any p r o hr w.drew hc).mono ?_; rintro e w' ⟨rfl, hk⟩)
    go_ret
    exact step_close hr (Wk.refl hc).drew hk HG.out

end Go.Proofs.Ytnoccennhgnjnaa

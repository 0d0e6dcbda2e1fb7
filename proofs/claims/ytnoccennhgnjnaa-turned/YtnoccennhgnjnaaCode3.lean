import Derived.Test.YtnoccennhgnjnaaCode2
namespace Go.Proofs.Ytnoccennhgnjnaa
open Go.RowKit

/-- a finite number, as long as the flag is down -/
def Live (o : Bool) (x : Nat) : Prop := o = false → Near.finB x = true
/-- what is left to be done comes to what the whole does, as long as the flag is down -/
def Inv (o o' : Bool) (m rem : Option Nat) : Prop := (o = true → o' = true) ∧ (o = false → (o' = true ∧ m = none) ∨ (o' = false ∧ m = rem))
theorem Inv.refl (o : Bool) (m : Option Nat) : Inv o o m m := ⟨fun h => h, fun h => Or.inr ⟨h, rfl⟩⟩
theorem Tr.live {o o' : Bool} {m : Option Nat} {r : Nat} (h : Tr o o' m r) : Live o' r := by
  intro k
  cases o with
  | true => rw [h.1 rfl] at k; cases k
  | false => rcases h.2 rfl with ⟨a, _⟩ | ⟨_, _, c⟩
             · rw [a] at k; cases k
             · exact c
theorem Tr.down {o o' : Bool} {m : Option Nat} {r : Nat} (h : Tr o o' m r) (k : o' = false) : o = false := by
  cases o with
  | true => rw [h.1 rfl] at k; cases k
  | false => rfl
theorem Live.later {o o' : Bool} {m : Option Nat} {r x : Nat} (h : Live o x) (t : Tr o o' m r) : Live o' x := fun k => h (t.down k)
theorem Inv.step {o o' o'' : Bool} {m g : Option Nat} {K : Nat → Option Nat} {r : Nat} (h : Inv o o' m (g.bind K)) (t : Tr o' o'' g r) : Inv o o'' m (K r) := by
  refine ⟨fun k => t.1 (h.1 k), fun k => ?_⟩
  rcases h.2 k with ⟨a, b⟩ | ⟨a, b⟩
  · exact Or.inl ⟨t.1 a, b⟩
  · rcases t.2 a with ⟨c, d⟩ | ⟨c, d, _⟩
    · exact Or.inl ⟨c, by rw [b, d]; rfl⟩
    · exact Or.inr ⟨c, by rw [b, d]; rfl⟩
theorem Inv.done {o o' : Bool} {m : Option Nat} {r : Nat} (h : Inv o o' m (some r)) (k : Live o' r) : Tr o o' m r := by
  refine ⟨h.1, fun e => ?_⟩
  rcases h.2 e with a | ⟨a, b⟩
  · exact Or.inl a
  · exact Or.inr ⟨a, b, k a⟩

/-- the j-th -/
def nth (l : List Nat) (j : Nat) : Nat := l.getD j 0
/-- numbers in memory -/
def Fl (w : World) (g off : Nat) (l : List Nat) : Prop := ∀ j, j < l.length → w.cell? ⟨g, off + j, none⟩ = some (.float .f32 (nth l j))
theorem Fl.wk {p : Nat} {o : Bool} {w w' : World} {g off : Nat} {l : List Nat} (h : Fl w g off l) (k : Wk p o w w') (hg : g ≠ p) : Fl w' g off l := fun j hj => (k.cell (by exact hg)).trans (h j hj)
/-- all are words; all are finite as long as the flag is down -/
def Good (o : Bool) (l : List Nat) : Prop := ∀ j, j < l.length → nth l j < 4294967296 ∧ Live o (nth l j)
theorem Good.later {o o' : Bool} {m : Option Nat} {r : Nat} {l : List Nat} (h : Good o l) (t : Tr o o' m r) : Good o' l := fun j hj => ⟨(h j hj).1, (h j hj).2.later t⟩

theorem tail_drop (l : List Nat) (k : Nat) (h : k + 1 < l.length) : l.tail.drop k = nth l (k + 1) :: l.tail.drop (k + 1) := by
  rw [List.drop_eq_getElem_cons (by simp; omega)]
  congr 1
  simp [nth, List.getD_eq_getElem?_getD, h]

/-- the round of 'plain' -/
def PlRel (p : Nat) (o : Bool) (l : List Nat) (w : World) (k : Nat) (r : Nat) (wr : World) : Prop :=
  ∃ o', r < 4294967296 ∧ Wk p o' w wr ∧ Live o' r ∧ Good o' l ∧ Inv o o' (Near.plainM (nth l 0) l.tail) (Near.plainM r (l.tail.drop k))

set_option maxHeartbeats 400000 in
theorem plain_any (p g off cap : Nat) (l : List Nat) (o : Bool) (w : World) (hp : g ≠ p) (hl : 0 < l.length) (hn : l.length ≤ 8) (hcap : l.length ≤ cap) (hfl : Fl w g off l) (hgood : Good o l)
    (hc : w.heap[p]? = some (.cells #[.bool o] 46 (0, 0))) :
    Calls Try.prog 35 #[.pointer (some ⟨p, 0, none⟩), .slice (some ⟨g, off, none⟩) l.length cap] w fun e w' =>
      ∃ r o', e = .returned (.float .f32 r) ∧ r < 4294967296 ∧ Wk p o' w w' ∧ Tr o o' (Near.plainM (nth l 0) l.tail) r := by
  have h0 : w.cell? ⟨g, off, none⟩ = some (.float .f32 (nth l 0)) := hfl 0 hl
  go_enter Try.func35, Try.ntmps35
  go_wp2
  all_goals
    go_loopw [5, 14] (fun v i wr => ∃ k r : Nat, k < l.length ∧ i = .int .i64 k ∧ v = .float .f32 r ∧ PlRel p o l w k r wr) (fun _ i _ => l.length - (intOf i).toNat)
    case atStart => exact ⟨0, nth l 0, hl, rfl, rfl, o, (hgood 0 hl).1, Wk.refl hc, (hgood 0 hl).2, hgood, Inv.refl _ _⟩
    case round =>
      obtain ⟨k, r, hk, rfl, rfl, o1, hr, hwk, hlive, hg1, hinv⟩ := hrel
      by_cases hlt : k + 1 < l.length
      · have hcell : wr.cell? ⟨g, off + 1 + k, none⟩ = some (.float .f32 (nth l (k + 1))) := by
          have := (hfl.wk hwk hp) (k + 1) hlt
          rw [show off + (k + 1) = off + 1 + k by omega] at this; exact this
        go_wp2_with (go_at_call 42; refine (sum_any p r (nth l (k + 1)) o1 wr hr (hg1 _ hlt).1 (fun e => ⟨hlive e, (hg1 _ hlt).2 e⟩) hwk.flag).mono ?_; rintro e w' ⟨r2, o2, rfl, hr2, hwk2, htr⟩)
        all_goals
          go_roundw
          case rel => exact ⟨k + 1, r2, hlt, by go_num, rfl, o2, hr2, hwk.trans hwk2, htr.live, hg1.later htr, by rw [tail_drop l k hlt] at hinv; exact hinv.step htr⟩
          case measure => simp [intOf]; omega
      · go_wp2
        go_ret
        refine ⟨r, o1, rfl, hr, hwk, Inv.done ?_ hlive⟩
        rw [List.drop_eq_nil_of_le (by simp; omega)] at hinv
        exact hinv

end Go.Proofs.Ytnoccennhgnjnaa

import Derived.Test.YtnoccennhgnjnaaCode9
namespace Go.Proofs.Ytnoccennhgnjnaa
open Go.RowKit

theorem wf_i64 {a : Int} (h : (Lit.int .i64 a).wf = true) : -9223372036854775808 ≤ a ∧ a ≤ 9223372036854775807 := by
  simpa [Lit.wf, IntKind.min, IntKind.max, IntKind.signed, IntKind.bits] using h
theorem wf_u32 {a : Int} (h : (Lit.int .u32 a).wf = true) : 0 ≤ a ∧ a ≤ 4294967295 := by
  simpa [Lit.wf, IntKind.min, IntKind.max, IntKind.signed, IntKind.bits] using h

/-- a slice of words that came in -/
theorem us_of_row {w : World} {a : Option Addr} {len cap : Nat} {zs : List Int}
    (h : (a = none ∧ len = 0 ∧ cap = 0 ∧ zs = []) ∨ ∃ x, a = some x ∧ len ≤ cap ∧ cap ≤ maxLen ∧ zs.length = cap ∧ (∀ i, i < zs.length → w.cell? (x.add i) = some (.int .u32 (zs.getD i 0))) ∧ ∀ n ∈ zs, (Lit.int .u32 n).wf = true) :
    ∃ l : List Nat, l.length = len ∧ Us w (.slice a len cap) l ∧ Wd l ∧ l.length ≤ 9223372036854775807 := by
  rcases h with ⟨rfl, rfl, rfl, rfl⟩ | ⟨x, rfl, hl, hm, hz, hc, hw⟩
  · exact ⟨[], rfl, ⟨none, 0, rfl, fun h => absurd h (by simp)⟩, fun j hj => absurd hj (by simp), by simp⟩
  · have e : ((zs.take len).map Int.toNat).length = len := by simp; omega
    have en : ∀ j, j < len → nth ((zs.take len).map Int.toNat) j = (zs.getD j 0).toNat ∧ 0 ≤ zs.getD j 0 ∧ zs.getD j 0 ≤ 4294967295 := by
      intro j hj
      have hj' : j < zs.length := by omega
      have h1 : zs.getD j 0 = zs[j] := by simp [hj']
      refine ⟨by simp [nth, hj, hj'], ?_⟩
      rw [h1]; exact wf_u32 (hw _ (List.getElem_mem hj'))
    refine ⟨(zs.take len).map Int.toNat, e, ⟨some x, cap, by rw [e], ?_⟩, ?_, ?_⟩
    · rw [e]
      intro h0
      have hx : x = ⟨x.block, x.off, none⟩ := by
        have h1 := hc 0 (by omega)
        obtain ⟨b, o, s⟩ := x
        cases s with
        | none => rfl
        | some s =>
          exfalso
          simp only [World.cell?, Addr.add] at h1
          split at h1
          · simp at h1
          · cases h1
      refine ⟨x.block, x.off, by rw [← hx], fun j hj => ?_⟩
      rw [e] at hj
      have h1 := hc j (by omega)
      rw [hx] at h1
      rw [(en j hj).1]
      have : (((zs.getD j 0).toNat : Nat) : Int) = zs.getD j 0 := by have := (en j hj).2; omega
      rw [this]
      have ea : Addr.add ⟨x.block, x.off, none⟩ j = ⟨x.block, x.off + j, none⟩ := by
        unfold Addr.add
        split
        · subst_vars; rfl
        · rfl
      rw [ea] at h1
      exact h1
    · intro j hj
      rw [e] at hj
      rw [(en j hj).1]
      have := (en j hj).2
      omega
    · rw [e]; unfold maxLen at hm; omega

end Go.Proofs.Ytnoccennhgnjnaa

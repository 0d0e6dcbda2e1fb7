import Derived.Test.YtnoccennhgnjnaaRef12
import Derived.Laws.CopyOwn
namespace Go.Proofs.Ytnoccennhgnjnaa
open Go.RowKit

/-- a list that is lent: what it holds, and what stands behind it -/
def lentRow (l : List Nat) (j : Nat) : List Value := l.map uv ++ (List.replicate j (uv 77) ++ List.replicate (8 - j) (uv 0))
theorem lentRow_len (l : List Nat) (j : Nat) (h : j ≤ 8) : (lentRow l j).length = l.length + 8 := by simp [lentRow]; omega
theorem lentRow_set (l : List Nat) (j : Nat) (h : j < 8) : (lentRow l j).set (l.length + j) (uv 77) = lentRow l (j + 1) := by
  unfold lentRow
  rw [List.set_append, if_neg (by simp)]
  congr 1
  rw [List.set_append, if_neg (by simp)]
  have e : l.length + j - (l.map uv).length - (List.replicate j (uv 77)).length = 0 := by simp
  rw [e]
  obtain ⟨m, hm⟩ : ∃ m, 8 - j = m + 1 := ⟨7 - j, by omega⟩
  rw [hm, show 8 - (j + 1) = m by omega, List.replicate_succ, List.set_cons_zero, List.replicate_succ' (n := j), List.append_assoc]
  rfl

theorem own_block {w : World} {B t n : Nat} {xs : List Value} (h : w.ownsRow B 25 1 (.slice (some ⟨t, 0, none⟩) n n) n xs) : w.heap[t]? = some (.cells xs.toArray 25 (0, 0)) ∧ xs.length = n ∧ n ≤ maxLen := by
  obtain ⟨h1, h2⟩ := h
  rcases h2 with ⟨h2, _⟩ | ⟨g, cap, cur, hv, hg, hh, hnc, hcm, hcs, ht⟩
  · cases h2
  · simp at hv
    obtain ⟨rfl, rfl⟩ := hv
    refine ⟨?_, by omega, hcm⟩
    rw [hh, ← ht, List.take_of_length_le (by simp; omega)]
theorem block_own {w : World} {B t n : Nat} {xs : List Value} (h : w.heap[t]? = some (.cells xs.toArray 25 (0, 0))) (hn : xs.length = n) (hm : n ≤ maxLen) (hB : B ≤ t) : w.ownsRow B 25 1 (.slice (some ⟨t, 0, none⟩) n n) n xs :=
  ⟨by omega, Or.inr ⟨t, n, xs.toArray, rfl, hB, h, Nat.le_refl _, hm, by simpa using hn, by simp [← hn]⟩⟩

theorem lent_made {w : World} {B t n : Nat} (h : w.ownsRow B 25 1 (.slice (some ⟨t, 0, none⟩) n n) n (madeCells (Value.cells (.int .u32 0)) (n * 1)).toList) : w.heap[t]? = some (.cells (List.replicate n (uv 0)).toArray 25 (0, 0)) := by
  have e : (madeCells (Value.cells (.int .u32 0)) (n * 1)).toList = List.replicate n (uv 0) := by
    rw [show Value.cells (.int .u32 0) = #[.int .u32 0] from rfl, toList_madeCells_one, Nat.mul_one]; rfl
  rw [e] at h
  exact (own_block h).1
theorem lent_min (l : List Nat) : (l.map uv).length = Nat.min l.length (l.length + 8) := by rw [List.length_map]; exact (Nat.min_eq_left (by omega)).symm
theorem lent_fit (l : List Nat) : 0 + (l.map uv).length ≤ (List.replicate (l.length + 8) (uv 0)).length := by simp
theorem uv_one (l : List Nat) : ∀ v ∈ l.map uv, v.oneCell' = true := by
  intro v hv
  obtain ⟨x, _, rfl⟩ := List.mem_map.1 hv
  rfl
theorem add_addr (g off j : Nat) : Addr.add ⟨g, off, none⟩ j = ⟨g, off + j, none⟩ := by
  unfold Addr.add
  split
  · subst_vars; rfl
  · rfl
theorem lent_src {w w1 : World} {l : List Nat} {ad : Option Addr} {t : Nat} (hu : 0 < l.length → ∃ g off, ad = some ⟨g, off, none⟩ ∧ Ul w g off l) (hb : Below w.heap.size w w1) :
    0 < (l.map uv).length → some (⟨t, 0, none⟩ : Addr) = some ⟨t, 0, none⟩ ∧ ∃ a, ad = some a ∧ ∀ j v, (l.map uv)[j]? = some v → w1.cell? (a.add j) = some v := by
  intro h0
  rw [List.length_map] at h0
  obtain ⟨g, off, rfl, hul⟩ := hu h0
  refine ⟨rfl, _, rfl, fun j v hj => ?_⟩
  have hjl : j < l.length := by
    have := (List.getElem?_eq_some_iff.1 hj).1
    simpa using this
  have h1 := (hul.same (hb.block g (hul.lt h0))) j hjl
  rw [add_addr, h1, ← hj]
  simp [nth, hjl, uv]
theorem lent_copied {w : World} {B : Nat} {l : List Nat} (h : w.heap[B]? = some (.cells (splice (List.replicate (l.length + 8) (uv 0)) 0 (l.map uv)).toArray 25 (0, 0))) (hr : l.length * 4 ≤ 140737488351232) :
    w.ownsRow B 25 1 (.slice (some ⟨B, 0, none⟩) (l.length + 8) (l.length + 8)) (l.length + 8) (lentRow l 0) := by
  have e : splice (List.replicate (l.length + 8) (uv 0)) 0 (l.map uv) = lentRow l 0 := by
    unfold splice lentRow
    simp
  rw [e] at h
  exact block_own h (lentRow_len l 0 (by omega)) (by unfold maxLen; omega) (Nat.le_refl _)

set_option maxHeartbeats 1600000 in
theorem lent_any (w : World) (v : Value) (l : List Nat) (hu : Us w v l) (hreach : l.length * 4 ≤ 140737488351232) :
    Calls Try.prog 6 #[v] w fun e w' => ∃ t, e = .returned (.slice (some ⟨t, 0, none⟩) (l.length + 8) (l.length + 8)) ∧ w.heap.size ≤ t ∧ w'.ownsRow w.heap.size 25 1 (.slice (some ⟨t, 0, none⟩) (l.length + 8) (l.length + 8)) (l.length + 8) (lentRow l 8) ∧ Below w.heap.size w w' := by
  obtain ⟨i0, hi, hz0, hz1, hz2⟩ := info_parts Try.info25
  have hs1 : (Try.prog.info? 25).map (·.size) = some 1 := by rw [hi]; simp [hz1]
  obtain ⟨ad, cap, rfl, hu⟩ := hu
  go_enter Try.func6, Try.ntmps6
  have Hu := hide hu
  clear hu
  go_wp2_with (first | (at_make; refine wpList_make_full _ rfl _ _ 22 rfl w.heap.size 25 i0 (.int .u32 0) 1 Try.underlying22 hi hz0 hz1 .i64 .i64 _ _ (l.length + 8) rfl rfl (by omega) (by omega) (by rw [hz2]; omega) (by unfold maxLen; omega) (Nat.le_refl _) ?_; intro w1 hown1 hgr1; have hb1 := lent_made hown1; have bl1 : Below w.heap.size w w1 := Below.grown (Below.refl _ _) hgr1 (Nat.le_refl _) (fun k hk => by cases hk); have hsrc := hide (lent_src (t := w.heap.size) (unhide Hu) bl1)) | (refine wpList_copy_splice rfl _ _ 22 22 rfl 25 Try.underlying22 hs1 _ _ _ _ _ _ rfl rfl w.heap.size 0 _ 25 hb1 (l.map uv) (lent_min l) (unhide hsrc) (lent_fit l) (uv_one l) w.heap.size w bl1 (Nat.le_refl _) ?_; intro w2 hb2 bl2))
  have R0 := lent_copied (unhide hb2) hreach
  clear hb1 bl1 hown1 hgr1 hsrc hb2
  go_loopw [4] (fun i wr => ∃ j : Nat, j ≤ 8 ∧ i = .int .i64 ((l.length : Int) + j) ∧ wr.ownsRow w.heap.size 25 1 (.slice (some ⟨w.heap.size, 0, none⟩) (l.length + 8) (l.length + 8)) (l.length + 8) (lentRow l j) ∧ Below w.heap.size w wr) (fun i _ => l.length + 8 - (intOf i).toNat)
  case atStart => exact ⟨0, by omega, by simp, R0, bl2⟩
  case round =>
    clear R0
    obtain ⟨j, hj, rfl, hown, hbel⟩ := hrel
    by_cases hlt : j < 8
    · have hfr := hown.frozenAt (l.length + j)
      obtain ⟨v3, hv3⟩ : ∃ v, wr.cell? ⟨w.heap.size, l.length + j, none⟩ = some v := by
        have := lentRow_len l j hj
        exact ⟨_, (hown.cellAt (l.length + j) (by omega)).trans (List.getElem?_eq_getElem (by omega))⟩
      have R1 := (hown.stored (l.length + j) (uv 77)).1
      rw [lentRow_set l j hlt] at R1
      have HR := hide R1
      clear R1 hown
      go_wp2
      go_roundw
      case rel => exact ⟨j + 1, by omega, by go_num, unhide HR, hbel.setCell (Nat.le_refl _) _⟩
      case measure => simp [intOf]; omega
    · have hje : j = 8 := by omega
      subst hje
      go_wp2
      go_ret
      exact ⟨_, rfl, Nat.le_refl _, hown, hbel⟩

end Go.Proofs.Ytnoccennhgnjnaa

/- Plain facts for ClaimEvents: what an event claims, counted in minutes. Written by recipes/cl10.py. -/
import Derived.Test.YtgihekokbgggcaaGreatZClP
namespace Go.Proofs.YtgihekokbgggcaaGreat.S2
open Go.RowKit Spn Cl

theorem of_no12 (e : Ev.E) (h : (ofC e).2 ≠ 0) : (ofC e).1 = [] := by
  unfold ofC at *
  split at h <;> rename_i h1
  · rw [if_pos h1]
  · rw [if_neg h1]
    split at h <;> rename_i h2
    · rw [if_pos h2]
    · rw [if_neg h2]
      split at h <;> rename_i h3
      · rw [if_pos h3]
      · exact absurd rfl h
theorem of_yes12 (e : Ev.E) (h : (ofC e).2 = 0) : Ev.isE e = true ∧ (Rul.spansE e.r e.st e.lg e.ex).2 = 0 ∧ lapB (Rul.spansE e.r e.st e.lg e.ex).1 = false ∧ (ofC e).1 = neatC (eachL e.rooms (Rul.spansE e.r e.st e.lg e.ex).1) := by
  unfold ofC at *
  split at h <;> rename_i h1
  · exact absurd h (by decide)
  · rw [if_neg h1]
    split at h <;> rename_i h2
    · exact absurd h h2
    · rw [if_neg h2]
      split at h <;> rename_i h3
      · exact absurd h (by decide)
      · rw [if_neg h3]
        exact ⟨by simpa using h1, by simpa using h2, by simpa using h3, rfl⟩
theorem of_long12 (rooms : List Int) (ts : List Sp) (g : Int) (hn : rooms.Nodup) (hb : ∀ q ∈ rooms, 0 ≤ q ∧ q < 8) (ht : Rul.Times ts g) (hl : lapB ts = false) : longC (neatC (eachL rooms ts)) = (ts.length : Int) * g * (rooms.length : Int) := by
  rw [longC_neat, each_long rooms ts hn hb, sum_apart ts (times_okS ts g ht) (times_apart ts g ht hl), sum_same ts g (fun t h => ⟨times_okS ts g ht t h, ht.lg t h⟩), Int.mul_comm]
theorem of_has12 (rooms : List Int) (ts : List Sp) (g : Int) (hb : ∀ q ∈ rooms, 0 ≤ q ∧ q < 8) (ht : Rul.Times ts g) (q m : Int) (hq : q ∈ rooms) (t : Sp) (h : t ∈ ts) (h1 : t.1 ≤ m) (h2 : m < t.2) : hasB (neatC (eachL rooms ts)) q m = true := by
  have h8 := hb q hq
  obtain ⟨r, rfl⟩ : ∃ r : Nat, q = (r : Int) := ⟨q.toNat, by omega⟩
  rw [hasB_iff, neatC_has _ r (by omega), each_has]
  exact ⟨hq, ⟨t, h, times_okS ts g ht t h, h1, h2⟩⟩
theorem of_is12 (e : Ev.E) (ts : List Sp) (h : (ofC e).2 = 0) (hs : (Rul.spansE e.r e.st e.lg e.ex).1 = ts) :
    (Rul.spansE e.r e.st e.lg e.ex).2 = 0 ∧ Rul.Times ts e.lg ∧ longC (ofC e).1 = (ts.length : Int) * e.lg * (e.rooms.length : Int) ∧ e.rooms.length ≤ 4 ∧ ∀ q ∈ e.rooms, ∀ t ∈ ts, hasB (ofC e).1 q t.1 = true ∧ hasB (ofC e).1 q (t.2 - 1) = true := by
  subst hs
  obtain ⟨h1, h2, h3, h4⟩ := of_yes12 e h
  have ht := Rul.spansE_times e.r e.st e.lg e.ex h2
  obtain ⟨h5, h6, h7⟩ := is_rooms h1
  refine ⟨h2, ht, ?_, h7, fun q hq t h => ?_⟩
  · rw [h4, of_long12 e.rooms _ e.lg h5 h6 ht h3]
  · have hlg := ht.lg t h
    have hg := ht.g1
    rw [h4]
    exact ⟨of_has12 e.rooms _ e.lg h6 ht q t.1 hq t h (Int.le_refl _) (by omega), of_has12 e.rooms _ e.lg h6 ht q (t.2 - 1) hq t h (by omega) (by omega)⟩
theorem prod_bd (n : Nat) (g : Int) (m : Nat) (hn : n ≤ 41) (hm : m ≤ 4) (g1 : 1 ≤ g) (g2 : g ≤ 52596000) : 0 ≤ (n : Int) * g ∧ (n : Int) * g ≤ 2156436000 ∧ 0 ≤ (n : Int) * g * (m : Int) ∧ (n : Int) * g * (m : Int) ≤ 8625744000 := by
  have h1 : 0 ≤ (n : Int) * g := Int.mul_nonneg (by omega) (by omega)
  have h2 : (n : Int) * g ≤ 41 * 52596000 := Int.mul_le_mul (by omega) g2 (by omega) (by omega)
  have h3 : 0 ≤ (n : Int) * g * (m : Int) := Int.mul_nonneg h1 (by omega)
  have h4 : (n : Int) * g * (m : Int) ≤ 2156436000 * 4 := Int.mul_le_mul (by omega) (by omega) (by omega) (by omega)
  exact ⟨h1, by omega, h3, by omega⟩
theorem cut_keep2 {W w w' : World} {a1 a2 : Addr} {v1 v2 : Value} (hb : Below w.heap.size w w') (h : Below W.heap.size W w ∧ w.cell? a1 = some v1 ∧ w.cell? a2 = some v2) :
    Below W.heap.size W w' ∧ w'.cell? a1 = some v1 ∧ w'.cell? a2 = some v2 :=
  ⟨h.1.trans (hb.mono h.1.size), cell_keep hb h.2.1, cell_keep hb h.2.2⟩
theorem cut_keep4 {W w w' : World} {a1 a2 a3 a4 : Addr} {v1 v2 v3 v4 : Value} (hb : Below w.heap.size w w') (h : Below W.heap.size W w ∧ w.cell? a1 = some v1 ∧ w.cell? a2 = some v2 ∧ w.cell? a3 = some v3 ∧ w.cell? a4 = some v4) :
    Below W.heap.size W w' ∧ w'.cell? a1 = some v1 ∧ w'.cell? a2 = some v2 ∧ w'.cell? a3 = some v3 ∧ w'.cell? a4 = some v4 :=
  ⟨h.1.trans (hb.mono h.1.size), cell_keep hb h.2.1, cell_keep hb h.2.2.1, cell_keep hb h.2.2.2.1, cell_keep hb h.2.2.2.2⟩
end Go.Proofs.YtgihekokbgggcaaGreat.S2

/- Package claim: the rows of each room as claims, and how many minutes they have. -/
import Derived.Test.YtlmdceeeahnkcaaGreatDoorBC2
namespace Go.Proofs.YtlmdceeeahnkcaaGreatDoor.S2
open Go.RowKit Spn Cl

/-- the eight rows read. -/
def FamR (w : World) (vs : Nat → Value) (f : Nat → List Sp) : Prop := ∀ r, r < 8 → ∃ A c, vs r = .slice A (f r).length c ∧ Row w A (f r) ∧ (f r).length ≤ c
theorem FamR.keep {w w' : World} {vs : Nat → Value} {f : Nat → List Sp} (h : FamR w vs f) (hb : Below w.heap.size w w') : FamR w' vs f := fun r hr => by
  obtain ⟨A, c, e, hr, hc⟩ := h r hr
  exact ⟨A, c, e, hr.keep hb, hc⟩
theorem Own.rowc {w : World} {B : Nat} {v : Value} {l : List Sp} (h : Own w B v l) : ∃ A cap, v = .slice A l.length cap ∧ Row w A l ∧ l.length ≤ cap := by
  obtain ⟨A, cap, rfl, hr⟩ := Own.row h
  refine ⟨A, cap, rfl, hr, ?_⟩
  rcases h.2 with ⟨h1, hn⟩ | ⟨g, cap', cur, h1, _, _, hnc, _⟩
  · omega
  · injection h1 with _ _ h1
    omega
theorem famR_of {w : World} {B : Nat} {vs : Nat → Value} {f : Nat → List Sp} (h : ∀ r, r < 8 → Own w B (vs r) (f r)) : FamR w vs f := fun r hr => by
  exact Own.rowc (h r hr)
/-- the first rooms' claims. -/
def outK (f : Nat → List Sp) (k : Nat) : List C := (List.range k).flatMap fun (r : Nat) => tag (r : Int) (f r)
theorem outK_8 (f : Nat → List Sp) : outK f 8 = outC f := rfl
theorem outK_succ (f : Nat → List Sp) (k : Nat) : outK f (k + 1) = outK f k ++ tag (k : Int) (f k) := by unfold outK; rw [List.range_succ, List.flatMap_append]; simp
theorem outK_len (f : Nat → List Sp) : ∀ k, k ≤ 8 → (outK f k).length ≤ (outC f).length := fun k hk => by
  have h : ∀ j, (outK f k).length ≤ (outK f (k + j)).length := fun j => by
    induction j with
    | zero => exact Nat.le_refl _
    | succ j ih => rw [← Nat.add_assoc, outK_succ, List.length_append]; omega
  have := h (8 - k)
  rw [show k + (8 - k) = 8 by omega, outK_8] at this
  exact this
theorem tag_take (r : Int) (l : List Sp) (j : Nat) (h : j < l.length) : tag r (l.take (j + 1)) = tag r (l.take j) ++ [(r, l[j])] := by
  unfold tag; rw [List.take_succ_eq_append_getElem h, List.map_append]; rfl
theorem tag_len (r : Int) (l : List Sp) : (tag r l).length = l.length := by unfold tag; rw [List.length_map]

set_option maxRecDepth 100000 in
set_option maxHeartbeats 4000000 in
theorem claims_any (vs : Nat → Value) (f : Nat → List Sp) (w : World) (h : FamR w vs f) (hn : (outC f).length ≤ 1000000) :
    Calls Tryz.prog 85 #[famV vs] w (GivesC w (outC f)) := by
  have HFR := hide h
  have hbx := more (start w) (.cells #[vs 0, vs 1, vs 2, vs 3, vs 4, vs 5, vs 6, vs 7] 125)
  have HBX := hide hbx
  clear h hbx
  unfold famV
  go_enter Tryz.func85, Tryz.ntmps85
  go_wp2_with fail
  go_loopw [3, 9] (fun v i wr => ∃ k : Nat, k ≤ 8 ∧ i = .int .i64 k ∧ Hid (OwnC wr w.heap.size v (outK f k)) ∧ Hid (Below w.heap.size w wr)) (fun _ i _ => 8 - (intOf i).toNat)
  case atStart => exact ⟨0, by omega, rfl, hide (ownC_nil _ _), hide HBX.out⟩
  case round =>
    obtain ⟨k, hk, rfl, HO, HB⟩ := hrel
    by_cases hlt : k < 8
    · have hk0 : (0 : Int) ≤ (k : Int) := by omega
      have hk9 : (k : Int) < 8 := by omega
      have HIX := idxF vs k hlt wr
      obtain ⟨Ak, ck, hvk, hrk, _⟩ := HFR.out k hlt
      rw [hvk] at HIX
      have HLK : Hid ((outK f k).length + (f k).length ≤ 1000000) := hide (by have := outK_len f (k + 1) (by omega); rw [outK_succ, List.length_append, tag_len] at this; omega)
      have hfk : (f k).length ≤ 1000000 := by have := HLK.out; omega
      have HNX := hide (outK_succ f k)
      have HRK := hide hrk
      clear hrk
      go_wp2_with fail
      go_loopw [3, 15] (fun v i wq => ∃ j : Nat, j ≤ (f k).length ∧ i = .int .i64 j ∧ Hid (OwnC wq w.heap.size v (outK f k ++ tag (k : Int) ((f k).take j))) ∧ Hid (Below w.heap.size w wq)) (fun _ i _ => (f k).length - (intOf i).toNat)
      case atStart => exact ⟨0, by omega, rfl, hide (by simpa [tag] using HO.out), hide HB.out⟩
      case round =>
        obtain ⟨j, hj, rfl, HO2, HB2⟩ := hrel
        by_cases hlt2 : j < (f k).length
        · obtain ⟨b, off, rfl, hb, hcl⟩ := HRK.out (by intro h0; rw [h0] at hlt2; exact absurd hlt2 (Nat.not_lt_zero _))
          obtain ⟨m, hm⟩ : ∃ m, (f k)[j] = m := ⟨_, rfl⟩
          obtain ⟨x, y⟩ := m
          have p1 : wr.cell? ⟨b, off + j * 2, none⟩ = some (.int .i64 x) := by have := (hcl j hlt2).1; rw [hm] at this; exact (HB2.out.cell (p := ⟨b, _, none⟩) hb).trans this
          have p2 : wr.cell? ⟨b, off + j * 2 + 1, none⟩ = some (.int .i64 y) := by have := (hcl j hlt2).2; rw [hm] at this; exact (HB2.out.cell (p := ⟨b, _, none⟩) hb).trans this
          have hj0 : (0 : Int) ≤ (j : Int) := by omega
          have hj1 : (j : Int) < ((f k).length : Int) := by omega
          have HTK : Hid (outK f k ++ tag (k : Int) ((f k).take (j + 1)) = (outK f k ++ tag (k : Int) ((f k).take j)) ++ [((k : Int), (x, y))]) := hide (by rw [tag_take _ _ _ hlt2, hm, List.append_assoc])
          have hln : (outK f k ++ tag (k : Int) ((f k).take j)).length ≤ 1000000 := by have := HLK.out; rw [List.length_append, tag_len]; have := List.length_take_le j (f k); omega
          have hbb := more (start wr) (.cells #[.int .i64 x, .int .i64 y] 50)
          have hown := OwnC.keep HO2.out hbb
          have hbz := HB2.out.trans (hbb.mono HB2.out.size)
          have hbs := hbz.size
          generalize outK f k ++ tag (k : Int) ((f k).take j) = S at *
          clear hcl hm HIX
          go_wp2_with (at_builtin; refine wp_oneC (l := S) (p := ((k : Int), (x, y))) rfl _ _ rfl rfl (World.size_alloc _ _) rfl hown hbs hln ?_; intro v3 w3 hown3 hb3)
          have HO3 := hide hown3
          have HB3 := hide (hbz.trans hb3)
          clear hown hown3 hb3 hbz hbs hln
          go_wp2_with fail
          go_roundw
          case rel => exact ⟨j + 1, by omega, by go_num, by rw [HTK.out]; exact hide HO3.out, hide HB3.out⟩
          case measure => simp [intOf]; omega
        · obtain rfl : j = (f k).length := by omega
          rw [List.take_length, ← HNX.out] at HO2
          go_wp2_with fail
          go_roundw
          case rel => exact ⟨k + 1, by omega, by go_num, hide HO2.out, hide HB2.out⟩
          case measure => simp [intOf]; omega
    · obtain rfl : k = 8 := by omega
      go_wp2_with fail
      go_ret
      exact ⟨_, rfl, HO.out, HB.out⟩

theorem addL_lenC : ∀ (l : List Sp) (x : Sp), (addL l x).length ≤ l.length + 1
  | [], x => by simp [addL]
  | b :: r, x => by
    unfold addL
    split
    · have := addL_lenC r (min b.1 x.1, max b.2 x.2); simp; omega
    · split
      · simp
      · have := addL_lenC r x; simp; omega
theorem canon_lenC (l : List Sp) : (canon l).length ≤ l.length := by
  induction l using snoc_ind with
  | h0 => simp [canon]
  | h1 l a ih =>
    rw [canon_snoc]; unfold addR
    split
    · have := addL_lenC (canon l) a; simp; omega
    · simp; omega
end Go.Proofs.YtlmdceeeahnkcaaGreatDoor.S2

/- Plain facts for ClaimClash: an event that comes every k days, k days and some minutes long. -/
import Derived.Test.YtgihekokbgggcaaGreatZClEvM
namespace Go.Proofs.YtgihekokbgggcaaGreat.S2
open Spn Cl Rul

def eC (k ov : Int) (n : Nat) : Ev.E := ⟨[97], [], 77, k * 1440 + ov, [0, 5], dayR k n (-1), []⟩
def tsC (k g : Int) (n : Nat) : List Sp := ((List.range n).map fun (i : Nat) => (77 : Int) + k * i * 1440).map fun m => (m, m + g)
theorem tsC_len (k g : Int) (n : Nat) : (tsC k g n).length = n := by simp [tsC]
theorem tsC_get (k g : Int) (n j : Nat) (h : j < (tsC k g n).length) : (tsC k g n)[j] = (77 + k * j * 1440, 77 + k * j * 1440 + g) := by simp [tsC]
theorem eC_is (k ov : Int) (n : Nat) (k1 : 1 ≤ k) (k6 : k ≤ 6) (n1 : 2 ≤ n) (n2 : n ≤ 11) (o1 : -128 ≤ ov) (o2 : ov ≤ 127) : Ev.isE (eC k ov n) = true :=
  (Ev.isE_iff _).2 ⟨show Ev.uidB [97] = true by decide +kernel, show Ev.textB [] = true by decide +kernel, show Ev.minB 77 = true by decide +kernel, (btw_iff _ _ _).2 ⟨by show 1 ≤ k * 1440 + ov; omega, by show k * 1440 + ov ≤ 10080; omega⟩,
    isB_of_rec _ (dayR_rec k n (-1) k1 (by omega) (by omega) (by omega) (by omega) (by omega) (Or.inr rfl)), show Ev.exB [] = true by decide +kernel, Or.inl rfl, show Ev.roomsB [0, 5] = true by decide +kernel⟩
theorem eC_spans (k g : Int) (n : Nat) (k1 : 1 ≤ k) (k6 : k ≤ 6) (n1 : 2 ≤ n) (n2 : n ≤ 11) (g1 : 1 ≤ g) (g2 : g ≤ 10080) : spansE (dayR k n (-1)) 77 g [] = (tsC k g n, 0) := by
  have hm : k * ((n : Int) - 1) ≤ 6 * 10 := Int.mul_le_mul k6 (by omega) (by omega) (by omega)
  refine spansE_ok _ 77 g [] _ (dayR_rec k n (-1) k1 (by omega) (by omega) (by omega) (by omega) (by omega) (Or.inr rfl)) (by omega) (by omega) g1 g2 (daily_starts k 77 n k1 (by omega) (by omega) (by omega) (by omega) (by omega)) ?_
  intro m h
  obtain ⟨i, hi, rfl⟩ := List.mem_map.1 h
  have hi := List.mem_range.1 hi
  have : k * (i : Int) ≤ 6 * 10 := Int.mul_le_mul k6 (by omega) (by omega) (by omega)
  omega
theorem eC_times (k g : Int) (n : Nat) (k1 : 1 ≤ k) (k6 : k ≤ 6) (n1 : 2 ≤ n) (n2 : n ≤ 11) (g1 : 1 ≤ g) (g2 : g ≤ 10080) : Times (tsC k g n) g := by
  have h := spansE_times (dayR k n (-1)) 77 g [] (by rw [eC_spans k g n k1 k6 n1 n2 g1 g2])
  rw [eC_spans k g n k1 k6 n1 n2 g1 g2] at h
  exact h
theorem clash_lap (k ov : Int) (n : Nat) (k1 : 1 ≤ k) (k6 : k ≤ 6) (n1 : 2 ≤ n) (n2 : n ≤ 11) (o1 : -128 ≤ ov) (o2 : ov ≤ 127) : lapB (tsC k (k * 1440 + ov) n) = decide (0 < ov) := by
  have ht := eC_times k (k * 1440 + ov) n k1 k6 n1 n2 (by omega) (by omega)
  have hl := tsC_len k (k * 1440 + ov) n
  by_cases h : 0 < ov
  · rw [decide_eq_true h]
    refine lapB_yes _ 0 (by omega) ?_
    rw [lap_times _ _ ht 0 (by omega), tsC_get, tsC_get]
    refine decide_eq_true ?_
    simp only [Int.natCast_zero, Int.mul_zero]
    omega
  · rw [decide_eq_false h]
    refine lapB_no _ fun j hj => ?_
    rw [lap_times _ _ ht j hj, tsC_get, tsC_get]
    refine decide_eq_false ?_
    have : k * ((j + 1 : Nat) : Int) = k * j + k := by rw [Int.natCast_add, Int.mul_add]; simp
    simp only [this]
    omega
theorem neat_pw : ∀ l : List Sp, (∀ a ∈ l, Ok a) → l.Pairwise (fun a b => a.2 < b.1) → Neat l
  | [], _, _ => trivial
  | a :: l, h, p => ⟨h a List.mem_cons_self, fun b hb => (List.pairwise_cons.1 p).1 b hb, neat_pw l (fun b hb => h b (List.mem_cons_of_mem _ hb)) (List.pairwise_cons.1 p).2⟩
theorem tsC_one : ∀ k ∈ List.range 6, ∀ n ∈ List.range 10, (canon (tsC ((k : Int) + 1) (((k : Int) + 1) * 1440 + 0) (n + 2))).length = 1 := by decide +kernel
theorem clash_canon (k ov : Int) (n : Nat) (k1 : 1 ≤ k) (k6 : k ≤ 6) (n1 : 2 ≤ n) (n2 : n ≤ 11) (o1 : -128 ≤ ov) (o2 : ov ≤ 0) : (canon (tsC k (k * 1440 + ov) n)).length = if ov = 0 then 1 else n := by
  split <;> rename_i h
  · subst h
    have := tsC_one (k - 1).toNat (List.mem_range.2 (by omega)) (n - 2) (List.mem_range.2 (by omega))
    rw [show (((k - 1).toNat : Nat) : Int) + 1 = k by omega, show n - 2 + 2 = n by omega] at this
    exact this
  · have ht := eC_times k (k * 1440 + ov) n k1 k6 n1 n2 (by omega) (by omega)
    rw [← canon_of_neat (tsC k (k * 1440 + ov) n) (tsC k (k * 1440 + ov) n) (neat_pw _ (times_okS _ _ ht) ?_) fun _ => Iff.rfl, tsC_len]
    unfold tsC
    rw [List.pairwise_map, List.pairwise_map]
    refine List.pairwise_lt_range.imp fun {i j} hij => ?_
    have h1 : k * ((i : Int) + 1) ≤ k * (j : Int) := Int.mul_le_mul_of_nonneg_left (by omega) (by omega)
    rw [Int.mul_add, Int.mul_one] at h1
    show (77 : Int) + k * i * 1440 + (k * 1440 + ov) < 77 + k * j * 1440
    omega
theorem rooms_len (ts : List Sp) : (neatC (eachL [0, 5] ts)).length = 2 * (canon ts).length := by
  have h : neatC (eachL [0, 5] ts) = outC (roomF [0, 5] ts) := outC_ext fun r hr => each_room [0, 5] ts r hr
  rw [h]
  unfold outC
  rw [show List.range 8 = [0, 1, 2, 3, 4, 5, 6, 7] from rfl]
  simp [roomF, tag]
  omega
theorem clash_yes (k ov : Int) (n : Nat) (k1 : 1 ≤ k) (k6 : k ≤ 6) (n1 : 2 ≤ n) (n2 : n ≤ 11) (o1 : 0 < ov) (o2 : ov ≤ 127) : ofC (eC k ov n) = ([], 13) := by
  unfold ofC
  rw [if_neg (by rw [eC_is k ov n k1 k6 n1 n2 (by omega) o2]; simp)]
  have hs : spansE (eC k ov n).r (eC k ov n).st (eC k ov n).lg (eC k ov n).ex = (tsC k (k * 1440 + ov) n, 0) := eC_spans k (k * 1440 + ov) n k1 k6 n1 n2 (by omega) (by omega)
  rw [hs, if_neg (by simp), if_pos (by rw [clash_lap k ov n k1 k6 n1 n2 (by omega) o2]; exact decide_eq_true o1)]
theorem clash_no (k ov : Int) (n : Nat) (k1 : 1 ≤ k) (k6 : k ≤ 6) (n1 : 2 ≤ n) (n2 : n ≤ 11) (o1 : -128 ≤ ov) (o2 : ov ≤ 0) :
    ∃ l, ofC (eC k ov n) = (l, 0) ∧ (l.length : Int) = (if ov = 0 then 2 else 2 * (n : Int)) ∧ longC l = 2 * (n : Int) * (k * 1440 + ov) := by
  have hs : spansE (eC k ov n).r (eC k ov n).st (eC k ov n).lg (eC k ov n).ex = (tsC k (k * 1440 + ov) n, 0) := eC_spans k (k * 1440 + ov) n k1 k6 n1 n2 (by omega) (by omega)
  have hl : lapB (tsC k (k * 1440 + ov) n) = false := by rw [clash_lap k ov n k1 k6 n1 n2 o1 (by omega)]; exact decide_eq_false (by omega)
  have ht := eC_times k (k * 1440 + ov) n k1 k6 n1 n2 (by omega) (by omega)
  refine ⟨neatC (eachL [0, 5] (tsC k (k * 1440 + ov) n)), ?_, ?_, ?_⟩
  · unfold ofC
    rw [if_neg (by rw [eC_is k ov n k1 k6 n1 n2 o1 (by omega)]; simp), hs, if_neg (by simp), if_neg (by rw [hl]; simp)]
    rfl
  · rw [rooms_len, clash_canon k ov n k1 k6 n1 n2 o1 o2]
    split <;> omega
  · rw [of_long12 [0, 5] _ (k * 1440 + ov) (by decide) (by decide) ht hl, tsC_len]
    show (n : Int) * (k * 1440 + ov) * 2 = _
    rw [Int.mul_assoc 2, Int.mul_comm]
end Go.Proofs.YtgihekokbgggcaaGreat.S2

/- CivilNoDays walked: days that there aren't, times that there aren't, years too early, too late. -/
import Derived.Test.YtbohogaopfkmlaaDoorCivMonths
import Derived.Deep.WholeRow
namespace Go.Proofs.YtbohogaopfkmlaaDoor
open Go.RowKit

theorem nd_keep {W W' : World} (hb : Below W.heap.size W W') {b o : Nat} {v : Value} (h : W.cell? ⟨b, o, none⟩ = some v) (hl : b < W.heap.size) : W'.cell? ⟨b, o, none⟩ = some v := by
  rw [(bcell hb).1 b o hl, h]
theorem nd_dim (y m v d : Int) (h : Cal.dim y m = v) (hd : d < 1 ∨ v < d) : numE y m d = (0, 11) := by
  apply numE_11
  rw [Bool.eq_false_iff]
  intro hb
  rw [Cal.isB_iff, h] at hb
  omega
theorem nd_0 (k : Int) (h : 1 ≤ k) : numE 2001 2 (28 + k) = (0, 11) := nd_dim 2001 2 28 _ dim_2001 (by omega)
theorem nd_1 : numE 2004 13 1 = (0, 11) := by decide +kernel
theorem nd_2 : numE 2004 0 1 = (0, 11) := by decide +kernel
theorem nd_3 (k : Int) (h : 1 ≤ k) : numE 2004 4 (30 + k) = (0, 11) := nd_dim 2004 4 30 _ (by decide +kernel) (by omega)
theorem nd_4 (k : Int) (h : 1 ≤ k) : numE 2004 5 (1 - k) = (0, 11) := nd_dim 2004 5 31 _ (by decide +kernel) (by omega)
theorem nd_5 : numE 2100 2 29 = (0, 11) := by decide +kernel
theorem nd_6 : numE 1999 12 31 = (0, 10) := by decide +kernel
theorem nd_7 (k : Int) (h : 1 ≤ k) : numE (2099 + k) 1 1 = (0, 10) := numE_10 _ _ _ (by rw [Cal.isB_iff]; simp [Cal.dim]) (by omega)
theorem nd_ok : numE 2004 5 6 = (Cal.num 2004 5 6, 0) := numE_0 2004 5 6 (by decide +kernel) (by decide) (by decide)

/-- the eight dates of the law, cell by cell. -/
def dates (k : Int) : Array Value := #[.int .i64 2001, .int .i64 2, .int .i64 (28 + k), .int .i64 2004, .int .i64 13, .int .i64 1, .int .i64 2004, .int .i64 0, .int .i64 1, .int .i64 2004, .int .i64 4, .int .i64 (30 + k), .int .i64 2004, .int .i64 5, .int .i64 (1 - k), .int .i64 2100, .int .i64 2, .int .i64 29, .int .i64 1999, .int .i64 12, .int .i64 31, .int .i64 (2099 + k), .int .i64 1, .int .i64 1]

set_option maxRecDepth 100000 in
set_option maxHeartbeats 2000000 in
theorem nodays_11 (a b k : Int) (j : Nat) (y m d : Int) (w : World) (ht : Tab w) (h1 : 0 ≤ a) (h2 : a ≤ 255) (g1 : 0 ≤ b) (g2 : b ≤ 255) (hk : b % 50 + 1 = k) (hk1 : 1 ≤ k) (hk2 : k ≤ 50) (hj : a % 8 = (j : Int)) (hj6 : j < 6)
    (hd : ∀ C : Array Value, C = dates k → C[j * 3]? = some (.int .i64 y) ∧ C[j * 3 + 1]? = some (.int .i64 m) ∧ C[j * 3 + 2]? = some (.int .i64 d)) (hn : numE y m d = (0, 11)) :
    Calls Tryd.prog 9 #[.int .u8 a, .int .u8 b] w fun e w' => e = .returned (.bool true) ∧ Below w.heap.size w w' := by
  have HT := hide ht
  have HK := hide hk
  have HJ := hide hj
  have HDD := hide hd
  have HNN := hide hn
  have hb : 0 ≤ b % 50 ∧ b % 50 ≤ 49 := by omega
  clear ht hk hj hd hn
  go_enter Tryd.func9, Tryd.ntmps9
  go_wp2_with fail
  refine (known_any _ HT.out).mono ?_
  rintro e w1 ⟨rfl, hb1⟩
  go_upto_region 4 with (fail)
  rw [HK.out]
  go_upto_region 5 with (refine wpList_store_row rfl 54 (.tmp 6) (.tmp 40) rfl w1.heap.size _ (by rfl) (by rfl) 54 _ (heap_alloc_new _ _) (by kernel_rfl) (by rfl) (by simp [Value.oneCell']) ?_)
  rw [World.setRow_alloc_new]
  obtain ⟨C, hC⟩ : ∃ C : Array Value, C = #[.int .i64 2001, .int .i64 2, .int .i64 (28 + k), .int .i64 2004, .int .i64 13, .int .i64 1, .int .i64 2004, .int .i64 0, .int .i64 1, .int .i64 2004, .int .i64 4, .int .i64 (30 + k), .int .i64 2004, .int .i64 5, .int .i64 (1 - k), .int .i64 2100, .int .i64 2, .int .i64 29, .int .i64 1999, .int .i64 12, .int .i64 31, .int .i64 (2099 + k), .int .i64 1, .int .i64 1] := ⟨_, rfl⟩
  rw [← hC]
  obtain ⟨q0, q1, q2⟩ := HDD.out C hC
  clear hC
  have hj7 : (j : Int) < 8 := by omega
  go_upto_region 6 with (fail)
  rw [HJ.out]
  go_wp2_with fail
  refine (number_is y m d 0 11 _ HNN.out).mono ?_
  rintro e w2 ⟨rfl, hb2⟩
  have s2 : w1.heap.size < w2.heap.size := by have := hb2.size; simp at this; omega
  have r0 : w2.cell? ⟨w1.heap.size, j * 3, none⟩ = some (.int .i64 y) := nd_keep hb2 (by simp [q0]) (by simp)
  have r1 : w2.cell? ⟨w1.heap.size, j * 3 + 1, none⟩ = some (.int .i64 m) := nd_keep hb2 (by simp [q1]) (by simp)
  have r2 : w2.cell? ⟨w1.heap.size, j * 3 + 2, none⟩ = some (.int .i64 d) := nd_keep hb2 (by simp [q2]) (by simp)
  go_wp2_with fail
  refine (Minute_err y m d 0 0 11 _ HNN.out rfl).mono ?_
  rintro e w3 ⟨rfl, hb3⟩
  clear q0 q1 q2 r0 r1 r2
  go_wp2_with fail
  refine (Minute_time 2004 5 6 (23 + k) 0 _ _ nd_ok (by omega)).mono ?_
  rintro e w4 ⟨rfl, hb4⟩
  have c0 : w4.cell? ⟨w3.heap.size, 0, none⟩ = some (.int .i64 2004) := nd_keep hb4 (by simp) (by simp)
  have c1 : w4.cell? ⟨w3.heap.size, 1, none⟩ = some (.int .i64 5) := nd_keep hb4 (by simp) (by simp)
  have c2 : w4.cell? ⟨w3.heap.size, 2, none⟩ = some (.int .i64 6) := nd_keep hb4 (by simp) (by simp)
  go_wp2_with fail
  refine (Minute_time 2004 5 6 0 (-k) _ _ nd_ok (by omega)).mono ?_
  rintro e w5 ⟨rfl, hb5⟩
  have hj6' : ¬ (6 ≤ (j : Int)) := by omega
  go_wp2_with fail
  go_ret
  have s1 := hb1.size
  have s3 := hb3.size
  have s4 := hb4.size
  simp at s4
  exact ⟨rfl, (((((hb1.alloc s1 _).trans (hb2.mono (by simp; omega))).trans (hb3.mono (by omega))).alloc (by omega) _).trans (hb4.mono (by simp; omega))).trans (hb5.mono (by omega))⟩

set_option maxRecDepth 100000 in
set_option maxHeartbeats 2000000 in
theorem nodays_10 (a b k : Int) (j : Nat) (y m d : Int) (w : World) (ht : Tab w) (h1 : 0 ≤ a) (h2 : a ≤ 255) (g1 : 0 ≤ b) (g2 : b ≤ 255) (hk : b % 50 + 1 = k) (hk1 : 1 ≤ k) (hk2 : k ≤ 50) (hj : a % 8 = (j : Int)) (hj6 : 6 ≤ j) (hj8 : j < 8)
    (hd : ∀ C : Array Value, C = dates k → C[j * 3]? = some (.int .i64 y) ∧ C[j * 3 + 1]? = some (.int .i64 m) ∧ C[j * 3 + 2]? = some (.int .i64 d)) (hn : numE y m d = (0, 10)) :
    Calls Tryd.prog 9 #[.int .u8 a, .int .u8 b] w fun e w' => e = .returned (.bool true) ∧ Below w.heap.size w w' := by
  have HT := hide ht
  have HK := hide hk
  have HJ := hide hj
  have HDD := hide hd
  have HNN := hide hn
  have hb : 0 ≤ b % 50 ∧ b % 50 ≤ 49 := by omega
  clear ht hk hj hd hn
  go_enter Tryd.func9, Tryd.ntmps9
  go_wp2_with fail
  refine (known_any _ HT.out).mono ?_
  rintro e w1 ⟨rfl, hb1⟩
  go_upto_region 4 with (fail)
  rw [HK.out]
  go_upto_region 5 with (refine wpList_store_row rfl 54 (.tmp 6) (.tmp 40) rfl w1.heap.size _ (by rfl) (by rfl) 54 _ (heap_alloc_new _ _) (by kernel_rfl) (by rfl) (by simp [Value.oneCell']) ?_)
  rw [World.setRow_alloc_new]
  obtain ⟨C, hC⟩ : ∃ C : Array Value, C = #[.int .i64 2001, .int .i64 2, .int .i64 (28 + k), .int .i64 2004, .int .i64 13, .int .i64 1, .int .i64 2004, .int .i64 0, .int .i64 1, .int .i64 2004, .int .i64 4, .int .i64 (30 + k), .int .i64 2004, .int .i64 5, .int .i64 (1 - k), .int .i64 2100, .int .i64 2, .int .i64 29, .int .i64 1999, .int .i64 12, .int .i64 31, .int .i64 (2099 + k), .int .i64 1, .int .i64 1] := ⟨_, rfl⟩
  rw [← hC]
  obtain ⟨q0, q1, q2⟩ := HDD.out C hC
  clear hC
  have hj7 : (j : Int) < 8 := by omega
  go_upto_region 6 with (fail)
  rw [HJ.out]
  go_wp2_with fail
  refine (number_is y m d 0 10 _ HNN.out).mono ?_
  rintro e w2 ⟨rfl, hb2⟩
  have s2 : w1.heap.size < w2.heap.size := by have := hb2.size; simp at this; omega
  have r0 : w2.cell? ⟨w1.heap.size, j * 3, none⟩ = some (.int .i64 y) := nd_keep hb2 (by simp [q0]) (by simp)
  have r1 : w2.cell? ⟨w1.heap.size, j * 3 + 1, none⟩ = some (.int .i64 m) := nd_keep hb2 (by simp [q1]) (by simp)
  have r2 : w2.cell? ⟨w1.heap.size, j * 3 + 2, none⟩ = some (.int .i64 d) := nd_keep hb2 (by simp [q2]) (by simp)
  go_wp2_with fail
  refine (Minute_err y m d 0 0 10 _ HNN.out rfl).mono ?_
  rintro e w3 ⟨rfl, hb3⟩
  clear q0 q1 q2 r0 r1 r2
  go_wp2_with fail
  refine (Minute_time 2004 5 6 (23 + k) 0 _ _ nd_ok (by omega)).mono ?_
  rintro e w4 ⟨rfl, hb4⟩
  have c0 : w4.cell? ⟨w3.heap.size, 0, none⟩ = some (.int .i64 2004) := nd_keep hb4 (by simp) (by simp)
  have c1 : w4.cell? ⟨w3.heap.size, 1, none⟩ = some (.int .i64 5) := nd_keep hb4 (by simp) (by simp)
  have c2 : w4.cell? ⟨w3.heap.size, 2, none⟩ = some (.int .i64 6) := nd_keep hb4 (by simp) (by simp)
  go_wp2_with fail
  refine (Minute_time 2004 5 6 0 (-k) _ _ nd_ok (by omega)).mono ?_
  rintro e w5 ⟨rfl, hb5⟩
  have hj6' : 6 ≤ (j : Int) := by omega
  go_wp2_with fail
  go_ret
  have s1 := hb1.size
  have s3 := hb3.size
  have s4 := hb4.size
  simp at s4
  exact ⟨rfl, (((((hb1.alloc s1 _).trans (hb2.mono (by simp; omega))).trans (hb3.mono (by omega))).alloc (by omega) _).trans (hb4.mono (by simp; omega))).trans (hb5.mono (by omega))⟩

theorem nodays_walk (a b : Int) (w : World) (ht : Tab w) (h1 : 0 ≤ a) (h2 : a ≤ 255) (g1 : 0 ≤ b) (g2 : b ≤ 255) :
    Calls Tryd.prog 9 #[.int .u8 a, .int .u8 b] w fun e w' => e = .returned (.bool true) ∧ Below w.heap.size w w' := by
  generalize hk : b % 50 + 1 = k
  have hk1 : 1 ≤ k := by omega
  have hk2 : k ≤ 50 := by omega
  have hj : a % 8 = 0 ∨ a % 8 = 1 ∨ a % 8 = 2 ∨ a % 8 = 3 ∨ a % 8 = 4 ∨ a % 8 = 5 ∨ a % 8 = 6 ∨ a % 8 = 7 := by omega
  rcases hj with hj | hj | hj | hj | hj | hj | hj | hj
  · exact nodays_11 a b k 0 2001 2 (28 + k) w ht h1 h2 g1 g2 hk hk1 hk2 hj (by omega) (fun C hC => by subst hC; exact ⟨rfl, rfl, rfl⟩) (nd_0 k hk1)
  · exact nodays_11 a b k 1 2004 13 1 w ht h1 h2 g1 g2 hk hk1 hk2 hj (by omega) (fun C hC => by subst hC; exact ⟨rfl, rfl, rfl⟩) nd_1
  · exact nodays_11 a b k 2 2004 0 1 w ht h1 h2 g1 g2 hk hk1 hk2 hj (by omega) (fun C hC => by subst hC; exact ⟨rfl, rfl, rfl⟩) nd_2
  · exact nodays_11 a b k 3 2004 4 (30 + k) w ht h1 h2 g1 g2 hk hk1 hk2 hj (by omega) (fun C hC => by subst hC; exact ⟨rfl, rfl, rfl⟩) (nd_3 k hk1)
  · exact nodays_11 a b k 4 2004 5 (1 - k) w ht h1 h2 g1 g2 hk hk1 hk2 hj (by omega) (fun C hC => by subst hC; exact ⟨rfl, rfl, rfl⟩) (nd_4 k hk1)
  · exact nodays_11 a b k 5 2100 2 29 w ht h1 h2 g1 g2 hk hk1 hk2 hj (by omega) (fun C hC => by subst hC; exact ⟨rfl, rfl, rfl⟩) nd_5
  · exact nodays_10 a b k 6 1999 12 31 w ht h1 h2 g1 g2 hk hk1 hk2 hj (by omega) (by omega) (fun C hC => by subst hC; exact ⟨rfl, rfl, rfl⟩) nd_6
  · exact nodays_10 a b k 7 (2099 + k) 1 1 w ht h1 h2 g1 g2 hk hk1 hk2 hj (by omega) (by omega) (fun C hC => by subst hC; exact ⟨rfl, rfl, rfl⟩) (nd_7 k hk1)

end Go.Proofs.YtbohogaopfkmlaaDoor

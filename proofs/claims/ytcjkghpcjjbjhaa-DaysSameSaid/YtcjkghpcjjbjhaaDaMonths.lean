/- DaysMonths walked. Written by recipes/da9.py. -/
import Derived.Test.YtcjkghpcjjbjhaaDaG
import Derived.Test.YtcjkghpcjjbjhaaDaK
namespace Go.Proofs.Ytcjkghpcjjbjhaa
open Go.RowKit Rul Go.Sort

theorem rec_plain (fr ev : Int) (h1 : 1 ≤ fr) (h2 : fr ≤ 4) (h3 : 1 ≤ ev) (h4 : ev ≤ 100) : recB ⟨fr, ev, 0, -1, [], [], []⟩ = true := by
  have a : rngB fr ev 0 (-1) = true := by
    unfold rngB; rw [(btw_iff _ _ _).2 ⟨h1, h2⟩, (btw_iff _ _ _).2 ⟨h3, h4⟩]; decide
  rw [recB_is, a]
  rcases fr_cases fr h1 h2 with rfl | rfl | rfl | rfl <;> decide
theorem plain_K (fr ev s k : Int) (h1 : 1 ≤ fr) (h2 : fr ≤ 4) (h3 : 1 ≤ ev) (h4 : ev ≤ 100) (s0 : 0 ≤ s) (s1 : s < 36525) (k0 : 0 ≤ k) (k1 : k < 36525) (h : pA fr s (ev * k) < 36525) : perK ⟨fr, ev, 0, -1, [], [], []⟩ s k = true :=
  (perK_iff _ _ _).2 ⟨⟨s0, s1⟩, rec_plain fr ev h1 h2 h3 h4, ⟨k0, k1⟩, h⟩
theorem per_at (r : Rul.T) (s k a b : Int) (h : perK r s k = true) (ha : pA r.fr s (r.ev * k) = a) (hb : pB r.fr s (r.ev * k) = b) (h0 : 0 ≤ a) (h1 : b ≤ 36525) : perA r s k = a ∧ perB r s k = b ∧ perK r s k = true := by
  unfold perA perB
  rw [if_pos h, if_pos h, ha, hb]
  exact ⟨by omega, by omega, h⟩
set_option maxRecDepth 100000 in
set_option maxHeartbeats 2000000 in
theorem months_walk (x e k ev s kk n y m d y2 m2 f dv : Int) (w : World) (x0 : 0 ≤ x) (x1 : x ≤ 65535) (e0 : 0 ≤ e) (_e1 : e ≤ 255) (k0 : 0 ≤ k) (_k1 : k ≤ 255)
    (hs : x % 9131 = s) (he : e % 6 + 1 = ev) (hk : k % 100 = kk) (hn : ev * kk = n) (hn0 : 0 ≤ n) (hn1 : n ≤ 594) (hy : 2000 ≤ y) (hy1 : y ≤ 2024) (hm0 : 1 ≤ m) (hm1 : m ≤ 12)
    (HD : Hid (Cal.yOf s = y ∧ Cal.mOf s = m ∧ Cal.dOf s = d)) (h2 : (12 * y + m - 1 + n) / 12 = y2) (h3 : (12 * y + m - 1 + n) % 12 + 1 = m2) (HF : Hid (numE y2 m2 1 = (f, 0))) (HV : Hid (Cal.dim y2 m2 = dv)) (_hf0 : 0 ≤ f) (_hf1 : f ≤ 36525) (hd0 : 0 ≤ dv) (hd1 : dv ≤ 31)
    (HP : Hid (perA ⟨3, ev, 0, -1, [], [], []⟩ s kk = f ∧ perB ⟨3, ev, 0, -1, [], [], []⟩ s kk = f + dv ∧ perK ⟨3, ev, 0, -1, [], [], []⟩ s kk = true)) :
    Calls Try.prog 6 #[.int .u16 x, .int .u8 e, .int .u8 k] w (Ans w (.bool true)) := by
  have s0' : 0 ≤ s := by omega
  have s1' : s < 36525 := by omega
  have t1 : x.tmod 9131 = x % 9131 := Int.tmod_eq_emod_of_nonneg (by omega)
  have t2 : e.tmod 6 = e % 6 := Int.tmod_eq_emod_of_nonneg (by omega)
  have t3 : k.tmod 100 = k % 100 := Int.tmod_eq_emod_of_nonneg (by omega)
  have t4 : (12 * y + m - 1 + n).tdiv 12 = (12 * y + m - 1 + n) / 12 := Int.tdiv_eq_ediv_of_nonneg (by omega)
  have t5 : (12 * y + m - 1 + n).tmod 12 = (12 * y + m - 1 + n) % 12 := Int.tmod_eq_emod_of_nonneg (by omega)
  have g1 : (f == f) = true := beq_self_eq_true f
  have g2 : (dv == dv) = true := beq_self_eq_true dv
  have g3 : (f + dv - f == dv) = true := by rw [beq_iff_eq]; omega
  go_enter Try.func6, Try.ntmps6
  go_wp2_with fail
  refine (known_any _).mono ?_
  rintro e u1 ⟨rfl, hb⟩
  have HBX := hide hb
  clear hb
  replace HBX := hide (more HBX.out (.cells #[.int .i64 3, .int .i64 ev, .int .i64 0, .int .i64 (-1), .slice none 0 0, .slice none 0 0, .slice none 0 0] 25))
  have s0 : (u1.alloc (.cells #[.int .i64 3, .int .i64 ev, .int .i64 0, .int .i64 (-1), .slice none 0 0, .slice none 0 0, .slice none 0 0] 25)).cell? ⟨u1.heap.size, 0, none⟩ = some (.int .i64 3) := by rw [World.cell?_alloc_at _ _ _ _ rfl]; rfl
  have s1 : (u1.alloc (.cells #[.int .i64 3, .int .i64 ev, .int .i64 0, .int .i64 (-1), .slice none 0 0, .slice none 0 0, .slice none 0 0] 25)).cell? ⟨u1.heap.size, 1, none⟩ = some (.int .i64 ev) := by rw [World.cell?_alloc_at _ _ _ _ rfl]; rfl
  have s2 : (u1.alloc (.cells #[.int .i64 3, .int .i64 ev, .int .i64 0, .int .i64 (-1), .slice none 0 0, .slice none 0 0, .slice none 0 0] 25)).cell? ⟨u1.heap.size, 2, none⟩ = some (.int .i64 0) := by rw [World.cell?_alloc_at _ _ _ _ rfl]; rfl
  have s3 : (u1.alloc (.cells #[.int .i64 3, .int .i64 ev, .int .i64 0, .int .i64 (-1), .slice none 0 0, .slice none 0 0, .slice none 0 0] 25)).cell? ⟨u1.heap.size, 3, none⟩ = some (.int .i64 (-1)) := by rw [World.cell?_alloc_at _ _ _ _ rfl]; rfl
  have s4 : (u1.alloc (.cells #[.int .i64 3, .int .i64 ev, .int .i64 0, .int .i64 (-1), .slice none 0 0, .slice none 0 0, .slice none 0 0] 25)).cell? ⟨u1.heap.size, 4, none⟩ = some (.slice none 0 0) := by rw [World.cell?_alloc_at _ _ _ _ rfl]; rfl
  have s5 : (u1.alloc (.cells #[.int .i64 3, .int .i64 ev, .int .i64 0, .int .i64 (-1), .slice none 0 0, .slice none 0 0, .slice none 0 0] 25)).cell? ⟨u1.heap.size, 5, none⟩ = some (.slice none 0 0) := by rw [World.cell?_alloc_at _ _ _ _ rfl]; rfl
  have s6 : (u1.alloc (.cells #[.int .i64 3, .int .i64 ev, .int .i64 0, .int .i64 (-1), .slice none 0 0, .slice none 0 0, .slice none 0 0] 25)).cell? ⟨u1.heap.size, 6, none⟩ = some (.slice none 0 0) := by rw [World.cell?_alloc_at _ _ _ _ rfl]; rfl
  go_wp2_with fail
  generalize (u1.alloc (.cells #[.int .i64 3, .int .i64 ev, .int .i64 0, .int .i64 (-1), .slice none 0 0, .slice none 0 0, .slice none 0 0] 25)) = W at *
  generalize u1.heap.size = X at *
  refine (period_is 3 ev 0 (-1) none none none 0 0 0 0 0 0 [] [] [] s kk f (f + dv) true _ (lies_once _) HP.out.1 HP.out.2.1 HP.out.2.2).mono ?_
  rintro e u1 ⟨rfl, hb⟩
  replace HBX := hide (andthen HBX.out hb)
  replace s0 := cell_keep hb s0
  replace s1 := cell_keep hb s1
  replace s2 := cell_keep hb s2
  replace s3 := cell_keep hb s3
  replace s4 := cell_keep hb s4
  replace s5 := cell_keep hb s5
  replace s6 := cell_keep hb s6
  clear hb
  go_wp2_with fail
  refine (R.rdate_is s y m d _ s0' s1' HD.out.1 HD.out.2.1 HD.out.2.2).mono ?_
  rintro e u3 ⟨rfl, hb⟩
  replace HBX := hide (andthen HBX.out hb)
  replace s0 := cell_keep hb s0
  replace s1 := cell_keep hb s1
  replace s2 := cell_keep hb s2
  replace s3 := cell_keep hb s3
  replace s4 := cell_keep hb s4
  replace s5 := cell_keep hb s5
  replace s6 := cell_keep hb s6
  clear hb
  have hb := more (start u3) (.cells #[.int .i64 y, .int .i64 m, .int .i64 d] 37)
  replace HBX := hide (andthen HBX.out hb)
  replace s0 := cell_keep hb s0
  replace s1 := cell_keep hb s1
  replace s2 := cell_keep hb s2
  replace s3 := cell_keep hb s3
  replace s4 := cell_keep hb s4
  replace s5 := cell_keep hb s5
  replace s6 := cell_keep hb s6
  clear hb
  have d0 : (u3.alloc (.cells #[.int .i64 y, .int .i64 m, .int .i64 d] 37)).cell? ⟨u3.heap.size, 0, none⟩ = some (.int .i64 y) := by rw [World.cell?_alloc_at _ _ _ _ rfl]; rfl
  have d1 : (u3.alloc (.cells #[.int .i64 y, .int .i64 m, .int .i64 d] 37)).cell? ⟨u3.heap.size, 1, none⟩ = some (.int .i64 m) := by rw [World.cell?_alloc_at _ _ _ _ rfl]; rfl
  have d2 : (u3.alloc (.cells #[.int .i64 y, .int .i64 m, .int .i64 d] 37)).cell? ⟨u3.heap.size, 2, none⟩ = some (.int .i64 d) := by rw [World.cell?_alloc_at _ _ _ _ rfl]; rfl
  go_wp2_with fail
  refine (rnumber_is y2 m2 1 f 0 _ HF.out).mono ?_
  rintro e u4 ⟨rfl, hb⟩
  replace HBX := hide (andthen HBX.out hb)
  clear hb
  go_wp2_with fail
  refine (rlength_at y2 m2 dv _ HV.out).mono ?_
  rintro e u5 ⟨rfl, rfl⟩
  go_wp2_with fail
  go_ret
  exact ⟨rfl, HBX.out⟩
theorem months_any (x e k : Int) (w : World) (x0 : 0 ≤ x) (x1 : x ≤ 65535) (e0 : 0 ≤ e) (e1 : e ≤ 255) (k0 : 0 ≤ k) (k1 : k ≤ 255) :
    Calls Try.prog 6 #[.int .u16 x, .int .u8 e, .int .u8 k] w (Ans w (.bool true)) := by
  obtain ⟨s, hs⟩ : ∃ s, x % 9131 = s := ⟨_, rfl⟩
  obtain ⟨ev, he⟩ : ∃ ev, e % 6 + 1 = ev := ⟨_, rfl⟩
  obtain ⟨kk, hk⟩ : ∃ kk, k % 100 = kk := ⟨_, rfl⟩
  obtain ⟨n, hn⟩ : ∃ n, ev * kk = n := ⟨_, rfl⟩
  have s0 : 0 ≤ s ∧ s < 9131 := by omega
  have ev0 : 1 ≤ ev ∧ ev ≤ 6 := by omega
  have kk0 : 0 ≤ kk ∧ kk ≤ 99 := by omega
  have hn0 : 0 ≤ n := by rw [← hn]; exact Int.mul_nonneg (by omega) kk0.1
  have hn1 : n ≤ 594 := by
    rw [← hn]
    have a : ev * kk ≤ 6 * kk := Int.mul_le_mul_of_nonneg_right ev0.2 kk0.1
    omega
  have yb := Cal.yOf_bd s s0.1 (by omega)
  have yb2 : Cal.yOf s ≤ 2024 := by unfold Cal.yOf; omega
  have mb := Cal.mOf_bd s
  have q1 : (12 * (Cal.yOf s - 2000) + (Cal.mOf s - 1) + n) / 12 = (12 * Cal.yOf s + Cal.mOf s - 1 + n) / 12 - 2000 := by omega
  have q2 : (12 * (Cal.yOf s - 2000) + (Cal.mOf s - 1) + n) % 12 = (12 * Cal.yOf s + Cal.mOf s - 1 + n) % 12 := by omega
  have hA : pA 3 s (ev * kk) = fE ((12 * Cal.yOf s + Cal.mOf s - 1 + n) / 12) ((12 * Cal.yOf s + Cal.mOf s - 1 + n) % 12 + 1) := by
    rw [hn, pA_3]; unfold fst; rw [q1, q2]; congr 1; omega
  have hf := fE_lt ((12 * Cal.yOf s + Cal.mOf s - 1 + n) / 12) ((12 * Cal.yOf s + Cal.mOf s - 1 + n) % 12 + 1) (by omega) (by omega) (by omega) (by omega)
  have hB : pB 3 s (ev * kk) = fE ((12 * Cal.yOf s + Cal.mOf s - 1 + n) / 12) ((12 * Cal.yOf s + Cal.mOf s - 1 + n) % 12 + 1) + Cal.dim ((12 * Cal.yOf s + Cal.mOf s - 1 + n) / 12) ((12 * Cal.yOf s + Cal.mOf s - 1 + n) % 12 + 1) := by
    rw [hn, pB_3, fst_next _ (by omega) (by omega), ← hA, hn, pA_3, q1, q2]; congr 2; omega
  have hb2 : pB 3 s (ev * kk) ≤ 36525 := by rw [hn, pB_3]; exact (fst_bd _ (by omega)).2
  have dd := Cal.dim_bd ((12 * Cal.yOf s + Cal.mOf s - 1 + n) / 12) ((12 * Cal.yOf s + Cal.mOf s - 1 + n) % 12 + 1)
  exact months_walk x e k ev s kk n _ _ _ _ _ _ _ w x0 x1 e0 e1 k0 k1 hs he hk hn hn0 hn1 yb.1 yb2 mb.1 mb.2 (hide ⟨rfl, rfl, rfl⟩) rfl rfl
    (hide (fE_0 _ _ (by omega) (by omega) (by omega) (by omega))) (hide rfl) hf.1 (by omega) dd.1 dd.2
    (hide (per_at ⟨3, ev, 0, -1, [], [], []⟩ s kk _ _ (plain_K 3 ev s kk (by omega) (by omega) (by omega) (by omega) (by omega) (by omega) (by omega) (by omega) (by rw [hA]; omega)) hA hB hf.1 (by rw [← hB]; exact hb2)))

end Go.Proofs.Ytcjkghpcjjbjhaa

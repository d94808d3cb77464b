/- DaysTell walked. Written by recipes/da8.py. -/
import Derived.Test.YtcjkghpcjjbjhaaDaH
import Derived.Test.YtcjkghpcjjbjhaaDaK
namespace Go.Proofs.Ytcjkghpcjjbjhaa
open Go.RowKit Rul Go.Sort

theorem rows_lies5 {w : World} {D M Y : Option Addr} {dn mn yn : Nat} {ds : List Wd} {ms ys : List Int} (h : (dn = ds.length ∧ ds.length ≤ maxLen ∧ RowD w D ds) ∧ (mn = ms.length ∧ ms.length ≤ maxLen ∧ RowI w M ms) ∧ (yn = ys.length ∧ ys.length ≤ maxLen ∧ RowI w Y ys)) (k : fewB dn mn yn = true) : Lies w D dn M mn Y yn ds ms ys := by
  obtain ⟨⟨h1, _, h2⟩, ⟨h3, _, h4⟩, h5, _, h6⟩ := h
  rw [fewB_iff] at k
  exact ⟨h2, h1, by omega, h4, h3, by omega, h6, h5, by omega⟩
set_option maxRecDepth 100000 in
set_option maxHeartbeats 4000000 in
theorem tell_any (fr ev ct un : Int) (D M Y : Option Addr) (dn dc mn mc yn yc : Nat) (ds : List Wd) (ms ys : List Int) (s k : Int) (w : World) (h : (dn = ds.length ∧ ds.length ≤ maxLen ∧ RowD w D ds) ∧ (mn = ms.length ∧ ms.length ≤ maxLen ∧ RowI w M ms) ∧ (yn = ys.length ∧ ys.length ≤ maxLen ∧ RowI w Y ys)) :
    Calls Try.prog 3 #[.agg #[.int .i64 fr, .int .i64 ev, .int .i64 ct, .int .i64 un, .slice D dn dc, .slice M mn mc, .slice Y yn yc], .int .i64 s, .int .i64 k] w (Ans w (.bool true)) := by
  have HBX := hide (more (start w) (.cells #[.int .i64 fr, .int .i64 ev, .int .i64 ct, .int .i64 un, .slice D dn dc, .slice M mn mc, .slice Y yn yc] 25))
  have s0 : (w.alloc (.cells #[.int .i64 fr, .int .i64 ev, .int .i64 ct, .int .i64 un, .slice D dn dc, .slice M mn mc, .slice Y yn yc] 25)).cell? ⟨w.heap.size, 0, none⟩ = some (.int .i64 fr) := by rw [World.cell?_alloc_at _ _ _ _ rfl]; rfl
  have s1 : (w.alloc (.cells #[.int .i64 fr, .int .i64 ev, .int .i64 ct, .int .i64 un, .slice D dn dc, .slice M mn mc, .slice Y yn yc] 25)).cell? ⟨w.heap.size, 1, none⟩ = some (.int .i64 ev) := by rw [World.cell?_alloc_at _ _ _ _ rfl]; rfl
  have s2 : (w.alloc (.cells #[.int .i64 fr, .int .i64 ev, .int .i64 ct, .int .i64 un, .slice D dn dc, .slice M mn mc, .slice Y yn yc] 25)).cell? ⟨w.heap.size, 2, none⟩ = some (.int .i64 ct) := by rw [World.cell?_alloc_at _ _ _ _ rfl]; rfl
  have s3 : (w.alloc (.cells #[.int .i64 fr, .int .i64 ev, .int .i64 ct, .int .i64 un, .slice D dn dc, .slice M mn mc, .slice Y yn yc] 25)).cell? ⟨w.heap.size, 3, none⟩ = some (.int .i64 un) := by rw [World.cell?_alloc_at _ _ _ _ rfl]; rfl
  have s4 : (w.alloc (.cells #[.int .i64 fr, .int .i64 ev, .int .i64 ct, .int .i64 un, .slice D dn dc, .slice M mn mc, .slice Y yn yc] 25)).cell? ⟨w.heap.size, 4, none⟩ = some (.slice D dn dc) := by rw [World.cell?_alloc_at _ _ _ _ rfl]; rfl
  have s5 : (w.alloc (.cells #[.int .i64 fr, .int .i64 ev, .int .i64 ct, .int .i64 un, .slice D dn dc, .slice M mn mc, .slice Y yn yc] 25)).cell? ⟨w.heap.size, 5, none⟩ = some (.slice M mn mc) := by rw [World.cell?_alloc_at _ _ _ _ rfl]; rfl
  have s6 : (w.alloc (.cells #[.int .i64 fr, .int .i64 ev, .int .i64 ct, .int .i64 un, .slice D dn dc, .slice M mn mc, .slice Y yn yc] 25)).cell? ⟨w.heap.size, 6, none⟩ = some (.slice Y yn yc) := by rw [World.cell?_alloc_at _ _ _ _ rfl]; rfl
  cases k1 : fewB dn mn yn
  · have K1 := hide k1
    clear k1 h
    go_enter Try.func3, Try.ntmps3
    go_wp2_with fail
    generalize (w.alloc (.cells #[.int .i64 fr, .int .i64 ev, .int .i64 ct, .int .i64 un, .slice D dn dc, .slice M mn mc, .slice Y yn yc] 25)) = W at *
    refine (known_any _).mono ?_
    rintro e u1 ⟨rfl, hb⟩
    replace HBX := hide (andthen HBX.out hb)
    replace s0 := cell_keep hb s0
    replace s1 := cell_keep hb s1
    replace s2 := cell_keep hb s2
    replace s3 := cell_keep hb s3
    replace s4 := cell_keep hb s4
    replace s5 := cell_keep hb s5
    replace s6 := cell_keep hb s6
    clear hb
    go_wp2_with fail
    refine (ans_is (few_any fr ev ct un D M Y dn dc mn mc yn yc _) K1.out).mono ?_
    rintro e u2 ⟨rfl, hb⟩
    replace HBX := hide (andthen HBX.out hb)
    replace s0 := cell_keep hb s0
    replace s1 := cell_keep hb s1
    replace s2 := cell_keep hb s2
    replace s3 := cell_keep hb s3
    replace s4 := cell_keep hb s4
    replace s5 := cell_keep hb s5
    replace s6 := cell_keep hb s6
    clear hb
    go_wp2_with fail
    go_ret
    exact ⟨rfl, HBX.out⟩
  · have HL := hide ((rows_lies5 h k1).keep HBX.out)
    have K1 := hide k1
    clear k1 h
    obtain ⟨a, ha⟩ : ∃ a, perA ⟨fr, ev, ct, un, ds, ms, ys⟩ s k = a := ⟨_, rfl⟩
    obtain ⟨b, hb⟩ : ∃ b, perB ⟨fr, ev, ct, un, ds, ms, ys⟩ s k = b := ⟨_, rfl⟩
    obtain ⟨q, hq⟩ : ∃ q, perK ⟨fr, ev, ct, un, ds, ms, ys⟩ s k = q := ⟨_, rfl⟩
    have HP := hide (And.intro ha (And.intro hb hq))
    clear ha hb hq
    have q1 : (a == a) = true := beq_self_eq_true a
    have q2 : (b == b) = true := beq_self_eq_true b
    have q3 : (q == q) = true := beq_self_eq_true q
    go_enter Try.func3, Try.ntmps3
    go_wp2_with fail
    generalize (w.alloc (.cells #[.int .i64 fr, .int .i64 ev, .int .i64 ct, .int .i64 un, .slice D dn dc, .slice M mn mc, .slice Y yn yc] 25)) = W at *
    refine (known_any _).mono ?_
    rintro e u1 ⟨rfl, hb⟩
    replace HBX := hide (andthen HBX.out hb)
    replace HL := hide (HL.out.keep hb)
    replace s0 := cell_keep hb s0
    replace s1 := cell_keep hb s1
    replace s2 := cell_keep hb s2
    replace s3 := cell_keep hb s3
    replace s4 := cell_keep hb s4
    replace s5 := cell_keep hb s5
    replace s6 := cell_keep hb s6
    clear hb
    go_wp2_with fail
    refine (ans_is (few_any fr ev ct un D M Y dn dc mn mc yn yc _) K1.out).mono ?_
    rintro e u2 ⟨rfl, hb⟩
    replace HBX := hide (andthen HBX.out hb)
    replace HL := hide (HL.out.keep hb)
    replace s0 := cell_keep hb s0
    replace s1 := cell_keep hb s1
    replace s2 := cell_keep hb s2
    replace s3 := cell_keep hb s3
    replace s4 := cell_keep hb s4
    replace s5 := cell_keep hb s5
    replace s6 := cell_keep hb s6
    clear hb
    go_wp2_with fail
    refine (period_is fr ev ct un D M Y dn dc mn mc yn yc ds ms ys s k a b q _ HL.out HP.out.1 HP.out.2.1 HP.out.2.2).mono ?_
    rintro e u3 ⟨rfl, hb⟩
    replace HBX := hide (andthen HBX.out hb)
    replace HL := hide (HL.out.keep hb)
    replace s0 := cell_keep hb s0
    replace s1 := cell_keep hb s1
    replace s2 := cell_keep hb s2
    replace s3 := cell_keep hb s3
    replace s4 := cell_keep hb s4
    replace s5 := cell_keep hb s5
    replace s6 := cell_keep hb s6
    clear hb
    go_wp2_with fail
    refine (R.period_is fr ev ct un D M Y dn dc mn mc yn yc ds ms ys s k a b q _ HL.out HP.out.1 HP.out.2.1 HP.out.2.2).mono ?_
    rintro e u4 ⟨rfl, hb⟩
    replace HBX := hide (andthen HBX.out hb)
    replace HL := hide (HL.out.keep hb)
    replace s0 := cell_keep hb s0
    replace s1 := cell_keep hb s1
    replace s2 := cell_keep hb s2
    replace s3 := cell_keep hb s3
    replace s4 := cell_keep hb s4
    replace s5 := cell_keep hb s5
    replace s6 := cell_keep hb s6
    clear hb
    go_wp2_with fail
    have HS := hide (And.intro s0 (And.intro s1 (And.intro s2 (And.intro s3 (And.intro s4 (And.intro s5 s6))))))
    have hd0 := (start u4).drew
    have LD := hide (HL.out.keep hd0)
    clear s0 s1 s2 s3 s4 s5 s6
    go_region_held3 (fun w' => w'.cell? ⟨w.heap.size, 0, none⟩ = some (.int .i64 fr) ∧ w'.cell? ⟨w.heap.size, 1, none⟩ = some (.int .i64 ev) ∧ w'.cell? ⟨w.heap.size, 2, none⟩ = some (.int .i64 ct) ∧ w'.cell? ⟨w.heap.size, 3, none⟩ = some (.int .i64 un) ∧ w'.cell? ⟨w.heap.size, 4, none⟩ = some (.slice D dn dc) ∧ w'.cell? ⟨w.heap.size, 5, none⟩ = some (.slice M mn mc) ∧ w'.cell? ⟨w.heap.size, 6, none⟩ = some (.slice Y yn yc)) (first | exact keep7d (by assumption) HS.out | exact keep7d hd0 HS.out) ((first
      | (go_at_call 13; (with_reducible refine (of_any fr ev ct un D M Y dn dc mn mc yn yc ds ms ys s k _ LD.out).mono ?_); rintro e u1 ⟨v1, rfl, hown1, hb1⟩; have hk1 := andthen hd0 hb1)
      | (go_at_call 14; (with_reducible refine (R.of_any fr ev ct un D M Y dn dc mn mc yn yc ds ms ys s k _ (HL.out.keep hk1)).mono ?_); rintro e u2 ⟨v2, rfl, hown2, hb2⟩; have hk2 := andthen hk1 hb2; obtain ⟨A1, c1, rfl, hrow1⟩ := (hown1.keep hb2).row; obtain ⟨A2, c2, rfl, hrow2⟩ := hown2.row)
      | (go_at_call 12; (with_reducible refine (alike_any A1 A2 _ _ c1 c2 (daysL ⟨fr, ev, ct, un, ds, ms, ys⟩ s k) _ hrow1 hrow2 rfl rfl (Nat.le_trans (daysL_len _ _ _) (by omega))).mono ?_); rintro e u3 ⟨rfl, hb3⟩; have hk3 := andthen hk2 hb3)))
    go_wp2_with fail
    go_ret
    exact ⟨rfl, andthen HBX.out hk3⟩

end Go.Proofs.Ytcjkghpcjjbjhaa

/- DaysSame walked. Written by recipes/da11.py. -/
import Derived.Test.YtcjkghpcjjbjhaaDaSameM
import Derived.Test.YtcjkghpcjjbjhaaDaH
namespace Go.Proofs.Ytcjkghpcjjbjhaa
open Go.RowKit Rul Go.Sort

set_option maxRecDepth 100000 in
set_option maxHeartbeats 2000000 in
theorem sam_no (fq q x k fr ev s : Int) (w : World) (_q0 : 0 ≤ fq) (_q1 : fq ≤ 255) (_p0 : 0 ≤ q) (_p1 : q ≤ 255) (_x0 : 0 ≤ x) (_x1 : x ≤ 65535) (_k0 : 0 ≤ k) (_k1 : k ≤ 255) (_hfr : fq % 4 + 1 = fr) (_hev : q % 12 + 1 = ev) (_hs : x % 36525 = s) (HP : Hid (perK ⟨fr, ev, 0, -1, [], [], []⟩ s k = false)) :
    Calls Try.prog 5 #[.int .u8 fq, .int .u8 q, .int .u16 x, .int .u8 k] w (Ans w (.bool true)) := by
  have t1 : x.tmod 36525 = x % 36525 := Int.tmod_eq_emod_of_nonneg (by omega)
  have t2 : fq.tmod 4 = fq % 4 := Int.tmod_eq_emod_of_nonneg (by omega)
  have t3 : q.tmod 12 = q % 12 := Int.tmod_eq_emod_of_nonneg (by omega)
  go_enter Try.func5, Try.ntmps5
  go_wp2_with fail
  refine (known_any _).mono ?_
  rintro e u1 ⟨rfl, hb⟩
  have HBX := hide hb
  clear hb
  replace HBX := hide (more HBX.out (.cells #[.int .i64 fr, .int .i64 ev, .int .i64 0, .int .i64 (-1), .slice none 0 0, .slice none 0 0, .slice none 0 0] 25))
  have s0 : (u1.alloc (.cells #[.int .i64 fr, .int .i64 ev, .int .i64 0, .int .i64 (-1), .slice none 0 0, .slice none 0 0, .slice none 0 0] 25)).cell? ⟨u1.heap.size, 0, none⟩ = some (.int .i64 fr) := by rw [World.cell?_alloc_at _ _ _ _ rfl]; rfl
  have s1 : (u1.alloc (.cells #[.int .i64 fr, .int .i64 ev, .int .i64 0, .int .i64 (-1), .slice none 0 0, .slice none 0 0, .slice none 0 0] 25)).cell? ⟨u1.heap.size, 1, none⟩ = some (.int .i64 ev) := by rw [World.cell?_alloc_at _ _ _ _ rfl]; rfl
  have s2 : (u1.alloc (.cells #[.int .i64 fr, .int .i64 ev, .int .i64 0, .int .i64 (-1), .slice none 0 0, .slice none 0 0, .slice none 0 0] 25)).cell? ⟨u1.heap.size, 2, none⟩ = some (.int .i64 0) := by rw [World.cell?_alloc_at _ _ _ _ rfl]; rfl
  have s3 : (u1.alloc (.cells #[.int .i64 fr, .int .i64 ev, .int .i64 0, .int .i64 (-1), .slice none 0 0, .slice none 0 0, .slice none 0 0] 25)).cell? ⟨u1.heap.size, 3, none⟩ = some (.int .i64 (-1)) := by rw [World.cell?_alloc_at _ _ _ _ rfl]; rfl
  have s4 : (u1.alloc (.cells #[.int .i64 fr, .int .i64 ev, .int .i64 0, .int .i64 (-1), .slice none 0 0, .slice none 0 0, .slice none 0 0] 25)).cell? ⟨u1.heap.size, 4, none⟩ = some (.slice none 0 0) := by rw [World.cell?_alloc_at _ _ _ _ rfl]; rfl
  have s5 : (u1.alloc (.cells #[.int .i64 fr, .int .i64 ev, .int .i64 0, .int .i64 (-1), .slice none 0 0, .slice none 0 0, .slice none 0 0] 25)).cell? ⟨u1.heap.size, 5, none⟩ = some (.slice none 0 0) := by rw [World.cell?_alloc_at _ _ _ _ rfl]; rfl
  have s6 : (u1.alloc (.cells #[.int .i64 fr, .int .i64 ev, .int .i64 0, .int .i64 (-1), .slice none 0 0, .slice none 0 0, .slice none 0 0] 25)).cell? ⟨u1.heap.size, 6, none⟩ = some (.slice none 0 0) := by rw [World.cell?_alloc_at _ _ _ _ rfl]; rfl
  go_wp2_with fail
  generalize (u1.alloc (.cells #[.int .i64 fr, .int .i64 ev, .int .i64 0, .int .i64 (-1), .slice none 0 0, .slice none 0 0, .slice none 0 0] 25)) = W at *
  generalize u1.heap.size = X at *
  refine (period_is fr ev 0 (-1) none none none 0 0 0 0 0 0 [] [] [] s k _ _ false _ (lies_once _) rfl rfl HP.out).mono ?_
  rintro e u1 ⟨rfl, hb⟩
  replace HBX := hide (andthen HBX.out hb)
  replace s0 := cell_keep hb s0
  replace s1 := cell_keep hb s1
  replace s2 := cell_keep hb s2
  replace s3 := cell_keep hb s3
  replace s4 := cell_keep hb s4
  replace s5 := cell_keep hb s5
  replace s6 := cell_keep hb s6
  clear hb
  go_wp2_with fail
  refine (of_any fr ev 0 (-1) none none none 0 0 0 0 0 0 [] [] [] s k _ (lies_once _)).mono ?_
  rintro e u9 ⟨v, rfl, hown, hb⟩
  rw [daysL_no _ _ _ HP.out] at hown
  obtain ⟨A, cap, rfl, _⟩ := hown.row
  replace HBX := hide (andthen HBX.out hb)
  clear hb hown
  go_wp2_with fail
  go_ret
  exact ⟨rfl, HBX.out⟩

set_option maxRecDepth 100000 in
set_option maxHeartbeats 4000000 in
theorem sam_1 (fq q x k fr ev s : Int) (w : World) (_q0 : 0 ≤ fq) (_q1 : fq ≤ 255) (_p0 : 0 ≤ q) (_p1 : q ≤ 255) (_x0 : 0 ≤ x) (_x1 : x ≤ 65535) (_k0 : 0 ≤ k) (_k1 : k ≤ 255) (_hfr : fq % 4 + 1 = fr) (_hev : q % 12 + 1 = ev) (_hs : x % 36525 = s) (a b y m d v : Int) (l : List Int) (EE : Hid (fr = 1)) (hab : 0 ≤ a ∧ a ≤ b ∧ b ≤ 36525) (HP : Hid (perA ⟨fr, ev, 0, -1, [], [], []⟩ s k = a ∧ perB ⟨fr, ev, 0, -1, [], [], []⟩ s k = b ∧ perK ⟨fr, ev, 0, -1, [], [], []⟩ s k = true)) (HL : Hid (daysL ⟨fr, ev, 0, -1, [], [], []⟩ s k = l)) (HLP : Hid (l = (upto a b).filter (samB fr s))) (_hl1 : l.length ≤ 1) (HD : Hid (Cal.yOf s = y ∧ Cal.mOf s = m ∧ Cal.dOf s = d)) (_HW : Hid (Cal.wday s = v)) :
    Calls Try.prog 5 #[.int .u8 fq, .int .u8 q, .int .u16 x, .int .u8 k] w (Ans w (.bool true)) := by
  have t1 : x.tmod 36525 = x % 36525 := Int.tmod_eq_emod_of_nonneg (by omega)
  have t2 : fq.tmod 4 = fq % 4 := Int.tmod_eq_emod_of_nonneg (by omega)
  have t3 : q.tmod 12 = q % 12 := Int.tmod_eq_emod_of_nonneg (by omega)
  have s0' : 0 ≤ s := by omega
  have s1' : s < 36525 := by omega
  go_enter Try.func5, Try.ntmps5
  go_wp2_with fail
  refine (known_any _).mono ?_
  rintro e u1 ⟨rfl, hb⟩
  have HBX := hide hb
  clear hb
  replace HBX := hide (more HBX.out (.cells #[.int .i64 fr, .int .i64 ev, .int .i64 0, .int .i64 (-1), .slice none 0 0, .slice none 0 0, .slice none 0 0] 25))
  have s0 : (u1.alloc (.cells #[.int .i64 fr, .int .i64 ev, .int .i64 0, .int .i64 (-1), .slice none 0 0, .slice none 0 0, .slice none 0 0] 25)).cell? ⟨u1.heap.size, 0, none⟩ = some (.int .i64 fr) := by rw [World.cell?_alloc_at _ _ _ _ rfl]; rfl
  have s1 : (u1.alloc (.cells #[.int .i64 fr, .int .i64 ev, .int .i64 0, .int .i64 (-1), .slice none 0 0, .slice none 0 0, .slice none 0 0] 25)).cell? ⟨u1.heap.size, 1, none⟩ = some (.int .i64 ev) := by rw [World.cell?_alloc_at _ _ _ _ rfl]; rfl
  have s2 : (u1.alloc (.cells #[.int .i64 fr, .int .i64 ev, .int .i64 0, .int .i64 (-1), .slice none 0 0, .slice none 0 0, .slice none 0 0] 25)).cell? ⟨u1.heap.size, 2, none⟩ = some (.int .i64 0) := by rw [World.cell?_alloc_at _ _ _ _ rfl]; rfl
  have s3 : (u1.alloc (.cells #[.int .i64 fr, .int .i64 ev, .int .i64 0, .int .i64 (-1), .slice none 0 0, .slice none 0 0, .slice none 0 0] 25)).cell? ⟨u1.heap.size, 3, none⟩ = some (.int .i64 (-1)) := by rw [World.cell?_alloc_at _ _ _ _ rfl]; rfl
  have s4 : (u1.alloc (.cells #[.int .i64 fr, .int .i64 ev, .int .i64 0, .int .i64 (-1), .slice none 0 0, .slice none 0 0, .slice none 0 0] 25)).cell? ⟨u1.heap.size, 4, none⟩ = some (.slice none 0 0) := by rw [World.cell?_alloc_at _ _ _ _ rfl]; rfl
  have s5 : (u1.alloc (.cells #[.int .i64 fr, .int .i64 ev, .int .i64 0, .int .i64 (-1), .slice none 0 0, .slice none 0 0, .slice none 0 0] 25)).cell? ⟨u1.heap.size, 5, none⟩ = some (.slice none 0 0) := by rw [World.cell?_alloc_at _ _ _ _ rfl]; rfl
  have s6 : (u1.alloc (.cells #[.int .i64 fr, .int .i64 ev, .int .i64 0, .int .i64 (-1), .slice none 0 0, .slice none 0 0, .slice none 0 0] 25)).cell? ⟨u1.heap.size, 6, none⟩ = some (.slice none 0 0) := by rw [World.cell?_alloc_at _ _ _ _ rfl]; rfl
  go_wp2_with fail
  generalize (u1.alloc (.cells #[.int .i64 fr, .int .i64 ev, .int .i64 0, .int .i64 (-1), .slice none 0 0, .slice none 0 0, .slice none 0 0] 25)) = W at *
  generalize u1.heap.size = X at *
  refine (period_is fr ev 0 (-1) none none none 0 0 0 0 0 0 [] [] [] s k a b true _ (lies_once _) HP.out.1 HP.out.2.1 HP.out.2.2).mono ?_
  rintro e u1 ⟨rfl, hb⟩
  replace HBX := hide (andthen HBX.out hb)
  replace s0 := cell_keep hb s0
  replace s1 := cell_keep hb s1
  replace s2 := cell_keep hb s2
  replace s3 := cell_keep hb s3
  replace s4 := cell_keep hb s4
  replace s5 := cell_keep hb s5
  replace s6 := cell_keep hb s6
  clear hb
  go_wp2_with fail
  refine (of_any fr ev 0 (-1) none none none 0 0 0 0 0 0 [] [] [] s k _ (lies_once _)).mono ?_
  rintro e u9 ⟨vv, rfl, hown, hb⟩
  rw [HL.out] at hown
  obtain ⟨A, cap, rfl, hrow⟩ := hown.row
  replace HBX := hide (andthen HBX.out hb)
  replace s0 := cell_keep hb s0
  replace s1 := cell_keep hb s1
  replace s2 := cell_keep hb s2
  replace s3 := cell_keep hb s3
  replace s4 := cell_keep hb s4
  replace s5 := cell_keep hb s5
  replace s6 := cell_keep hb s6
  clear hb hown
  have HR := hide hrow
  clear hrow
  go_wp2_with fail
  refine (R.rdate_is s y m d _ s0' s1' HD.out.1 HD.out.2.1 HD.out.2.2).mono ?_
  rintro e u8 ⟨rfl, hb⟩
  replace HBX := hide (andthen HBX.out hb)
  replace s0 := cell_keep hb s0
  replace s1 := cell_keep hb s1
  replace s2 := cell_keep hb s2
  replace s3 := cell_keep hb s3
  replace s4 := cell_keep hb s4
  replace s5 := cell_keep hb s5
  replace s6 := cell_keep hb s6
  replace HR := hide (HR.out.keep hb)
  clear hb
  have hb := more (start u8) (.cells #[.int .i64 y, .int .i64 m, .int .i64 d] 37)
  replace HBX := hide (andthen HBX.out hb)
  replace s0 := cell_keep hb s0
  replace s1 := cell_keep hb s1
  replace s2 := cell_keep hb s2
  replace s3 := cell_keep hb s3
  replace s4 := cell_keep hb s4
  replace s5 := cell_keep hb s5
  replace s6 := cell_keep hb s6
  replace HR := hide (HR.out.keep hb)
  clear hb
  have e0 : (u8.alloc (.cells #[.int .i64 y, .int .i64 m, .int .i64 d] 37)).cell? ⟨u8.heap.size, 0, none⟩ = some (.int .i64 y) := by rw [World.cell?_alloc_at _ _ _ _ rfl]; rfl
  have e1 : (u8.alloc (.cells #[.int .i64 y, .int .i64 m, .int .i64 d] 37)).cell? ⟨u8.heap.size, 1, none⟩ = some (.int .i64 m) := by rw [World.cell?_alloc_at _ _ _ _ rfl]; rfl
  have e2 : (u8.alloc (.cells #[.int .i64 y, .int .i64 m, .int .i64 d] 37)).cell? ⟨u8.heap.size, 2, none⟩ = some (.int .i64 d) := by rw [World.cell?_alloc_at _ _ _ _ rfl]; rfl
  go_wp2_with fail
  generalize (u8.alloc (.cells #[.int .i64 y, .int .i64 m, .int .i64 d] 37)) = U at *
  generalize u8.heap.size = XE at *
  go_loopw [17, 18, 19, 20, 21] (fun n i _ _ _ wr => ∃ (day : Int) (N : Nat), a ≤ day ∧ day ≤ b ∧ i = .int .i64 day ∧ n = .int .i64 N ∧ Hid (((upto a day).filter (samB fr s)).length = N) ∧ Below U.heap.size U wr) (fun _ i _ _ _ _ => (b - intOf i).toNat)
  case atStart => exact ⟨a, 0, Int.le_refl _, hab.2.1, rfl, rfl, hide (by rw [upto_nil]; rfl), start _⟩
  case round =>
    obtain ⟨day, N, da, db, rfl, rfl, HC, hbw⟩ := hrel
    have HBR := hide hbw
    clear hbw
    by_cases hlt : day < b
    · have hday : 0 ≤ day ∧ day < 36525 := by omega
      obtain ⟨y2, hy2⟩ : ∃ y, Cal.yOf day = y := ⟨_, rfl⟩
      obtain ⟨m2, hm2⟩ : ∃ m, Cal.mOf day = m := ⟨_, rfl⟩
      obtain ⟨d2, hd2⟩ : ∃ d, Cal.dOf day = d := ⟨_, rfl⟩
      obtain ⟨v2, hv2⟩ : ∃ v, Cal.wday day = v := ⟨_, rfl⟩
      have HD2 := hide (And.intro hy2 (And.intro hm2 hd2))
      have HW2 := hide hv2
      clear hy2 hm2 hd2 hv2
      have f2 : (fr == 2) = false := by rw [EE.out]; rfl
      have f3 : (fr == 3) = false := by rw [EE.out]; rfl
      have f4 : (fr == 4) = false := by rw [EE.out]; rfl
      have hp : samB fr s day = true := by unfold samB; simp [EE.out]
      have HN := hide (R.filt_in (samB fr s) a day da hp)
      obtain ⟨hn, hg⟩ := at_n (samB fr s) a day b da hlt hp
      have hNl : N < l.length := by rw [HLP.out, ← HC.out]; exact hn
      have hgl : l[N] = day := by have h1 := HLP.out; have h2 := HC.out; subst h2; subst h1; exact hg
      obtain ⟨b1, o1, rfl, hb1, hcl⟩ := HR.out (by intro h0; rw [h0] at hNl; exact absurd hNl (Nat.not_lt_zero _))
      have G0 := hide (hcl N hNl)
      rw [hgl] at G0
      have i0 : (0 : Int) ≤ (N : Int) := by omega
      have i1 : (N : Int) < (l.length : Int) := by omega
      have i2 : (N : Int) ≤ 0 := by omega
      have i3 : (day != day) = false := by simp
      clear hn hg hgl hcl hp
      replace s0 := cell_keep HBR.out s0
      replace s1 := cell_keep HBR.out s1
      replace s2 := cell_keep HBR.out s2
      replace s3 := cell_keep HBR.out s3
      replace s4 := cell_keep HBR.out s4
      replace s5 := cell_keep HBR.out s5
      replace s6 := cell_keep HBR.out s6
      replace e0 := cell_keep HBR.out e0
      replace e1 := cell_keep HBR.out e1
      replace e2 := cell_keep HBR.out e2
      go_wp2_with fail
      refine (R.rdate_is day y2 m2 d2 _ hday.1 hday.2 HD2.out.1 HD2.out.2.1 HD2.out.2.2).mono ?_
      rintro e v1 ⟨rfl, hb⟩
      replace HBR := hide (andthen HBR.out hb)
      replace s0 := cell_keep hb s0
      replace s1 := cell_keep hb s1
      replace s2 := cell_keep hb s2
      replace s3 := cell_keep hb s3
      replace s4 := cell_keep hb s4
      replace s5 := cell_keep hb s5
      replace s6 := cell_keep hb s6
      replace e0 := cell_keep hb e0
      replace e1 := cell_keep hb e1
      replace e2 := cell_keep hb e2
      clear hb
      have hb := more (start v1) (.cells #[.int .i64 y2, .int .i64 m2, .int .i64 d2] 37)
      replace HBR := hide (andthen HBR.out hb)
      replace s0 := cell_keep hb s0
      replace s1 := cell_keep hb s1
      replace s2 := cell_keep hb s2
      replace s3 := cell_keep hb s3
      replace s4 := cell_keep hb s4
      replace s5 := cell_keep hb s5
      replace s6 := cell_keep hb s6
      replace e0 := cell_keep hb e0
      replace e1 := cell_keep hb e1
      replace e2 := cell_keep hb e2
      clear hb
      have t0 : (v1.alloc (.cells #[.int .i64 y2, .int .i64 m2, .int .i64 d2] 37)).cell? ⟨v1.heap.size, 0, none⟩ = some (.int .i64 y2) := by rw [World.cell?_alloc_at _ _ _ _ rfl]; rfl
      have t1 : (v1.alloc (.cells #[.int .i64 y2, .int .i64 m2, .int .i64 d2] 37)).cell? ⟨v1.heap.size, 1, none⟩ = some (.int .i64 m2) := by rw [World.cell?_alloc_at _ _ _ _ rfl]; rfl
      have t2 : (v1.alloc (.cells #[.int .i64 y2, .int .i64 m2, .int .i64 d2] 37)).cell? ⟨v1.heap.size, 2, none⟩ = some (.int .i64 d2) := by rw [World.cell?_alloc_at _ _ _ _ rfl]; rfl
      have hlt0 : X < (v1.alloc (.cells #[.int .i64 y2, .int .i64 m2, .int .i64 d2] 37)).heap.size := block_lt_of_cell s0
      have hlt1 : XE < (v1.alloc (.cells #[.int .i64 y2, .int .i64 m2, .int .i64 d2] 37)).heap.size := block_lt_of_cell e0
      have g0 : (v1.alloc (.cells #[.int .i64 y2, .int .i64 m2, .int .i64 d2] 37)).cell? ⟨b1, o1 + N, none⟩ = some (.int .i64 day) := ((HBR.out).cell (p := ⟨b1, _, none⟩) hb1).trans G0.out
      go_wp2_with fail
      go_roundw
      case rel => exact ⟨day + 1, N + 1, by omega, by omega, by go_num, by go_num, hide (by rw [HN.out]; exact by rw [List.length_append, HC.out]; rfl), HBR.out⟩
      case measure => simp [intOf]; omega
    · obtain rfl : day = b := by omega
      have hn : N = l.length := by rw [HLP.out, ← HC.out]
      subst hn
      have i0 : ((l.length : Int) == (l.length : Int)) = true := by simp
      have i1 : (l.length : Int) ≤ 1 := by omega
      go_wp2_with fail
      go_ret
      exact ⟨rfl, andthen HBX.out HBR.out⟩

set_option maxRecDepth 100000 in
set_option maxHeartbeats 4000000 in
theorem sam_2 (fq q x k fr ev s : Int) (w : World) (_q0 : 0 ≤ fq) (_q1 : fq ≤ 255) (_p0 : 0 ≤ q) (_p1 : q ≤ 255) (_x0 : 0 ≤ x) (_x1 : x ≤ 65535) (_k0 : 0 ≤ k) (_k1 : k ≤ 255) (_hfr : fq % 4 + 1 = fr) (_hev : q % 12 + 1 = ev) (_hs : x % 36525 = s) (a b y m d v : Int) (l : List Int) (EE : Hid (fr = 2)) (hab : 0 ≤ a ∧ a ≤ b ∧ b ≤ 36525) (HP : Hid (perA ⟨fr, ev, 0, -1, [], [], []⟩ s k = a ∧ perB ⟨fr, ev, 0, -1, [], [], []⟩ s k = b ∧ perK ⟨fr, ev, 0, -1, [], [], []⟩ s k = true)) (HL : Hid (daysL ⟨fr, ev, 0, -1, [], [], []⟩ s k = l)) (HLP : Hid (l = (upto a b).filter (samB fr s))) (_hl1 : l.length ≤ 1) (HD : Hid (Cal.yOf s = y ∧ Cal.mOf s = m ∧ Cal.dOf s = d)) (HW : Hid (Cal.wday s = v)) :
    Calls Try.prog 5 #[.int .u8 fq, .int .u8 q, .int .u16 x, .int .u8 k] w (Ans w (.bool true)) := by
  have t1 : x.tmod 36525 = x % 36525 := Int.tmod_eq_emod_of_nonneg (by omega)
  have t2 : fq.tmod 4 = fq % 4 := Int.tmod_eq_emod_of_nonneg (by omega)
  have t3 : q.tmod 12 = q % 12 := Int.tmod_eq_emod_of_nonneg (by omega)
  have s0' : 0 ≤ s := by omega
  have s1' : s < 36525 := by omega
  go_enter Try.func5, Try.ntmps5
  go_wp2_with fail
  refine (known_any _).mono ?_
  rintro e u1 ⟨rfl, hb⟩
  have HBX := hide hb
  clear hb
  replace HBX := hide (more HBX.out (.cells #[.int .i64 fr, .int .i64 ev, .int .i64 0, .int .i64 (-1), .slice none 0 0, .slice none 0 0, .slice none 0 0] 25))
  have s0 : (u1.alloc (.cells #[.int .i64 fr, .int .i64 ev, .int .i64 0, .int .i64 (-1), .slice none 0 0, .slice none 0 0, .slice none 0 0] 25)).cell? ⟨u1.heap.size, 0, none⟩ = some (.int .i64 fr) := by rw [World.cell?_alloc_at _ _ _ _ rfl]; rfl
  have s1 : (u1.alloc (.cells #[.int .i64 fr, .int .i64 ev, .int .i64 0, .int .i64 (-1), .slice none 0 0, .slice none 0 0, .slice none 0 0] 25)).cell? ⟨u1.heap.size, 1, none⟩ = some (.int .i64 ev) := by rw [World.cell?_alloc_at _ _ _ _ rfl]; rfl
  have s2 : (u1.alloc (.cells #[.int .i64 fr, .int .i64 ev, .int .i64 0, .int .i64 (-1), .slice none 0 0, .slice none 0 0, .slice none 0 0] 25)).cell? ⟨u1.heap.size, 2, none⟩ = some (.int .i64 0) := by rw [World.cell?_alloc_at _ _ _ _ rfl]; rfl
  have s3 : (u1.alloc (.cells #[.int .i64 fr, .int .i64 ev, .int .i64 0, .int .i64 (-1), .slice none 0 0, .slice none 0 0, .slice none 0 0] 25)).cell? ⟨u1.heap.size, 3, none⟩ = some (.int .i64 (-1)) := by rw [World.cell?_alloc_at _ _ _ _ rfl]; rfl
  have s4 : (u1.alloc (.cells #[.int .i64 fr, .int .i64 ev, .int .i64 0, .int .i64 (-1), .slice none 0 0, .slice none 0 0, .slice none 0 0] 25)).cell? ⟨u1.heap.size, 4, none⟩ = some (.slice none 0 0) := by rw [World.cell?_alloc_at _ _ _ _ rfl]; rfl
  have s5 : (u1.alloc (.cells #[.int .i64 fr, .int .i64 ev, .int .i64 0, .int .i64 (-1), .slice none 0 0, .slice none 0 0, .slice none 0 0] 25)).cell? ⟨u1.heap.size, 5, none⟩ = some (.slice none 0 0) := by rw [World.cell?_alloc_at _ _ _ _ rfl]; rfl
  have s6 : (u1.alloc (.cells #[.int .i64 fr, .int .i64 ev, .int .i64 0, .int .i64 (-1), .slice none 0 0, .slice none 0 0, .slice none 0 0] 25)).cell? ⟨u1.heap.size, 6, none⟩ = some (.slice none 0 0) := by rw [World.cell?_alloc_at _ _ _ _ rfl]; rfl
  go_wp2_with fail
  generalize (u1.alloc (.cells #[.int .i64 fr, .int .i64 ev, .int .i64 0, .int .i64 (-1), .slice none 0 0, .slice none 0 0, .slice none 0 0] 25)) = W at *
  generalize u1.heap.size = X at *
  refine (period_is fr ev 0 (-1) none none none 0 0 0 0 0 0 [] [] [] s k a b true _ (lies_once _) HP.out.1 HP.out.2.1 HP.out.2.2).mono ?_
  rintro e u1 ⟨rfl, hb⟩
  replace HBX := hide (andthen HBX.out hb)
  replace s0 := cell_keep hb s0
  replace s1 := cell_keep hb s1
  replace s2 := cell_keep hb s2
  replace s3 := cell_keep hb s3
  replace s4 := cell_keep hb s4
  replace s5 := cell_keep hb s5
  replace s6 := cell_keep hb s6
  clear hb
  go_wp2_with fail
  refine (of_any fr ev 0 (-1) none none none 0 0 0 0 0 0 [] [] [] s k _ (lies_once _)).mono ?_
  rintro e u9 ⟨vv, rfl, hown, hb⟩
  rw [HL.out] at hown
  obtain ⟨A, cap, rfl, hrow⟩ := hown.row
  replace HBX := hide (andthen HBX.out hb)
  replace s0 := cell_keep hb s0
  replace s1 := cell_keep hb s1
  replace s2 := cell_keep hb s2
  replace s3 := cell_keep hb s3
  replace s4 := cell_keep hb s4
  replace s5 := cell_keep hb s5
  replace s6 := cell_keep hb s6
  clear hb hown
  have HR := hide hrow
  clear hrow
  go_wp2_with fail
  refine (R.rdate_is s y m d _ s0' s1' HD.out.1 HD.out.2.1 HD.out.2.2).mono ?_
  rintro e u8 ⟨rfl, hb⟩
  replace HBX := hide (andthen HBX.out hb)
  replace s0 := cell_keep hb s0
  replace s1 := cell_keep hb s1
  replace s2 := cell_keep hb s2
  replace s3 := cell_keep hb s3
  replace s4 := cell_keep hb s4
  replace s5 := cell_keep hb s5
  replace s6 := cell_keep hb s6
  replace HR := hide (HR.out.keep hb)
  clear hb
  have hb := more (start u8) (.cells #[.int .i64 y, .int .i64 m, .int .i64 d] 37)
  replace HBX := hide (andthen HBX.out hb)
  replace s0 := cell_keep hb s0
  replace s1 := cell_keep hb s1
  replace s2 := cell_keep hb s2
  replace s3 := cell_keep hb s3
  replace s4 := cell_keep hb s4
  replace s5 := cell_keep hb s5
  replace s6 := cell_keep hb s6
  replace HR := hide (HR.out.keep hb)
  clear hb
  have e0 : (u8.alloc (.cells #[.int .i64 y, .int .i64 m, .int .i64 d] 37)).cell? ⟨u8.heap.size, 0, none⟩ = some (.int .i64 y) := by rw [World.cell?_alloc_at _ _ _ _ rfl]; rfl
  have e1 : (u8.alloc (.cells #[.int .i64 y, .int .i64 m, .int .i64 d] 37)).cell? ⟨u8.heap.size, 1, none⟩ = some (.int .i64 m) := by rw [World.cell?_alloc_at _ _ _ _ rfl]; rfl
  have e2 : (u8.alloc (.cells #[.int .i64 y, .int .i64 m, .int .i64 d] 37)).cell? ⟨u8.heap.size, 2, none⟩ = some (.int .i64 d) := by rw [World.cell?_alloc_at _ _ _ _ rfl]; rfl
  go_wp2_with fail
  generalize (u8.alloc (.cells #[.int .i64 y, .int .i64 m, .int .i64 d] 37)) = U at *
  generalize u8.heap.size = XE at *
  go_loopw [17, 18, 19, 20, 21] (fun n i _ _ _ wr => ∃ (day : Int) (N : Nat), a ≤ day ∧ day ≤ b ∧ i = .int .i64 day ∧ n = .int .i64 N ∧ Hid (((upto a day).filter (samB fr s)).length = N) ∧ Below U.heap.size U wr) (fun _ i _ _ _ _ => (b - intOf i).toNat)
  case atStart => exact ⟨a, 0, Int.le_refl _, hab.2.1, rfl, rfl, hide (by rw [upto_nil]; rfl), start _⟩
  case round =>
    obtain ⟨day, N, da, db, rfl, rfl, HC, hbw⟩ := hrel
    have HBR := hide hbw
    clear hbw
    by_cases hlt : day < b
    · have hday : 0 ≤ day ∧ day < 36525 := by omega
      obtain ⟨y2, hy2⟩ : ∃ y, Cal.yOf day = y := ⟨_, rfl⟩
      obtain ⟨m2, hm2⟩ : ∃ m, Cal.mOf day = m := ⟨_, rfl⟩
      obtain ⟨d2, hd2⟩ : ∃ d, Cal.dOf day = d := ⟨_, rfl⟩
      obtain ⟨v2, hv2⟩ : ∃ v, Cal.wday day = v := ⟨_, rfl⟩
      have HD2 := hide (And.intro hy2 (And.intro hm2 hd2))
      have HW2 := hide hv2
      clear hy2 hm2 hd2 hv2
      have f2 : (fr == 2) = true := by rw [EE.out]; rfl
      have f3 : (fr == 3) = false := by rw [EE.out]; rfl
      have f4 : (fr == 4) = false := by rw [EE.out]; rfl
      cases hw : (v2 == v)
      · have hp : samB fr s day = false := by unfold samB; simp [EE.out, HW.out, HW2.out, hw]
        have HN := hide (R.filt_out (samB fr s) a day da hp)
        clear hp
        replace s0 := cell_keep HBR.out s0
        replace s1 := cell_keep HBR.out s1
        replace s2 := cell_keep HBR.out s2
        replace s3 := cell_keep HBR.out s3
        replace s4 := cell_keep HBR.out s4
        replace s5 := cell_keep HBR.out s5
        replace s6 := cell_keep HBR.out s6
        replace e0 := cell_keep HBR.out e0
        replace e1 := cell_keep HBR.out e1
        replace e2 := cell_keep HBR.out e2
        go_wp2_with fail
        refine (R.rdate_is day y2 m2 d2 _ hday.1 hday.2 HD2.out.1 HD2.out.2.1 HD2.out.2.2).mono ?_
        rintro e v1 ⟨rfl, hb⟩
        replace HBR := hide (andthen HBR.out hb)
        replace s0 := cell_keep hb s0
        replace s1 := cell_keep hb s1
        replace s2 := cell_keep hb s2
        replace s3 := cell_keep hb s3
        replace s4 := cell_keep hb s4
        replace s5 := cell_keep hb s5
        replace s6 := cell_keep hb s6
        replace e0 := cell_keep hb e0
        replace e1 := cell_keep hb e1
        replace e2 := cell_keep hb e2
        clear hb
        have hb := more (start v1) (.cells #[.int .i64 y2, .int .i64 m2, .int .i64 d2] 37)
        replace HBR := hide (andthen HBR.out hb)
        replace s0 := cell_keep hb s0
        replace s1 := cell_keep hb s1
        replace s2 := cell_keep hb s2
        replace s3 := cell_keep hb s3
        replace s4 := cell_keep hb s4
        replace s5 := cell_keep hb s5
        replace s6 := cell_keep hb s6
        replace e0 := cell_keep hb e0
        replace e1 := cell_keep hb e1
        replace e2 := cell_keep hb e2
        clear hb
        have t0 : (v1.alloc (.cells #[.int .i64 y2, .int .i64 m2, .int .i64 d2] 37)).cell? ⟨v1.heap.size, 0, none⟩ = some (.int .i64 y2) := by rw [World.cell?_alloc_at _ _ _ _ rfl]; rfl
        have t1 : (v1.alloc (.cells #[.int .i64 y2, .int .i64 m2, .int .i64 d2] 37)).cell? ⟨v1.heap.size, 1, none⟩ = some (.int .i64 m2) := by rw [World.cell?_alloc_at _ _ _ _ rfl]; rfl
        have t2 : (v1.alloc (.cells #[.int .i64 y2, .int .i64 m2, .int .i64 d2] 37)).cell? ⟨v1.heap.size, 2, none⟩ = some (.int .i64 d2) := by rw [World.cell?_alloc_at _ _ _ _ rfl]; rfl
        have hlt0 : X < (v1.alloc (.cells #[.int .i64 y2, .int .i64 m2, .int .i64 d2] 37)).heap.size := block_lt_of_cell s0
        have hlt1 : XE < (v1.alloc (.cells #[.int .i64 y2, .int .i64 m2, .int .i64 d2] 37)).heap.size := block_lt_of_cell e0
        go_wp2_with (go_at_call 18; first | ((with_reducible refine (R.rweekday_is day v2 _ HW2.out).mono ?_); rintro e u3 ⟨rfl, rfl⟩) | ((with_reducible refine (R.rweekday_is s v _ HW.out).mono ?_); rintro e u3 ⟨rfl, rfl⟩))
        go_roundw
        case rel => exact ⟨day + 1, N, by omega, by omega, by go_num, rfl, hide (by rw [HN.out]; exact HC.out), HBR.out⟩
        case measure => simp [intOf]; omega
      · have hp : samB fr s day = true := by unfold samB; simp [EE.out, HW.out, HW2.out, hw]
        have HN := hide (R.filt_in (samB fr s) a day da hp)
        obtain ⟨hn, hg⟩ := at_n (samB fr s) a day b da hlt hp
        have hNl : N < l.length := by rw [HLP.out, ← HC.out]; exact hn
        have hgl : l[N] = day := by have h1 := HLP.out; have h2 := HC.out; subst h2; subst h1; exact hg
        obtain ⟨b1, o1, rfl, hb1, hcl⟩ := HR.out (by intro h0; rw [h0] at hNl; exact absurd hNl (Nat.not_lt_zero _))
        have G0 := hide (hcl N hNl)
        rw [hgl] at G0
        have i0 : (0 : Int) ≤ (N : Int) := by omega
        have i1 : (N : Int) < (l.length : Int) := by omega
        have i2 : (N : Int) ≤ 0 := by omega
        have i3 : (day != day) = false := by simp
        clear hn hg hgl hcl hp
        replace s0 := cell_keep HBR.out s0
        replace s1 := cell_keep HBR.out s1
        replace s2 := cell_keep HBR.out s2
        replace s3 := cell_keep HBR.out s3
        replace s4 := cell_keep HBR.out s4
        replace s5 := cell_keep HBR.out s5
        replace s6 := cell_keep HBR.out s6
        replace e0 := cell_keep HBR.out e0
        replace e1 := cell_keep HBR.out e1
        replace e2 := cell_keep HBR.out e2
        go_wp2_with fail
        refine (R.rdate_is day y2 m2 d2 _ hday.1 hday.2 HD2.out.1 HD2.out.2.1 HD2.out.2.2).mono ?_
        rintro e v1 ⟨rfl, hb⟩
        replace HBR := hide (andthen HBR.out hb)
        replace s0 := cell_keep hb s0
        replace s1 := cell_keep hb s1
        replace s2 := cell_keep hb s2
        replace s3 := cell_keep hb s3
        replace s4 := cell_keep hb s4
        replace s5 := cell_keep hb s5
        replace s6 := cell_keep hb s6
        replace e0 := cell_keep hb e0
        replace e1 := cell_keep hb e1
        replace e2 := cell_keep hb e2
        clear hb
        have hb := more (start v1) (.cells #[.int .i64 y2, .int .i64 m2, .int .i64 d2] 37)
        replace HBR := hide (andthen HBR.out hb)
        replace s0 := cell_keep hb s0
        replace s1 := cell_keep hb s1
        replace s2 := cell_keep hb s2
        replace s3 := cell_keep hb s3
        replace s4 := cell_keep hb s4
        replace s5 := cell_keep hb s5
        replace s6 := cell_keep hb s6
        replace e0 := cell_keep hb e0
        replace e1 := cell_keep hb e1
        replace e2 := cell_keep hb e2
        clear hb
        have t0 : (v1.alloc (.cells #[.int .i64 y2, .int .i64 m2, .int .i64 d2] 37)).cell? ⟨v1.heap.size, 0, none⟩ = some (.int .i64 y2) := by rw [World.cell?_alloc_at _ _ _ _ rfl]; rfl
        have t1 : (v1.alloc (.cells #[.int .i64 y2, .int .i64 m2, .int .i64 d2] 37)).cell? ⟨v1.heap.size, 1, none⟩ = some (.int .i64 m2) := by rw [World.cell?_alloc_at _ _ _ _ rfl]; rfl
        have t2 : (v1.alloc (.cells #[.int .i64 y2, .int .i64 m2, .int .i64 d2] 37)).cell? ⟨v1.heap.size, 2, none⟩ = some (.int .i64 d2) := by rw [World.cell?_alloc_at _ _ _ _ rfl]; rfl
        have hlt0 : X < (v1.alloc (.cells #[.int .i64 y2, .int .i64 m2, .int .i64 d2] 37)).heap.size := block_lt_of_cell s0
        have hlt1 : XE < (v1.alloc (.cells #[.int .i64 y2, .int .i64 m2, .int .i64 d2] 37)).heap.size := block_lt_of_cell e0
        have g0 : (v1.alloc (.cells #[.int .i64 y2, .int .i64 m2, .int .i64 d2] 37)).cell? ⟨b1, o1 + N, none⟩ = some (.int .i64 day) := ((HBR.out).cell (p := ⟨b1, _, none⟩) hb1).trans G0.out
        go_wp2_with (go_at_call 18; first | ((with_reducible refine (R.rweekday_is day v2 _ HW2.out).mono ?_); rintro e u3 ⟨rfl, rfl⟩) | ((with_reducible refine (R.rweekday_is s v _ HW.out).mono ?_); rintro e u3 ⟨rfl, rfl⟩))
        go_roundw
        case rel => exact ⟨day + 1, N + 1, by omega, by omega, by go_num, by go_num, hide (by rw [HN.out]; exact by rw [List.length_append, HC.out]; rfl), HBR.out⟩
        case measure => simp [intOf]; omega
    · obtain rfl : day = b := by omega
      have hn : N = l.length := by rw [HLP.out, ← HC.out]
      subst hn
      have i0 : ((l.length : Int) == (l.length : Int)) = true := by simp
      have i1 : (l.length : Int) ≤ 1 := by omega
      go_wp2_with fail
      go_ret
      exact ⟨rfl, andthen HBX.out HBR.out⟩

set_option maxRecDepth 100000 in
set_option maxHeartbeats 4000000 in
theorem sam_3 (fq q x k fr ev s : Int) (w : World) (_q0 : 0 ≤ fq) (_q1 : fq ≤ 255) (_p0 : 0 ≤ q) (_p1 : q ≤ 255) (_x0 : 0 ≤ x) (_x1 : x ≤ 65535) (_k0 : 0 ≤ k) (_k1 : k ≤ 255) (_hfr : fq % 4 + 1 = fr) (_hev : q % 12 + 1 = ev) (_hs : x % 36525 = s) (a b y m d v : Int) (l : List Int) (EE : Hid (fr = 3)) (hab : 0 ≤ a ∧ a ≤ b ∧ b ≤ 36525) (HP : Hid (perA ⟨fr, ev, 0, -1, [], [], []⟩ s k = a ∧ perB ⟨fr, ev, 0, -1, [], [], []⟩ s k = b ∧ perK ⟨fr, ev, 0, -1, [], [], []⟩ s k = true)) (HL : Hid (daysL ⟨fr, ev, 0, -1, [], [], []⟩ s k = l)) (HLP : Hid (l = (upto a b).filter (samB fr s))) (_hl1 : l.length ≤ 1) (HD : Hid (Cal.yOf s = y ∧ Cal.mOf s = m ∧ Cal.dOf s = d)) (_HW : Hid (Cal.wday s = v)) :
    Calls Try.prog 5 #[.int .u8 fq, .int .u8 q, .int .u16 x, .int .u8 k] w (Ans w (.bool true)) := by
  have t1 : x.tmod 36525 = x % 36525 := Int.tmod_eq_emod_of_nonneg (by omega)
  have t2 : fq.tmod 4 = fq % 4 := Int.tmod_eq_emod_of_nonneg (by omega)
  have t3 : q.tmod 12 = q % 12 := Int.tmod_eq_emod_of_nonneg (by omega)
  have s0' : 0 ≤ s := by omega
  have s1' : s < 36525 := by omega
  go_enter Try.func5, Try.ntmps5
  go_wp2_with fail
  refine (known_any _).mono ?_
  rintro e u1 ⟨rfl, hb⟩
  have HBX := hide hb
  clear hb
  replace HBX := hide (more HBX.out (.cells #[.int .i64 fr, .int .i64 ev, .int .i64 0, .int .i64 (-1), .slice none 0 0, .slice none 0 0, .slice none 0 0] 25))
  have s0 : (u1.alloc (.cells #[.int .i64 fr, .int .i64 ev, .int .i64 0, .int .i64 (-1), .slice none 0 0, .slice none 0 0, .slice none 0 0] 25)).cell? ⟨u1.heap.size, 0, none⟩ = some (.int .i64 fr) := by rw [World.cell?_alloc_at _ _ _ _ rfl]; rfl
  have s1 : (u1.alloc (.cells #[.int .i64 fr, .int .i64 ev, .int .i64 0, .int .i64 (-1), .slice none 0 0, .slice none 0 0, .slice none 0 0] 25)).cell? ⟨u1.heap.size, 1, none⟩ = some (.int .i64 ev) := by rw [World.cell?_alloc_at _ _ _ _ rfl]; rfl
  have s2 : (u1.alloc (.cells #[.int .i64 fr, .int .i64 ev, .int .i64 0, .int .i64 (-1), .slice none 0 0, .slice none 0 0, .slice none 0 0] 25)).cell? ⟨u1.heap.size, 2, none⟩ = some (.int .i64 0) := by rw [World.cell?_alloc_at _ _ _ _ rfl]; rfl
  have s3 : (u1.alloc (.cells #[.int .i64 fr, .int .i64 ev, .int .i64 0, .int .i64 (-1), .slice none 0 0, .slice none 0 0, .slice none 0 0] 25)).cell? ⟨u1.heap.size, 3, none⟩ = some (.int .i64 (-1)) := by rw [World.cell?_alloc_at _ _ _ _ rfl]; rfl
  have s4 : (u1.alloc (.cells #[.int .i64 fr, .int .i64 ev, .int .i64 0, .int .i64 (-1), .slice none 0 0, .slice none 0 0, .slice none 0 0] 25)).cell? ⟨u1.heap.size, 4, none⟩ = some (.slice none 0 0) := by rw [World.cell?_alloc_at _ _ _ _ rfl]; rfl
  have s5 : (u1.alloc (.cells #[.int .i64 fr, .int .i64 ev, .int .i64 0, .int .i64 (-1), .slice none 0 0, .slice none 0 0, .slice none 0 0] 25)).cell? ⟨u1.heap.size, 5, none⟩ = some (.slice none 0 0) := by rw [World.cell?_alloc_at _ _ _ _ rfl]; rfl
  have s6 : (u1.alloc (.cells #[.int .i64 fr, .int .i64 ev, .int .i64 0, .int .i64 (-1), .slice none 0 0, .slice none 0 0, .slice none 0 0] 25)).cell? ⟨u1.heap.size, 6, none⟩ = some (.slice none 0 0) := by rw [World.cell?_alloc_at _ _ _ _ rfl]; rfl
  go_wp2_with fail
  generalize (u1.alloc (.cells #[.int .i64 fr, .int .i64 ev, .int .i64 0, .int .i64 (-1), .slice none 0 0, .slice none 0 0, .slice none 0 0] 25)) = W at *
  generalize u1.heap.size = X at *
  refine (period_is fr ev 0 (-1) none none none 0 0 0 0 0 0 [] [] [] s k a b true _ (lies_once _) HP.out.1 HP.out.2.1 HP.out.2.2).mono ?_
  rintro e u1 ⟨rfl, hb⟩
  replace HBX := hide (andthen HBX.out hb)
  replace s0 := cell_keep hb s0
  replace s1 := cell_keep hb s1
  replace s2 := cell_keep hb s2
  replace s3 := cell_keep hb s3
  replace s4 := cell_keep hb s4
  replace s5 := cell_keep hb s5
  replace s6 := cell_keep hb s6
  clear hb
  go_wp2_with fail
  refine (of_any fr ev 0 (-1) none none none 0 0 0 0 0 0 [] [] [] s k _ (lies_once _)).mono ?_
  rintro e u9 ⟨vv, rfl, hown, hb⟩
  rw [HL.out] at hown
  obtain ⟨A, cap, rfl, hrow⟩ := hown.row
  replace HBX := hide (andthen HBX.out hb)
  replace s0 := cell_keep hb s0
  replace s1 := cell_keep hb s1
  replace s2 := cell_keep hb s2
  replace s3 := cell_keep hb s3
  replace s4 := cell_keep hb s4
  replace s5 := cell_keep hb s5
  replace s6 := cell_keep hb s6
  clear hb hown
  have HR := hide hrow
  clear hrow
  go_wp2_with fail
  refine (R.rdate_is s y m d _ s0' s1' HD.out.1 HD.out.2.1 HD.out.2.2).mono ?_
  rintro e u8 ⟨rfl, hb⟩
  replace HBX := hide (andthen HBX.out hb)
  replace s0 := cell_keep hb s0
  replace s1 := cell_keep hb s1
  replace s2 := cell_keep hb s2
  replace s3 := cell_keep hb s3
  replace s4 := cell_keep hb s4
  replace s5 := cell_keep hb s5
  replace s6 := cell_keep hb s6
  replace HR := hide (HR.out.keep hb)
  clear hb
  have hb := more (start u8) (.cells #[.int .i64 y, .int .i64 m, .int .i64 d] 37)
  replace HBX := hide (andthen HBX.out hb)
  replace s0 := cell_keep hb s0
  replace s1 := cell_keep hb s1
  replace s2 := cell_keep hb s2
  replace s3 := cell_keep hb s3
  replace s4 := cell_keep hb s4
  replace s5 := cell_keep hb s5
  replace s6 := cell_keep hb s6
  replace HR := hide (HR.out.keep hb)
  clear hb
  have e0 : (u8.alloc (.cells #[.int .i64 y, .int .i64 m, .int .i64 d] 37)).cell? ⟨u8.heap.size, 0, none⟩ = some (.int .i64 y) := by rw [World.cell?_alloc_at _ _ _ _ rfl]; rfl
  have e1 : (u8.alloc (.cells #[.int .i64 y, .int .i64 m, .int .i64 d] 37)).cell? ⟨u8.heap.size, 1, none⟩ = some (.int .i64 m) := by rw [World.cell?_alloc_at _ _ _ _ rfl]; rfl
  have e2 : (u8.alloc (.cells #[.int .i64 y, .int .i64 m, .int .i64 d] 37)).cell? ⟨u8.heap.size, 2, none⟩ = some (.int .i64 d) := by rw [World.cell?_alloc_at _ _ _ _ rfl]; rfl
  go_wp2_with fail
  generalize (u8.alloc (.cells #[.int .i64 y, .int .i64 m, .int .i64 d] 37)) = U at *
  generalize u8.heap.size = XE at *
  go_loopw [17, 18, 19, 20, 21] (fun n i _ _ _ wr => ∃ (day : Int) (N : Nat), a ≤ day ∧ day ≤ b ∧ i = .int .i64 day ∧ n = .int .i64 N ∧ Hid (((upto a day).filter (samB fr s)).length = N) ∧ Below U.heap.size U wr) (fun _ i _ _ _ _ => (b - intOf i).toNat)
  case atStart => exact ⟨a, 0, Int.le_refl _, hab.2.1, rfl, rfl, hide (by rw [upto_nil]; rfl), start _⟩
  case round =>
    obtain ⟨day, N, da, db, rfl, rfl, HC, hbw⟩ := hrel
    have HBR := hide hbw
    clear hbw
    by_cases hlt : day < b
    · have hday : 0 ≤ day ∧ day < 36525 := by omega
      obtain ⟨y2, hy2⟩ : ∃ y, Cal.yOf day = y := ⟨_, rfl⟩
      obtain ⟨m2, hm2⟩ : ∃ m, Cal.mOf day = m := ⟨_, rfl⟩
      obtain ⟨d2, hd2⟩ : ∃ d, Cal.dOf day = d := ⟨_, rfl⟩
      obtain ⟨v2, hv2⟩ : ∃ v, Cal.wday day = v := ⟨_, rfl⟩
      have HD2 := hide (And.intro hy2 (And.intro hm2 hd2))
      have HW2 := hide hv2
      clear hy2 hm2 hd2 hv2
      have f2 : (fr == 2) = false := by rw [EE.out]; rfl
      have f3 : (fr == 3) = true := by rw [EE.out]; rfl
      have f4 : (fr == 4) = false := by rw [EE.out]; rfl
      cases hdd : (d2 == d)
      · have hp : samB fr s day = false := by unfold samB; simp [EE.out, HD.out.2.2, HD2.out.2.2, hdd]
        have HN := hide (R.filt_out (samB fr s) a day da hp)
        clear hp
        replace s0 := cell_keep HBR.out s0
        replace s1 := cell_keep HBR.out s1
        replace s2 := cell_keep HBR.out s2
        replace s3 := cell_keep HBR.out s3
        replace s4 := cell_keep HBR.out s4
        replace s5 := cell_keep HBR.out s5
        replace s6 := cell_keep HBR.out s6
        replace e0 := cell_keep HBR.out e0
        replace e1 := cell_keep HBR.out e1
        replace e2 := cell_keep HBR.out e2
        go_wp2_with fail
        refine (R.rdate_is day y2 m2 d2 _ hday.1 hday.2 HD2.out.1 HD2.out.2.1 HD2.out.2.2).mono ?_
        rintro e v1 ⟨rfl, hb⟩
        replace HBR := hide (andthen HBR.out hb)
        replace s0 := cell_keep hb s0
        replace s1 := cell_keep hb s1
        replace s2 := cell_keep hb s2
        replace s3 := cell_keep hb s3
        replace s4 := cell_keep hb s4
        replace s5 := cell_keep hb s5
        replace s6 := cell_keep hb s6
        replace e0 := cell_keep hb e0
        replace e1 := cell_keep hb e1
        replace e2 := cell_keep hb e2
        clear hb
        have hb := more (start v1) (.cells #[.int .i64 y2, .int .i64 m2, .int .i64 d2] 37)
        replace HBR := hide (andthen HBR.out hb)
        replace s0 := cell_keep hb s0
        replace s1 := cell_keep hb s1
        replace s2 := cell_keep hb s2
        replace s3 := cell_keep hb s3
        replace s4 := cell_keep hb s4
        replace s5 := cell_keep hb s5
        replace s6 := cell_keep hb s6
        replace e0 := cell_keep hb e0
        replace e1 := cell_keep hb e1
        replace e2 := cell_keep hb e2
        clear hb
        have t0 : (v1.alloc (.cells #[.int .i64 y2, .int .i64 m2, .int .i64 d2] 37)).cell? ⟨v1.heap.size, 0, none⟩ = some (.int .i64 y2) := by rw [World.cell?_alloc_at _ _ _ _ rfl]; rfl
        have t1 : (v1.alloc (.cells #[.int .i64 y2, .int .i64 m2, .int .i64 d2] 37)).cell? ⟨v1.heap.size, 1, none⟩ = some (.int .i64 m2) := by rw [World.cell?_alloc_at _ _ _ _ rfl]; rfl
        have t2 : (v1.alloc (.cells #[.int .i64 y2, .int .i64 m2, .int .i64 d2] 37)).cell? ⟨v1.heap.size, 2, none⟩ = some (.int .i64 d2) := by rw [World.cell?_alloc_at _ _ _ _ rfl]; rfl
        have hlt0 : X < (v1.alloc (.cells #[.int .i64 y2, .int .i64 m2, .int .i64 d2] 37)).heap.size := block_lt_of_cell s0
        have hlt1 : XE < (v1.alloc (.cells #[.int .i64 y2, .int .i64 m2, .int .i64 d2] 37)).heap.size := block_lt_of_cell e0
        go_wp2_with fail
        go_roundw
        case rel => exact ⟨day + 1, N, by omega, by omega, by go_num, rfl, hide (by rw [HN.out]; exact HC.out), HBR.out⟩
        case measure => simp [intOf]; omega
      · have hp : samB fr s day = true := by unfold samB; simp [EE.out, HD.out.2.2, HD2.out.2.2, hdd]
        have HN := hide (R.filt_in (samB fr s) a day da hp)
        obtain ⟨hn, hg⟩ := at_n (samB fr s) a day b da hlt hp
        have hNl : N < l.length := by rw [HLP.out, ← HC.out]; exact hn
        have hgl : l[N] = day := by have h1 := HLP.out; have h2 := HC.out; subst h2; subst h1; exact hg
        obtain ⟨b1, o1, rfl, hb1, hcl⟩ := HR.out (by intro h0; rw [h0] at hNl; exact absurd hNl (Nat.not_lt_zero _))
        have G0 := hide (hcl N hNl)
        rw [hgl] at G0
        have i0 : (0 : Int) ≤ (N : Int) := by omega
        have i1 : (N : Int) < (l.length : Int) := by omega
        have i2 : (N : Int) ≤ 0 := by omega
        have i3 : (day != day) = false := by simp
        clear hn hg hgl hcl hp
        replace s0 := cell_keep HBR.out s0
        replace s1 := cell_keep HBR.out s1
        replace s2 := cell_keep HBR.out s2
        replace s3 := cell_keep HBR.out s3
        replace s4 := cell_keep HBR.out s4
        replace s5 := cell_keep HBR.out s5
        replace s6 := cell_keep HBR.out s6
        replace e0 := cell_keep HBR.out e0
        replace e1 := cell_keep HBR.out e1
        replace e2 := cell_keep HBR.out e2
        go_wp2_with fail
        refine (R.rdate_is day y2 m2 d2 _ hday.1 hday.2 HD2.out.1 HD2.out.2.1 HD2.out.2.2).mono ?_
        rintro e v1 ⟨rfl, hb⟩
        replace HBR := hide (andthen HBR.out hb)
        replace s0 := cell_keep hb s0
        replace s1 := cell_keep hb s1
        replace s2 := cell_keep hb s2
        replace s3 := cell_keep hb s3
        replace s4 := cell_keep hb s4
        replace s5 := cell_keep hb s5
        replace s6 := cell_keep hb s6
        replace e0 := cell_keep hb e0
        replace e1 := cell_keep hb e1
        replace e2 := cell_keep hb e2
        clear hb
        have hb := more (start v1) (.cells #[.int .i64 y2, .int .i64 m2, .int .i64 d2] 37)
        replace HBR := hide (andthen HBR.out hb)
        replace s0 := cell_keep hb s0
        replace s1 := cell_keep hb s1
        replace s2 := cell_keep hb s2
        replace s3 := cell_keep hb s3
        replace s4 := cell_keep hb s4
        replace s5 := cell_keep hb s5
        replace s6 := cell_keep hb s6
        replace e0 := cell_keep hb e0
        replace e1 := cell_keep hb e1
        replace e2 := cell_keep hb e2
        clear hb
        have t0 : (v1.alloc (.cells #[.int .i64 y2, .int .i64 m2, .int .i64 d2] 37)).cell? ⟨v1.heap.size, 0, none⟩ = some (.int .i64 y2) := by rw [World.cell?_alloc_at _ _ _ _ rfl]; rfl
        have t1 : (v1.alloc (.cells #[.int .i64 y2, .int .i64 m2, .int .i64 d2] 37)).cell? ⟨v1.heap.size, 1, none⟩ = some (.int .i64 m2) := by rw [World.cell?_alloc_at _ _ _ _ rfl]; rfl
        have t2 : (v1.alloc (.cells #[.int .i64 y2, .int .i64 m2, .int .i64 d2] 37)).cell? ⟨v1.heap.size, 2, none⟩ = some (.int .i64 d2) := by rw [World.cell?_alloc_at _ _ _ _ rfl]; rfl
        have hlt0 : X < (v1.alloc (.cells #[.int .i64 y2, .int .i64 m2, .int .i64 d2] 37)).heap.size := block_lt_of_cell s0
        have hlt1 : XE < (v1.alloc (.cells #[.int .i64 y2, .int .i64 m2, .int .i64 d2] 37)).heap.size := block_lt_of_cell e0
        have g0 : (v1.alloc (.cells #[.int .i64 y2, .int .i64 m2, .int .i64 d2] 37)).cell? ⟨b1, o1 + N, none⟩ = some (.int .i64 day) := ((HBR.out).cell (p := ⟨b1, _, none⟩) hb1).trans G0.out
        go_wp2_with fail
        go_roundw
        case rel => exact ⟨day + 1, N + 1, by omega, by omega, by go_num, by go_num, hide (by rw [HN.out]; exact by rw [List.length_append, HC.out]; rfl), HBR.out⟩
        case measure => simp [intOf]; omega
    · obtain rfl : day = b := by omega
      have hn : N = l.length := by rw [HLP.out, ← HC.out]
      subst hn
      have i0 : ((l.length : Int) == (l.length : Int)) = true := by simp
      have i1 : (l.length : Int) ≤ 1 := by omega
      go_wp2_with fail
      go_ret
      exact ⟨rfl, andthen HBX.out HBR.out⟩

set_option maxRecDepth 100000 in
set_option maxHeartbeats 4000000 in
theorem sam_4 (fq q x k fr ev s : Int) (w : World) (_q0 : 0 ≤ fq) (_q1 : fq ≤ 255) (_p0 : 0 ≤ q) (_p1 : q ≤ 255) (_x0 : 0 ≤ x) (_x1 : x ≤ 65535) (_k0 : 0 ≤ k) (_k1 : k ≤ 255) (_hfr : fq % 4 + 1 = fr) (_hev : q % 12 + 1 = ev) (_hs : x % 36525 = s) (a b y m d v : Int) (l : List Int) (EE : Hid (fr = 4)) (hab : 0 ≤ a ∧ a ≤ b ∧ b ≤ 36525) (HP : Hid (perA ⟨fr, ev, 0, -1, [], [], []⟩ s k = a ∧ perB ⟨fr, ev, 0, -1, [], [], []⟩ s k = b ∧ perK ⟨fr, ev, 0, -1, [], [], []⟩ s k = true)) (HL : Hid (daysL ⟨fr, ev, 0, -1, [], [], []⟩ s k = l)) (HLP : Hid (l = (upto a b).filter (samB fr s))) (_hl1 : l.length ≤ 1) (HD : Hid (Cal.yOf s = y ∧ Cal.mOf s = m ∧ Cal.dOf s = d)) (_HW : Hid (Cal.wday s = v)) :
    Calls Try.prog 5 #[.int .u8 fq, .int .u8 q, .int .u16 x, .int .u8 k] w (Ans w (.bool true)) := by
  have t1 : x.tmod 36525 = x % 36525 := Int.tmod_eq_emod_of_nonneg (by omega)
  have t2 : fq.tmod 4 = fq % 4 := Int.tmod_eq_emod_of_nonneg (by omega)
  have t3 : q.tmod 12 = q % 12 := Int.tmod_eq_emod_of_nonneg (by omega)
  have s0' : 0 ≤ s := by omega
  have s1' : s < 36525 := by omega
  go_enter Try.func5, Try.ntmps5
  go_wp2_with fail
  refine (known_any _).mono ?_
  rintro e u1 ⟨rfl, hb⟩
  have HBX := hide hb
  clear hb
  replace HBX := hide (more HBX.out (.cells #[.int .i64 fr, .int .i64 ev, .int .i64 0, .int .i64 (-1), .slice none 0 0, .slice none 0 0, .slice none 0 0] 25))
  have s0 : (u1.alloc (.cells #[.int .i64 fr, .int .i64 ev, .int .i64 0, .int .i64 (-1), .slice none 0 0, .slice none 0 0, .slice none 0 0] 25)).cell? ⟨u1.heap.size, 0, none⟩ = some (.int .i64 fr) := by rw [World.cell?_alloc_at _ _ _ _ rfl]; rfl
  have s1 : (u1.alloc (.cells #[.int .i64 fr, .int .i64 ev, .int .i64 0, .int .i64 (-1), .slice none 0 0, .slice none 0 0, .slice none 0 0] 25)).cell? ⟨u1.heap.size, 1, none⟩ = some (.int .i64 ev) := by rw [World.cell?_alloc_at _ _ _ _ rfl]; rfl
  have s2 : (u1.alloc (.cells #[.int .i64 fr, .int .i64 ev, .int .i64 0, .int .i64 (-1), .slice none 0 0, .slice none 0 0, .slice none 0 0] 25)).cell? ⟨u1.heap.size, 2, none⟩ = some (.int .i64 0) := by rw [World.cell?_alloc_at _ _ _ _ rfl]; rfl
  have s3 : (u1.alloc (.cells #[.int .i64 fr, .int .i64 ev, .int .i64 0, .int .i64 (-1), .slice none 0 0, .slice none 0 0, .slice none 0 0] 25)).cell? ⟨u1.heap.size, 3, none⟩ = some (.int .i64 (-1)) := by rw [World.cell?_alloc_at _ _ _ _ rfl]; rfl
  have s4 : (u1.alloc (.cells #[.int .i64 fr, .int .i64 ev, .int .i64 0, .int .i64 (-1), .slice none 0 0, .slice none 0 0, .slice none 0 0] 25)).cell? ⟨u1.heap.size, 4, none⟩ = some (.slice none 0 0) := by rw [World.cell?_alloc_at _ _ _ _ rfl]; rfl
  have s5 : (u1.alloc (.cells #[.int .i64 fr, .int .i64 ev, .int .i64 0, .int .i64 (-1), .slice none 0 0, .slice none 0 0, .slice none 0 0] 25)).cell? ⟨u1.heap.size, 5, none⟩ = some (.slice none 0 0) := by rw [World.cell?_alloc_at _ _ _ _ rfl]; rfl
  have s6 : (u1.alloc (.cells #[.int .i64 fr, .int .i64 ev, .int .i64 0, .int .i64 (-1), .slice none 0 0, .slice none 0 0, .slice none 0 0] 25)).cell? ⟨u1.heap.size, 6, none⟩ = some (.slice none 0 0) := by rw [World.cell?_alloc_at _ _ _ _ rfl]; rfl
  go_wp2_with fail
  generalize (u1.alloc (.cells #[.int .i64 fr, .int .i64 ev, .int .i64 0, .int .i64 (-1), .slice none 0 0, .slice none 0 0, .slice none 0 0] 25)) = W at *
  generalize u1.heap.size = X at *
  refine (period_is fr ev 0 (-1) none none none 0 0 0 0 0 0 [] [] [] s k a b true _ (lies_once _) HP.out.1 HP.out.2.1 HP.out.2.2).mono ?_
  rintro e u1 ⟨rfl, hb⟩
  replace HBX := hide (andthen HBX.out hb)
  replace s0 := cell_keep hb s0
  replace s1 := cell_keep hb s1
  replace s2 := cell_keep hb s2
  replace s3 := cell_keep hb s3
  replace s4 := cell_keep hb s4
  replace s5 := cell_keep hb s5
  replace s6 := cell_keep hb s6
  clear hb
  go_wp2_with fail
  refine (of_any fr ev 0 (-1) none none none 0 0 0 0 0 0 [] [] [] s k _ (lies_once _)).mono ?_
  rintro e u9 ⟨vv, rfl, hown, hb⟩
  rw [HL.out] at hown
  obtain ⟨A, cap, rfl, hrow⟩ := hown.row
  replace HBX := hide (andthen HBX.out hb)
  replace s0 := cell_keep hb s0
  replace s1 := cell_keep hb s1
  replace s2 := cell_keep hb s2
  replace s3 := cell_keep hb s3
  replace s4 := cell_keep hb s4
  replace s5 := cell_keep hb s5
  replace s6 := cell_keep hb s6
  clear hb hown
  have HR := hide hrow
  clear hrow
  go_wp2_with fail
  refine (R.rdate_is s y m d _ s0' s1' HD.out.1 HD.out.2.1 HD.out.2.2).mono ?_
  rintro e u8 ⟨rfl, hb⟩
  replace HBX := hide (andthen HBX.out hb)
  replace s0 := cell_keep hb s0
  replace s1 := cell_keep hb s1
  replace s2 := cell_keep hb s2
  replace s3 := cell_keep hb s3
  replace s4 := cell_keep hb s4
  replace s5 := cell_keep hb s5
  replace s6 := cell_keep hb s6
  replace HR := hide (HR.out.keep hb)
  clear hb
  have hb := more (start u8) (.cells #[.int .i64 y, .int .i64 m, .int .i64 d] 37)
  replace HBX := hide (andthen HBX.out hb)
  replace s0 := cell_keep hb s0
  replace s1 := cell_keep hb s1
  replace s2 := cell_keep hb s2
  replace s3 := cell_keep hb s3
  replace s4 := cell_keep hb s4
  replace s5 := cell_keep hb s5
  replace s6 := cell_keep hb s6
  replace HR := hide (HR.out.keep hb)
  clear hb
  have e0 : (u8.alloc (.cells #[.int .i64 y, .int .i64 m, .int .i64 d] 37)).cell? ⟨u8.heap.size, 0, none⟩ = some (.int .i64 y) := by rw [World.cell?_alloc_at _ _ _ _ rfl]; rfl
  have e1 : (u8.alloc (.cells #[.int .i64 y, .int .i64 m, .int .i64 d] 37)).cell? ⟨u8.heap.size, 1, none⟩ = some (.int .i64 m) := by rw [World.cell?_alloc_at _ _ _ _ rfl]; rfl
  have e2 : (u8.alloc (.cells #[.int .i64 y, .int .i64 m, .int .i64 d] 37)).cell? ⟨u8.heap.size, 2, none⟩ = some (.int .i64 d) := by rw [World.cell?_alloc_at _ _ _ _ rfl]; rfl
  go_wp2_with fail
  generalize (u8.alloc (.cells #[.int .i64 y, .int .i64 m, .int .i64 d] 37)) = U at *
  generalize u8.heap.size = XE at *
  go_loopw [17, 18, 19, 20, 21] (fun n i _ _ _ wr => ∃ (day : Int) (N : Nat), a ≤ day ∧ day ≤ b ∧ i = .int .i64 day ∧ n = .int .i64 N ∧ Hid (((upto a day).filter (samB fr s)).length = N) ∧ Below U.heap.size U wr) (fun _ i _ _ _ _ => (b - intOf i).toNat)
  case atStart => exact ⟨a, 0, Int.le_refl _, hab.2.1, rfl, rfl, hide (by rw [upto_nil]; rfl), start _⟩
  case round =>
    obtain ⟨day, N, da, db, rfl, rfl, HC, hbw⟩ := hrel
    have HBR := hide hbw
    clear hbw
    by_cases hlt : day < b
    · have hday : 0 ≤ day ∧ day < 36525 := by omega
      obtain ⟨y2, hy2⟩ : ∃ y, Cal.yOf day = y := ⟨_, rfl⟩
      obtain ⟨m2, hm2⟩ : ∃ m, Cal.mOf day = m := ⟨_, rfl⟩
      obtain ⟨d2, hd2⟩ : ∃ d, Cal.dOf day = d := ⟨_, rfl⟩
      obtain ⟨v2, hv2⟩ : ∃ v, Cal.wday day = v := ⟨_, rfl⟩
      have HD2 := hide (And.intro hy2 (And.intro hm2 hd2))
      have HW2 := hide hv2
      clear hy2 hm2 hd2 hv2
      have f2 : (fr == 2) = false := by rw [EE.out]; rfl
      have f3 : (fr == 3) = false := by rw [EE.out]; rfl
      have f4 : (fr == 4) = true := by rw [EE.out]; rfl
      cases hdd : (d2 == d)
      · have hp : samB fr s day = false := by unfold samB; simp [EE.out, HD.out.2.2, HD2.out.2.2, hdd]
        have HN := hide (R.filt_out (samB fr s) a day da hp)
        clear hp
        replace s0 := cell_keep HBR.out s0
        replace s1 := cell_keep HBR.out s1
        replace s2 := cell_keep HBR.out s2
        replace s3 := cell_keep HBR.out s3
        replace s4 := cell_keep HBR.out s4
        replace s5 := cell_keep HBR.out s5
        replace s6 := cell_keep HBR.out s6
        replace e0 := cell_keep HBR.out e0
        replace e1 := cell_keep HBR.out e1
        replace e2 := cell_keep HBR.out e2
        go_wp2_with fail
        refine (R.rdate_is day y2 m2 d2 _ hday.1 hday.2 HD2.out.1 HD2.out.2.1 HD2.out.2.2).mono ?_
        rintro e v1 ⟨rfl, hb⟩
        replace HBR := hide (andthen HBR.out hb)
        replace s0 := cell_keep hb s0
        replace s1 := cell_keep hb s1
        replace s2 := cell_keep hb s2
        replace s3 := cell_keep hb s3
        replace s4 := cell_keep hb s4
        replace s5 := cell_keep hb s5
        replace s6 := cell_keep hb s6
        replace e0 := cell_keep hb e0
        replace e1 := cell_keep hb e1
        replace e2 := cell_keep hb e2
        clear hb
        have hb := more (start v1) (.cells #[.int .i64 y2, .int .i64 m2, .int .i64 d2] 37)
        replace HBR := hide (andthen HBR.out hb)
        replace s0 := cell_keep hb s0
        replace s1 := cell_keep hb s1
        replace s2 := cell_keep hb s2
        replace s3 := cell_keep hb s3
        replace s4 := cell_keep hb s4
        replace s5 := cell_keep hb s5
        replace s6 := cell_keep hb s6
        replace e0 := cell_keep hb e0
        replace e1 := cell_keep hb e1
        replace e2 := cell_keep hb e2
        clear hb
        have t0 : (v1.alloc (.cells #[.int .i64 y2, .int .i64 m2, .int .i64 d2] 37)).cell? ⟨v1.heap.size, 0, none⟩ = some (.int .i64 y2) := by rw [World.cell?_alloc_at _ _ _ _ rfl]; rfl
        have t1 : (v1.alloc (.cells #[.int .i64 y2, .int .i64 m2, .int .i64 d2] 37)).cell? ⟨v1.heap.size, 1, none⟩ = some (.int .i64 m2) := by rw [World.cell?_alloc_at _ _ _ _ rfl]; rfl
        have t2 : (v1.alloc (.cells #[.int .i64 y2, .int .i64 m2, .int .i64 d2] 37)).cell? ⟨v1.heap.size, 2, none⟩ = some (.int .i64 d2) := by rw [World.cell?_alloc_at _ _ _ _ rfl]; rfl
        have hlt0 : X < (v1.alloc (.cells #[.int .i64 y2, .int .i64 m2, .int .i64 d2] 37)).heap.size := block_lt_of_cell s0
        have hlt1 : XE < (v1.alloc (.cells #[.int .i64 y2, .int .i64 m2, .int .i64 d2] 37)).heap.size := block_lt_of_cell e0
        go_wp2_with fail
        go_roundw
        case rel => exact ⟨day + 1, N, by omega, by omega, by go_num, rfl, hide (by rw [HN.out]; exact HC.out), HBR.out⟩
        case measure => simp [intOf]; omega
      · cases hmm : (m2 == m)
        · have hp : samB fr s day = false := by unfold samB; simp [EE.out, HD.out.2.2, HD2.out.2.2, hdd, HD.out.2.1, HD2.out.2.1, hmm]
          have HN := hide (R.filt_out (samB fr s) a day da hp)
          clear hp
          replace s0 := cell_keep HBR.out s0
          replace s1 := cell_keep HBR.out s1
          replace s2 := cell_keep HBR.out s2
          replace s3 := cell_keep HBR.out s3
          replace s4 := cell_keep HBR.out s4
          replace s5 := cell_keep HBR.out s5
          replace s6 := cell_keep HBR.out s6
          replace e0 := cell_keep HBR.out e0
          replace e1 := cell_keep HBR.out e1
          replace e2 := cell_keep HBR.out e2
          go_wp2_with fail
          refine (R.rdate_is day y2 m2 d2 _ hday.1 hday.2 HD2.out.1 HD2.out.2.1 HD2.out.2.2).mono ?_
          rintro e v1 ⟨rfl, hb⟩
          replace HBR := hide (andthen HBR.out hb)
          replace s0 := cell_keep hb s0
          replace s1 := cell_keep hb s1
          replace s2 := cell_keep hb s2
          replace s3 := cell_keep hb s3
          replace s4 := cell_keep hb s4
          replace s5 := cell_keep hb s5
          replace s6 := cell_keep hb s6
          replace e0 := cell_keep hb e0
          replace e1 := cell_keep hb e1
          replace e2 := cell_keep hb e2
          clear hb
          have hb := more (start v1) (.cells #[.int .i64 y2, .int .i64 m2, .int .i64 d2] 37)
          replace HBR := hide (andthen HBR.out hb)
          replace s0 := cell_keep hb s0
          replace s1 := cell_keep hb s1
          replace s2 := cell_keep hb s2
          replace s3 := cell_keep hb s3
          replace s4 := cell_keep hb s4
          replace s5 := cell_keep hb s5
          replace s6 := cell_keep hb s6
          replace e0 := cell_keep hb e0
          replace e1 := cell_keep hb e1
          replace e2 := cell_keep hb e2
          clear hb
          have t0 : (v1.alloc (.cells #[.int .i64 y2, .int .i64 m2, .int .i64 d2] 37)).cell? ⟨v1.heap.size, 0, none⟩ = some (.int .i64 y2) := by rw [World.cell?_alloc_at _ _ _ _ rfl]; rfl
          have t1 : (v1.alloc (.cells #[.int .i64 y2, .int .i64 m2, .int .i64 d2] 37)).cell? ⟨v1.heap.size, 1, none⟩ = some (.int .i64 m2) := by rw [World.cell?_alloc_at _ _ _ _ rfl]; rfl
          have t2 : (v1.alloc (.cells #[.int .i64 y2, .int .i64 m2, .int .i64 d2] 37)).cell? ⟨v1.heap.size, 2, none⟩ = some (.int .i64 d2) := by rw [World.cell?_alloc_at _ _ _ _ rfl]; rfl
          have hlt0 : X < (v1.alloc (.cells #[.int .i64 y2, .int .i64 m2, .int .i64 d2] 37)).heap.size := block_lt_of_cell s0
          have hlt1 : XE < (v1.alloc (.cells #[.int .i64 y2, .int .i64 m2, .int .i64 d2] 37)).heap.size := block_lt_of_cell e0
          go_wp2_with fail
          go_roundw
          case rel => exact ⟨day + 1, N, by omega, by omega, by go_num, rfl, hide (by rw [HN.out]; exact HC.out), HBR.out⟩
          case measure => simp [intOf]; omega
        · have hp : samB fr s day = true := by unfold samB; simp [EE.out, HD.out.2.2, HD2.out.2.2, hdd, HD.out.2.1, HD2.out.2.1, hmm]
          have HN := hide (R.filt_in (samB fr s) a day da hp)
          obtain ⟨hn, hg⟩ := at_n (samB fr s) a day b da hlt hp
          have hNl : N < l.length := by rw [HLP.out, ← HC.out]; exact hn
          have hgl : l[N] = day := by have h1 := HLP.out; have h2 := HC.out; subst h2; subst h1; exact hg
          obtain ⟨b1, o1, rfl, hb1, hcl⟩ := HR.out (by intro h0; rw [h0] at hNl; exact absurd hNl (Nat.not_lt_zero _))
          have G0 := hide (hcl N hNl)
          rw [hgl] at G0
          have i0 : (0 : Int) ≤ (N : Int) := by omega
          have i1 : (N : Int) < (l.length : Int) := by omega
          have i2 : (N : Int) ≤ 0 := by omega
          have i3 : (day != day) = false := by simp
          clear hn hg hgl hcl hp
          replace s0 := cell_keep HBR.out s0
          replace s1 := cell_keep HBR.out s1
          replace s2 := cell_keep HBR.out s2
          replace s3 := cell_keep HBR.out s3
          replace s4 := cell_keep HBR.out s4
          replace s5 := cell_keep HBR.out s5
          replace s6 := cell_keep HBR.out s6
          replace e0 := cell_keep HBR.out e0
          replace e1 := cell_keep HBR.out e1
          replace e2 := cell_keep HBR.out e2
          go_wp2_with fail
          refine (R.rdate_is day y2 m2 d2 _ hday.1 hday.2 HD2.out.1 HD2.out.2.1 HD2.out.2.2).mono ?_
          rintro e v1 ⟨rfl, hb⟩
          replace HBR := hide (andthen HBR.out hb)
          replace s0 := cell_keep hb s0
          replace s1 := cell_keep hb s1
          replace s2 := cell_keep hb s2
          replace s3 := cell_keep hb s3
          replace s4 := cell_keep hb s4
          replace s5 := cell_keep hb s5
          replace s6 := cell_keep hb s6
          replace e0 := cell_keep hb e0
          replace e1 := cell_keep hb e1
          replace e2 := cell_keep hb e2
          clear hb
          have hb := more (start v1) (.cells #[.int .i64 y2, .int .i64 m2, .int .i64 d2] 37)
          replace HBR := hide (andthen HBR.out hb)
          replace s0 := cell_keep hb s0
          replace s1 := cell_keep hb s1
          replace s2 := cell_keep hb s2
          replace s3 := cell_keep hb s3
          replace s4 := cell_keep hb s4
          replace s5 := cell_keep hb s5
          replace s6 := cell_keep hb s6
          replace e0 := cell_keep hb e0
          replace e1 := cell_keep hb e1
          replace e2 := cell_keep hb e2
          clear hb
          have t0 : (v1.alloc (.cells #[.int .i64 y2, .int .i64 m2, .int .i64 d2] 37)).cell? ⟨v1.heap.size, 0, none⟩ = some (.int .i64 y2) := by rw [World.cell?_alloc_at _ _ _ _ rfl]; rfl
          have t1 : (v1.alloc (.cells #[.int .i64 y2, .int .i64 m2, .int .i64 d2] 37)).cell? ⟨v1.heap.size, 1, none⟩ = some (.int .i64 m2) := by rw [World.cell?_alloc_at _ _ _ _ rfl]; rfl
          have t2 : (v1.alloc (.cells #[.int .i64 y2, .int .i64 m2, .int .i64 d2] 37)).cell? ⟨v1.heap.size, 2, none⟩ = some (.int .i64 d2) := by rw [World.cell?_alloc_at _ _ _ _ rfl]; rfl
          have hlt0 : X < (v1.alloc (.cells #[.int .i64 y2, .int .i64 m2, .int .i64 d2] 37)).heap.size := block_lt_of_cell s0
          have hlt1 : XE < (v1.alloc (.cells #[.int .i64 y2, .int .i64 m2, .int .i64 d2] 37)).heap.size := block_lt_of_cell e0
          have g0 : (v1.alloc (.cells #[.int .i64 y2, .int .i64 m2, .int .i64 d2] 37)).cell? ⟨b1, o1 + N, none⟩ = some (.int .i64 day) := ((HBR.out).cell (p := ⟨b1, _, none⟩) hb1).trans G0.out
          go_wp2_with fail
          go_roundw
          case rel => exact ⟨day + 1, N + 1, by omega, by omega, by go_num, by go_num, hide (by rw [HN.out]; exact by rw [List.length_append, HC.out]; rfl), HBR.out⟩
          case measure => simp [intOf]; omega
    · obtain rfl : day = b := by omega
      have hn : N = l.length := by rw [HLP.out, ← HC.out]
      subst hn
      have i0 : ((l.length : Int) == (l.length : Int)) = true := by simp
      have i1 : (l.length : Int) ≤ 1 := by omega
      go_wp2_with fail
      go_ret
      exact ⟨rfl, andthen HBX.out HBR.out⟩

theorem same5_any (fq q x k : Int) (w : World) (q0 : 0 ≤ fq) (q1 : fq ≤ 255) (p0 : 0 ≤ q) (p1 : q ≤ 255) (x0 : 0 ≤ x) (x1 : x ≤ 65535) (k0 : 0 ≤ k) (k1 : k ≤ 255) :
    Calls Try.prog 5 #[.int .u8 fq, .int .u8 q, .int .u16 x, .int .u8 k] w (Ans w (.bool true)) := by
  obtain ⟨fr, hfr⟩ : ∃ fr, fq % 4 + 1 = fr := ⟨_, rfl⟩
  obtain ⟨ev, hev⟩ : ∃ ev, q % 12 + 1 = ev := ⟨_, rfl⟩
  obtain ⟨s, hs⟩ : ∃ s, x % 36525 = s := ⟨_, rfl⟩
  have fb : 1 ≤ fr ∧ fr ≤ 4 := by omega
  have eb : 1 ≤ ev ∧ ev ≤ 100 := by omega
  cases hK : perK ⟨fr, ev, 0, -1, [], [], []⟩ s k
  · exact sam_no fq q x k fr ev s w q0 q1 p0 p1 x0 x1 k0 k1 hfr hev hs (hide hK)
  have pb := per_bd _ _ _ hK
  have hl := daysL_plain fr ev s k fb.1 fb.2 eb.1 eb.2 hK
  have h1 := plain_len fr ev s k fb.1 fb.2 eb.1 eb.2
  have hab : 0 ≤ perA ⟨fr, ev, 0, -1, [], [], []⟩ s k ∧ perA ⟨fr, ev, 0, -1, [], [], []⟩ s k ≤ perB ⟨fr, ev, 0, -1, [], [], []⟩ s k ∧ perB ⟨fr, ev, 0, -1, [], [], []⟩ s k ≤ 36525 := by omega
  rcases fr_cases fr fb.1 fb.2 with e | e | e | e
  · exact sam_1 fq q x k fr ev s w q0 q1 p0 p1 x0 x1 k0 k1 hfr hev hs _ _ _ _ _ _ _ (hide e) hab (hide ⟨rfl, rfl, hK⟩) (hide rfl) (hide hl) h1 (hide ⟨rfl, rfl, rfl⟩) (hide rfl)
  · exact sam_2 fq q x k fr ev s w q0 q1 p0 p1 x0 x1 k0 k1 hfr hev hs _ _ _ _ _ _ _ (hide e) hab (hide ⟨rfl, rfl, hK⟩) (hide rfl) (hide hl) h1 (hide ⟨rfl, rfl, rfl⟩) (hide rfl)
  · exact sam_3 fq q x k fr ev s w q0 q1 p0 p1 x0 x1 k0 k1 hfr hev hs _ _ _ _ _ _ _ (hide e) hab (hide ⟨rfl, rfl, hK⟩) (hide rfl) (hide hl) h1 (hide ⟨rfl, rfl, rfl⟩) (hide rfl)
  · exact sam_4 fq q x k fr ev s w q0 q1 p0 p1 x0 x1 k0 k1 hfr hev hs _ _ _ _ _ _ _ (hide e) hab (hide ⟨rfl, rfl, hK⟩) (hide rfl) (hide hl) h1 (hide ⟨rfl, rfl, rfl⟩) (hide rfl)

end Go.Proofs.Ytcjkghpcjjbjhaa

/- SlateKeeps answers true. Written by recipes/sl5.py. -/
import Derived.Test.YtimhbpfeofdfnaaDoorSlX
namespace Go.Proofs.YtimhbpfeofdfnaaDoor
open Go.RowKit Sl

/-- lines that the law takes. -/
def Fit (ls : List Tx) : Prop := ∀ l ∈ ls, l.length ≤ 60 ∧ One l
theorem fit_next {ls : List Tx} {k : Nat} (hk : k < ls.length) (h : Fit (ls.take k)) (h1 : (ls[k]).length ≤ 60) (h2 : One ls[k]) : Fit (ls.take (k + 1)) := by
  rw [List.take_add_one, List.getElem?_eq_getElem hk]
  intro l hl
  rcases List.mem_append.1 hl with hl | hl
  · exact h l hl
  · simp at hl; subst hl; exact ⟨h1, h2⟩
theorem fit_one {ls : List Tx} (h : Fit ls) : ∀ l ∈ ls, One l := fun l hl => (h l hl).2
theorem fit_any {ls : List Tx} (h : Fit ls) : ls.any hasE = false := by
  rw [List.any_eq_false]
  intro l hl
  rw [hasE_no.2 (h l hl).2]; decide
theorem fit_len {ls : List Tx} (h : Fit ls) (hs : ls.length ≤ 20) : (flatW ls).length ≤ 1220 := by
  have := flatW_len ls 60 (fun l hl => (h l hl).1)
  omega

/-- what the law asks. -/
theorem keeps_facts (a b : List Tx) (n : Nat) (ha : Fit a) (hb : Fit b) (s1 s2 s3 : St) (e1 : s1 = writeS (newS []) a) (e2 : s2 = limitS s1 (n : Int)) (e3 : s3 = writeS s2 b) :
    writeN (newS []) a = 0 ∧ s1.t = flatW a ∧ s2.t = flatW a ∧ s2.left = n ∧ s3.t = flatW a ++ (flatW b).take n ∧ ((flatW b).length ≤ n → writeN s2 b = 0) ∧ (¬ (flatW b).length ≤ n → writeN s2 b = 19) := by
  obtain ⟨a1, a2⟩ := whole_write (newS []) a rfl (fit_any ha) (by intro e; cases e)
  have g1 : s1 = ⟨flatW a, false, false, 0⟩ := by rw [e1, a1]; rfl
  have g2 : s2 = ⟨flatW a, false, true, n⟩ := by rw [e2, g1]; rfl
  rw [g2] at e3
  rw [g1, g2]
  refine ⟨a2, rfl, rfl, rfl, ?_, fun h => ?_, fun h => ?_⟩
  · by_cases h : (flatW b).length ≤ n
    · obtain ⟨b1, _⟩ := whole_write ⟨flatW a, false, true, n⟩ b rfl (fit_any hb) (fun _ => h)
      rw [e3, b1, whole_t, List.take_of_length_le h]
    · obtain ⟨b1, _⟩ := short_write ⟨flatW a, false, true, n⟩ b rfl (fit_any hb) rfl (by show n < _; omega)
      rw [e3, b1]
  · exact (whole_write ⟨flatW a, false, true, n⟩ b rfl (fit_any hb) (fun _ => h)).2
  · exact (short_write ⟨flatW a, false, true, n⟩ b rfl (fit_any hb) rfl (by show n < _; omega)).2
theorem keeps_up (a : List Tx) (x : Tx) (ha : Fit a) : (flatW a).length ≤ (keepL (flatW a ++ x)).length ∧ a.length ≤ (linesL (keepL (flatW a ++ x))).length := by
  rw [keep_flat a x (fit_one ha)]
  refine ⟨by simp, ?_⟩
  have := lines_flat a (keepL x) (fit_one ha)
  rw [this]; simp
theorem keep_last10 (t : Tx) (k : Nat) (h : (keepL t).length = k + 1) : (keepL t)[k]? = some 10 := by
  rcases keep_end t with h0 | h0
  · rw [h0] at h; simp at h
  · rw [List.getLast?_eq_getElem?, h] at h0; exact h0

set_option maxRecDepth 100000 in
set_option maxHeartbeats 6400000 in
theorem keeps_any (A : Option Addr) (na ca : Nat) (a : List Tx) (B : Option Addr) (nb cb : Nat) (b : List Tx) (n : Int) (w : World) (he : Env w) (ha : RowS w A a) (hna : na = a.length) (hb : RowS w B b) (hnb : nb = b.length)
    (hn : 0 ≤ n ∧ n ≤ 255) (hma : a.length ≤ maxLen) (hmb : b.length ≤ maxLen) :
    Calls Tryd.prog 4 #[.slice A na ca, .slice B nb cb, .int .u8 n] w (Ans w (.bool true)) := by
  subst hna hnb
  have HE := hide he
  have HA := hide ha
  have HB := hide hb
  obtain ⟨hn0, hn1⟩ := hn
  clear he ha hb
  unfold maxLen at hma hmb
  go_enter Tryd.func4, Tryd.ntmps4
  go_wp2_with fail
  refine (known_any w HE.out).mono ?_
  rintro e w1 ⟨rfl, hb1⟩
  have HB1 := hide hb1
  clear hb1
  by_cases h1 : 10 < a.length
  · go_wp2_with fail
    go_ret
    exact ⟨rfl, HB1.out⟩
  by_cases h2 : 10 < b.length
  · go_wp2_with fail
    go_ret
    exact ⟨rfl, HB1.out⟩
  go_wp2_with fail
  refine (new_any w1).mono ?_
  rintro e w2 hm
  obtain ⟨X, g, rfl, ho, hb2, hx, hg⟩ := hm.one HB1.out
  have HO := hide ho
  have HA2 := hide ((HA.out.keep HB1.out).keep hb2)
  have HB2 := hide ((HB.out.keep HB1.out).keep hb2)
  have HOA : Hid (a ≠ [] → Off A X g) := hide (fun h0 => by
      obtain ⟨b0, o0, e0, hl0, _⟩ := HA.out h0
      intro b3 o3 e3
      rw [e0] at e3
      injection e3 with e3
      injection e3 with e3 _
      subst e3
      have := HB1.out.size
      exact ⟨by omega, by omega⟩)
  have HOB : Hid (b ≠ [] → Off B X g) := hide (fun h0 => by
      obtain ⟨b0, o0, e0, hl0, _⟩ := HB.out h0
      intro b3 o3 e3
      rw [e0] at e3
      injection e3 with e3
      injection e3 with e3 _
      subst e3
      have := HB1.out.size
      exact ⟨by omega, by omega⟩)
  clear hm ho hb2 hx hg HA HB
  have hsum : (a ++ b).length = a.length + b.length := List.length_append
  obtain ⟨ab, hab⟩ : ∃ ab, a ++ b = ab := ⟨_, rfl⟩
  rw [hab] at hsum
  have HAB := hide hab
  have HSUM := hide hsum
  have h20 : a.length + b.length ≤ 20 := by omega
  clear hab hsum
  go_wp2_with fail
  go_loopw [8, 9] (fun al i wr => ∃ k : Nat, k ≤ a.length + b.length ∧ i = .int .i64 k ∧ al = .string (str (flatW (ab.take k))) ∧ Hid (Fit (ab.take k)) ∧ wr = w2) (fun _ i _ => a.length + b.length - (intOf i).toNat)
  case atStart => exact ⟨0, Nat.zero_le _, rfl, rfl, hide (by intro l hl; simp at hl), rfl⟩
  case round =>
    obtain ⟨k, hk, rfl, rfl, hq, rfl⟩ := hrel
    by_cases hlt : k < a.length + b.length
    · have hlk : k < ab.length := by rw [HSUM.out]; exact hlt
      have HFT := hide (flatW_take hlk)
      have HNX := hide (fit_next hlk hq.out)
      have hpl : (flatW (ab.take k)).length ≤ 1220 := fit_len hq.out (by simp; omega)
      obtain ⟨q, hqq⟩ : ∃ q, ab[k] = q := ⟨_, rfl⟩
      rw [hqq] at HFT HNX
      generalize flatW (ab.take k) = pre at *
      have hi0 : (0 : Int) ≤ (k : Int) := by omega
      have hi1 : (k : Int) < (a.length : Int) + (b.length : Int) := by omega
      have hqs := str_size q
      have hps := str_size pre
      have HQ0 := hide hq.out
      have HMEAS := hide (show a.length + b.length - (k + 1) < a.length + b.length - k by omega)
      clear hq
      by_cases hka : k < a.length
      · obtain ⟨b1, o1, rfl, hl1, hc1⟩ := HA2.out (fun e => by subst e; exact absurd hka (Nat.not_lt_zero _))
        have p1 : wr.cell? ⟨b1, o1 + k, none⟩ = some (.string (str q)) := by
          rw [hc1 k hka, ← hqq]
          congr 3
          have e := HAB.out
          subst e
          exact (List.getElem_append_left hka).symm
        have hi2 : (k : Int) < (a.length : Int) := by omega
        clear hc1 hqq hlk hk hlt hka
        by_cases hbig : 60 < q.length
        · go_wp2_with fail
          go_ret
          exact ⟨rfl, HO.out.b⟩
        · go_wp2_with fail
          go_loopw [11] (fun j wq => ∃ m : Nat, m ≤ q.length ∧ j = .int .i64 m ∧ Hid (One (q.take m)) ∧ wq = wr) (fun j _ => q.length - (intOf j).toNat)
          case atStart => exact ⟨0, Nat.zero_le _, rfl, hide (by intro x hx; simp at hx), rfl⟩
          case round =>
            obtain ⟨m, hm, rfl, hqm, rfl⟩ := hrel
            by_cases hlm : m < q.length
            · have hj0 : (0 : Int) ≤ (m : Int) := by omega
              have hj1 : (m : Int) < (q.length : Int) := by omega
              have hcc : (str q)[m]'(by rw [hqs]; exact hlm) = q[m] := by simp [str, ByteArray.getElem_eq_getElem_data]
              by_cases hc : q[m] = 10
              · rw [hc] at hcc
                clear hc hqm
                go_wp2_with fail
                go_ret
                exact ⟨rfl, HO.out.b⟩
              · have HOO := hide (one_take hlm hqm.out hc)
                have hne : (((q[m]).toNat : Int) == 10) = false := by
                  rw [beq_eq_false_iff_ne]
                  intro e
                  exact hc (UInt8.toNat_inj.1 (show (q[m]).toNat = 10 by omega))
                clear hc hqm
                go_wp2_with fail
                go_roundw
                case rel => exact ⟨m + 1, by omega, by go_num, HOO, trivial⟩
                case measure => simp [intOf]; omega
            · obtain rfl : m = q.length := by omega
              have HOO := hide (HNX.out (by omega) (by have := hqm.out; rwa [List.take_length] at this))
              clear hqm
              have hcat : ¬ (9223372036854775807 < pre.length + q.length) := by omega
              have hcat2 : ¬ (9223372036854775807 < pre.length + q.length + 1) := by omega
              go_wp2_with fail
              exact ⟨⟨k + 1, by omega, by go_num, by rw [HFT.out, cat3], HOO, trivial⟩, by simp [intOf]; omega⟩
      · obtain ⟨j, hj⟩ : ∃ j, k = a.length + j := ⟨k - a.length, by omega⟩
        have hjb : j < b.length := by omega
        obtain ⟨b1, o1, rfl, hl1, hc1⟩ := HB2.out (fun e => by subst e; exact absurd hjb (Nat.not_lt_zero _))
        have p1 : wr.cell? ⟨b1, o1 + j, none⟩ = some (.string (str q)) := by
          rw [hc1 j hjb, ← hqq]
          congr 3
          have e := HAB.out
          subst e
          subst hj
          rw [List.getElem_append_right (by omega)]
          congr 1
          omega
        have hi2 : ¬ ((k : Int) < (a.length : Int)) := by omega
        have hi3 : (k : Int) - (a.length : Int) = (j : Int) := by omega
        have hi4 : (0 : Int) ≤ (j : Int) := by omega
        have hi5 : (j : Int) < (b.length : Int) := by omega
        clear hc1 hqq hlk hk hlt hka hj hjb
        by_cases hbig : 60 < q.length
        · go_wp2_with fail
          go_ret
          exact ⟨rfl, HO.out.b⟩
        · go_wp2_with fail
          go_loopw [11] (fun j wq => ∃ m : Nat, m ≤ q.length ∧ j = .int .i64 m ∧ Hid (One (q.take m)) ∧ wq = wr) (fun j _ => q.length - (intOf j).toNat)
          case atStart => exact ⟨0, Nat.zero_le _, rfl, hide (by intro x hx; simp at hx), rfl⟩
          case round =>
            obtain ⟨m, hm, rfl, hqm, rfl⟩ := hrel
            by_cases hlm : m < q.length
            · have hj0 : (0 : Int) ≤ (m : Int) := by omega
              have hj1 : (m : Int) < (q.length : Int) := by omega
              have hcc : (str q)[m]'(by rw [hqs]; exact hlm) = q[m] := by simp [str, ByteArray.getElem_eq_getElem_data]
              by_cases hc : q[m] = 10
              · rw [hc] at hcc
                clear hc hqm
                go_wp2_with fail
                go_ret
                exact ⟨rfl, HO.out.b⟩
              · have HOO := hide (one_take hlm hqm.out hc)
                have hne : (((q[m]).toNat : Int) == 10) = false := by
                  rw [beq_eq_false_iff_ne]
                  intro e
                  exact hc (UInt8.toNat_inj.1 (show (q[m]).toNat = 10 by omega))
                clear hc hqm
                go_wp2_with fail
                go_roundw
                case rel => exact ⟨m + 1, by omega, by go_num, HOO, trivial⟩
                case measure => simp [intOf]; omega
            · obtain rfl : m = q.length := by omega
              have HOO := hide (HNX.out (by omega) (by have := hqm.out; rwa [List.take_length] at this))
              clear hqm
              have hcat : ¬ (9223372036854775807 < pre.length + q.length) := by omega
              have hcat2 : ¬ (9223372036854775807 < pre.length + q.length + 1) := by omega
              go_wp2_with fail
              exact ⟨⟨k + 1, by omega, by go_num, by rw [HFT.out, cat3], HOO, trivial⟩, by simp [intOf]; omega⟩
    · obtain rfl : k = a.length + b.length := by omega
      obtain ⟨nn, rfl⟩ := Int.eq_ofNat_of_zero_le hn0
      have HF := hide (show Fit ab by have := hq.out; rwa [List.take_of_length_le (by rw [HSUM.out]; exact Nat.le_refl _)] at this)
      have HFA := hide (show Fit a by have e := HAB.out; subst e; exact fun l hl => HF.out l (List.mem_append_left _ hl))
      have HFB := hide (show Fit b by have e := HAB.out; subst e; exact fun l hl => HF.out l (List.mem_append_right _ hl))
      have HAL := hide (show flatW (ab.take (a.length + b.length)) = flatW a ++ flatW b by rw [List.take_of_length_le (by rw [HSUM.out]; exact Nat.le_refl _), ← HAB.out, flatW_app])
      rw [HAL.out]
      obtain ⟨s1, e1⟩ : ∃ s1, s1 = writeS (newS []) a := ⟨_, rfl⟩
      obtain ⟨s2, e2⟩ : ∃ s2, s2 = limitS s1 (nn : Int) := ⟨_, rfl⟩
      obtain ⟨s3, e3⟩ : ∃ s3, s3 = writeS s2 b := ⟨_, rfl⟩
      obtain ⟨f1, f2, f3, f4, f5, f6, f7⟩ := keeps_facts a b nn HFA.out HFB.out s1 s2 s3 e1 e2 e3
      obtain ⟨u1, u2⟩ := keeps_up a ((flatW b).take nn) HFA.out
      rw [← f5] at u1 u2
      have hka := fit_len HFA.out (by omega)
      have hkb := fit_len HFB.out (by omega)
      have E1 := hide e1
      have E2 := hide e2
      have E3 := hide e3
      have F1 := hide f1
      have F2 := hide f2
      have F3 := hide f3
      have F4 := hide f4
      have F5 := hide f5
      have F6 := hide f6
      have F7 := hide f7
      have U1 := hide u1
      have U2 := hide u2
      have ZA := hide (show (newS []).t.length + (flatW a).length ≤ 10000000 by simp [newS]; omega)
      have ZB := hide (show s2.t.length + (flatW b).length ≤ 10000000 by rw [f3]; omega)
      have ZC := hide (show s2.left ≤ 9223372036854775807 by rw [f4]; omega)
      have ZD := hide (show s3.t.length ≤ 10000 by rw [f5]; simp; omega)
      clear e1 e2 e3 f1 f2 f3 f4 f5 f6 f7 u1 u2 hq
      go_wp2_with fail
      refine (sWrite_any X g (newS []) _ _ _ a _ HO.out.at_ HA2.out HOA.out rfl (by omega) ZA.out (by decide)).mono ?_
      rintro e y1 ⟨rfl, ht1⟩
      obtain ⟨h1, hg1, ho1, hc1⟩ := HO.out.turn ht1
      have HR1a := hide (rowS_chg HA2.out hc1 HOA.out)
      have HW1a := hide (off_turn HA2.out HOA.out hg1)
      have HR1b := hide (rowS_chg HB2.out hc1 HOB.out)
      have HW1b := hide (off_turn HB2.out HOB.out hg1)
      have HO1 := hide ho1
      rw [F1.out]
      clear ho1 hc1 hg1 ht1
      rw [← E1.out] at HO1
      go_wp2_with fail
      refine (text_any X h1 s1 _ HO1.out.at_).mono ?_
      rintro e z2 ⟨rfl, rfl⟩
      rw [F2.out]
      go_wp2_with fail
      refine (limit_any X h1 s1 _ _ HO1.out.at_).mono ?_
      rintro e y3 ⟨rfl, h1_3, hc3⟩
      have ho3 := HO1.out.chg h1_3 hc3
      have hg3 : h1 = h1 ∨ z2.heap.size ≤ h1 := Or.inl rfl
      have HR3a := hide (rowS_chg HR1a.out hc3 HW1a.out)
      have HW3a := hide (off_turn HR1a.out HW1a.out hg3)
      have HR3b := hide (rowS_chg HR1b.out hc3 HW1b.out)
      have HW3b := hide (off_turn HR1b.out HW1b.out hg3)
      have HO3 := hide ho3
      clear ho3 hc3 hg3
      clear h1_3
      rw [← E2.out] at HO3
      go_wp2_with fail
      refine (sWrite_any X h1 s2 _ _ _ b _ HO3.out.at_ HR3b.out HW3b.out rfl (by omega) ZB.out ZC.out).mono ?_
      rintro e y4 ⟨rfl, ht4⟩
      obtain ⟨h4, hg4, ho4, hc4⟩ := HO3.out.turn ht4
      have HR4a := hide (rowS_chg HR3a.out hc4 HW3a.out)
      have HW4a := hide (off_turn HR3a.out HW3a.out hg4)
      have HR4b := hide (rowS_chg HR3b.out hc4 HW3b.out)
      have HW4b := hide (off_turn HR3b.out HW3b.out hg4)
      have HO4 := hide ho4
      clear ho4 hc4 hg4 ht4
      rw [← E3.out] at HO4
      go_wp2_with fail
      refine (text_any X h4 s3 _ HO4.out.at_).mono ?_
      rintro e z5 ⟨rfl, rfl⟩
      go_wp2_with fail
      refine (rise_any X h4 s3 _ HO4.out.at_ (by have := ZD.out; omega)).mono ?_
      rintro e y6 ⟨rfl, h1_6, hc6⟩
      have ho6 := HO4.out.chg h1_6 hc6
      have hg6 : h4 = h4 ∨ z5.heap.size ≤ h4 := Or.inl rfl
      have HR6a := hide (rowS_chg HR4a.out hc6 HW4a.out)
      have HW6a := hide (off_turn HR4a.out HW4a.out hg6)
      have HR6b := hide (rowS_chg HR4b.out hc6 HW4b.out)
      have HW6b := hide (off_turn HR4b.out HW4b.out hg6)
      have HO6 := hide ho6
      clear ho6 hc6 hg6
      clear h1_6
      go_wp2_with fail
      refine (text_any X h4 (riseS s3) _ HO6.out.at_).mono ?_
      rintro e z7 ⟨rfl, rfl⟩
      have HFIN := hide HO6.out
      have HEN := hide (HE.out.keep HFIN.out.b)
      obtain ⟨U, hU⟩ : ∃ U, (riseS s3).t = U := ⟨_, rfl⟩
      have HLN := hide (sLines_any X h4 (riseS s3) _ HFIN.out.at_ HEN.out (by show (keepL s3.t).length ≤ 1000000; have := keep_len s3.t; have := ZD.out; omega))
      have hu1 : (flatW a).length ≤ U.length := by rw [← hU]; exact U1.out
      have hu2 : Hid (a.length ≤ (linesL U).length) := hide (by rw [← hU]; exact U2.out)
      have hu3 : U.length ≤ s3.t.length := by rw [← hU]; exact keep_len s3.t
      have hu4 : Hid (s3.t.take U.length = U) := hide (by rw [← hU]; exact keep_take s3.t)
      have hu5 : Hid (∀ m, U.length = m + 1 → U[m]? = some 10) := hide (by rw [← hU]; exact keep_last10 s3.t)
      rw [hU] at HLN ⊢
      obtain ⟨T, hT⟩ : ∃ T, s3.t = T := ⟨_, rfl⟩
      have HTT := hide (hT ▸ F5.out)
      rw [hT] at hu3 hu4 ⊢
      clear hT hU HEN
      obtain ⟨fa, hfa⟩ : ∃ fa, flatW a = fa := ⟨_, rfl⟩
      obtain ⟨fb, hfb⟩ : ∃ fb, flatW b = fb := ⟨_, rfl⟩
      rw [hfa] at hu1 hka HTT ⊢
      rw [hfb] at hkb HTT F6 F7 ⊢
      obtain ⟨al, hal⟩ : ∃ al, fa ++ fb = al := ⟨_, rfl⟩
      rw [hal]
      have hz1 : (str al).size = fa.length + fb.length := by rw [str_size, ← hal, List.length_append]
      have hz2 := str_size fa
      have hz3 := str_size T
      have HALL := hide hal
      clear hfa hfb hal
      rcases hUl : U.length with _ | m
      · have hU0 : U = [] := List.eq_nil_of_length_eq_zero hUl
        subst hU0
        have hz4 : (str ([] : Tx)).size = 0 := rfl
        have q4 : ((str ([] : Tx)).toList == ((str T).extract 0 0).toList) = true := by rw [ext_str, str_list]; exact beq_self_eq_true _
        have q7 : ((str ([] : Tx)).toList == ([] : List UInt8)) = true := by rw [str_tl]; rfl
        have hfa0 : fa = [] := List.eq_nil_of_length_eq_zero (by simpa using hu1)
        subst hfa0
        have hz1 : (str al).size = fb.length := by rw [hz1]; simp
        have hz2 : (str ([] : Tx)).size = 0 := rfl
        clear hUl hu1 hu3 hka
        by_cases hfit : fb.length ≤ nn
        · have HN := hide (F6.out hfit)
          have hT0 : T = al := by rw [HTT.out, ← HALL.out, List.take_of_length_le hfit]
          have hle : (fb.length : Int) ≤ (nn : Int) := by omega
          have q5 : ((str T).toList == ((str al).extract 0 (min (fb.length : Int) (nn : Int)).toNat).toList) = true := by
            rw [show (min (fb.length : Int) (nn : Int)).toNat = fb.length by omega, ext_str, str_list, hT0, List.drop_zero, List.take_of_length_le (by have := str_size al; omega)]; exact beq_self_eq_true _
          have q6 : ((str T).toList == ((str al).extract 0 fb.length).toList) = true := by
            rw [ext_str, str_list, hT0, List.drop_zero, List.take_of_length_le (by have := str_size al; omega)]; exact beq_self_eq_true _
          have hTz : (str T).size = fb.length := by rw [hT0, hz1]
          clear hz3 hfit hT0
          rw [HN.out]
          go_wp2_with fail
          refine HLN.out.mono ?_
          rintro e z9 ⟨A9, c9, rfl, hr9, hc9, hb9⟩
          have hll : (a.length : Int) ≤ ((linesL ([] : Tx)).length : Int) := by have := hu2.out; omega
          have HF9 := hide (HFIN.out.keep hb9)
          generalize (linesL ([] : Tx)).length = nl at *
          clear hr9 hc9 hb9
          go_wp2_with fail
          refine (on_any X h4 (riseS s3) _ HF9.out.at_).mono ?_
          rintro e z8 ⟨rfl, rfl⟩
          rw [show (riseS s3).off = false from rfl]
          go_wp2_with fail
          go_ret
          exact ⟨rfl, HF9.out.b⟩
        · have HN := hide (F7.out hfit)
          have hx : (str al).extract 0 nn = str T := by rw [ext_str, str_list, HTT.out, ← HALL.out]; rfl
          have hle : ¬ ((fb.length : Int) ≤ (nn : Int)) := by omega
          have q5 : ((str T).toList == ((str al).extract 0 (min (fb.length : Int) (nn : Int)).toNat).toList) = true := by
            rw [show (min (fb.length : Int) (nn : Int)).toNat = nn by omega, hx]; exact beq_self_eq_true _
          have q6 : ((str T).toList == ((str al).extract 0 nn).toList) = true := by rw [hx]; exact beq_self_eq_true _
          have hTl : T.length = nn := by rw [HTT.out, List.nil_append, List.length_take, Nat.min_eq_left (by omega)]
          have hTz : (str T).size = nn := by rw [hz3, hTl]
          clear hz3 hTl hfit hx
          rw [HN.out]
          go_wp2_with fail
          refine HLN.out.mono ?_
          rintro e z9 ⟨A9, c9, rfl, hr9, hc9, hb9⟩
          have hll : (a.length : Int) ≤ ((linesL ([] : Tx)).length : Int) := by have := hu2.out; omega
          have HF9 := hide (HFIN.out.keep hb9)
          generalize (linesL ([] : Tx)).length = nl at *
          clear hr9 hc9 hb9
          go_wp2_with fail
          refine (on_any X h4 (riseS s3) _ HF9.out.at_).mono ?_
          rintro e z8 ⟨rfl, rfl⟩
          rw [show (riseS s3).off = false from rfl]
          go_wp2_with fail
          go_ret
          exact ⟨rfl, HF9.out.b⟩
      · have hz4 : (str U).size = m + 1 := by rw [str_size, hUl]
        have q4 : ((str U).toList == ((str T).extract 0 (m + 1)).toList) = true := by rw [ext_str, str_list, List.drop_zero, ← hUl, hu4.out]; exact beq_self_eq_true _
        have hcc : (str U)[m]'(by rw [hz4]; exact Nat.lt_succ_self m) = 10 := by
          have h5 := hu5.out m hUl
          have h6 : m < U.length := by omega
          rw [List.getElem?_eq_getElem h6] at h5
          simpa [str, ByteArray.getElem_eq_getElem_data] using h5
        rw [hUl] at hu1 hu3
        have HUL := hide hUl
        clear hUl
        by_cases hfit : fb.length ≤ nn
        · have HN := hide (F6.out hfit)
          have hx : (str al).extract 0 (fa.length + fb.length) = str T := by
            rw [ext_str, str_list, HTT.out, ← HALL.out, List.take_of_length_le hfit, List.take_of_length_le (by rw [List.length_append]; exact Nat.le_refl _)]; rfl
          have hle : (fa.length : Int) + (fb.length : Int) - (fa.length : Int) ≤ (nn : Int) := by omega
          have q5 : ((str T).toList == ((str al).extract 0 ((fa.length : Int) + min (fb.length : Int) (nn : Int)).toNat).toList) = true := by
            rw [show ((fa.length : Int) + min (fb.length : Int) (nn : Int)).toNat = fa.length + fb.length by omega, hx]; exact beq_self_eq_true _
          have hTl : T.length = fa.length + fb.length := by rw [HTT.out, List.length_append, List.length_take, Nat.min_eq_right hfit]
          have hTz : (str T).size = fa.length + fb.length := by rw [hz3, hTl]
          rw [hTl] at hu3
          clear hz3 hTl hfit hx
          rw [HN.out]
          go_wp2_with fail
          refine HLN.out.mono ?_
          rintro e z9 ⟨A9, c9, rfl, hr9, hc9, hb9⟩
          have hll : (a.length : Int) ≤ ((linesL U).length : Int) := by have := hu2.out; omega
          have HF9 := hide (HFIN.out.keep hb9)
          generalize (linesL U).length = nl at *
          clear hr9 hc9 hb9
          go_wp2_with fail
          refine (on_any X h4 (riseS s3) _ HF9.out.at_).mono ?_
          rintro e z8 ⟨rfl, rfl⟩
          rw [show (riseS s3).off = false from rfl]
          go_wp2_with fail
          go_ret
          exact ⟨rfl, HF9.out.b⟩
        · have HN := hide (F7.out hfit)
          have hx : (str al).extract 0 (fa.length + nn) = str T := by
            rw [ext_str, str_list, HTT.out, ← HALL.out, List.take_append, List.take_of_length_le (Nat.le_add_right _ _), Nat.add_sub_cancel_left]; rfl
          have hle : ¬ ((fa.length : Int) + (fb.length : Int) - (fa.length : Int) ≤ (nn : Int)) := by omega
          have q5 : ((str T).toList == ((str al).extract 0 ((fa.length : Int) + min (fb.length : Int) (nn : Int)).toNat).toList) = true := by
            rw [show ((fa.length : Int) + min (fb.length : Int) (nn : Int)).toNat = fa.length + nn by omega, hx]; exact beq_self_eq_true _
          have hTl : T.length = fa.length + nn := by rw [HTT.out, List.length_append, List.length_take, Nat.min_eq_left (by omega)]
          have hTz : (str T).size = fa.length + nn := by rw [hz3, hTl]
          rw [hTl] at hu3
          clear hz3 hTl hfit hx
          rw [HN.out]
          go_wp2_with fail
          refine HLN.out.mono ?_
          rintro e z9 ⟨A9, c9, rfl, hr9, hc9, hb9⟩
          have hll : (a.length : Int) ≤ ((linesL U).length : Int) := by have := hu2.out; omega
          have HF9 := hide (HFIN.out.keep hb9)
          generalize (linesL U).length = nl at *
          clear hr9 hc9 hb9
          go_wp2_with fail
          refine (on_any X h4 (riseS s3) _ HF9.out.at_).mono ?_
          rintro e z8 ⟨rfl, rfl⟩
          rw [show (riseS s3).off = false from rfl]
          go_wp2_with fail
          go_ret
          exact ⟨rfl, HF9.out.b⟩

end Go.Proofs.YtimhbpfeofdfnaaDoor

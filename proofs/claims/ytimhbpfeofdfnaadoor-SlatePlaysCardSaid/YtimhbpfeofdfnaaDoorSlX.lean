/- SlateExact answers true. Written by recipes/sl4.py. -/
import Derived.Test.YtimhbpfeofdfnaaDoorSlK
namespace Go.Proofs.YtimhbpfeofdfnaaDoor
open Go.RowKit Sl

theorem any_one {L : Tx} (h : One L) : [L].any hasE = false := by simp [hasE_no.2 h]
theorem flatW_one (L : Tx) : flatW [L] = L ++ [10] := by simp [flatW]
/-- what the law asks. -/
theorem ex_s (L M : Tx) (hL : One L) (hM : One M) (s1 s2 s3 : St) (e1 : s1 = limitS (newS []) ((L.length : Int) + 1)) (e2 : s2 = writeS s1 [L]) (e3 : s3 = writeS s2 [M]) :
    writeN s1 [L] = 0 ∧ s2.off = false ∧ writeN s2 [M] = 19 ∧ (riseS s3).t = L ++ [10] ∧ s2.t = L ++ [10] ∧ s3.t = L ++ [10] ∧ s2.left = 0 ∧ s1.left = L.length + 1 ∧ s1.t = [] := by
  have g1 : s1 = ⟨[], false, true, L.length + 1⟩ := by
    rw [e1]; unfold limitS newS
    congr 1
  subst e2 e3
  rw [g1]
  obtain ⟨a1, a2⟩ := whole_write ⟨[], false, true, L.length + 1⟩ [L] rfl (any_one hL) (by intro _; rw [flatW_one]; simp)
  rw [a1, a2]
  have a3 : wholeS ⟨[], false, true, L.length + 1⟩ (flatW [L]) = ⟨L ++ [10], false, true, 0⟩ := by unfold wholeS; rw [flatW_one]; simp
  rw [a3]
  obtain ⟨b1, b2⟩ := short_write ⟨L ++ [10], false, true, 0⟩ [M] rfl (any_one hM) rfl (by rw [flatW_one]; simp)
  rw [b1, b2]
  refine ⟨rfl, rfl, rfl, ?_, rfl, by simp, rfl, rfl, rfl⟩
  unfold riseS
  simp only [List.take_zero, List.append_nil]
  have := keep_flat [L] [] (by intro l hl; simp at hl; subst hl; exact hL)
  rw [flatW_one, List.append_nil, keep_none [] (by intro c hc; cases hc), List.append_nil] at this
  exact this
theorem ex_t (L M : Tx) (hL : One L) (hM : One M) (n : Int) (hn : n ≤ (L.length : Int)) (t1 t2 : St) (e1 : t1 = limitS (newS []) n) (e2 : t2 = writeS t1 [L]) :
    writeN t1 [L] = 19 ∧ t2.off = true ∧ riseS t2 = newS [] ∧ writeN (newS []) [M] = 0 ∧ t2.t.length ≤ L.length ∧ t2.left = 0 ∧ t1.left = n.toNat ∧ t1.t = [] := by
  have g1 : t1 = ⟨[], false, true, n.toNat⟩ := e1
  subst e2
  rw [g1]
  obtain ⟨a1, a2⟩ := short_write ⟨[], false, true, n.toNat⟩ [L] rfl (any_one hL) rfl (by rw [flatW_one]; show n.toNat < _; simp; omega)
  rw [a1, a2]
  have hk : One ((flatW [L]).take n.toNat) := by
    rw [flatW_one, List.take_append_of_le_length (show n.toNat ≤ L.length by omega)]
    exact fun c hc => hL c (List.mem_of_mem_take hc)
  refine ⟨rfl, rfl, ?_, (whole_write (newS []) [M] rfl (any_one hM) (by intro e; cases e)).2, ?_, rfl, rfl, rfl⟩
  · unfold riseS newS
    simp only [List.nil_append]
    rw [keep_none _ hk]
  · rw [flatW_one, List.nil_append, List.take_append_of_le_length (show n.toNat ≤ L.length by omega)]; simp; omega

set_option maxRecDepth 100000 in
set_option maxHeartbeats 3200000 in
theorem exact_any (L : Tx) (k : Int) (M : Tx) (w : World) (he : Env w) (hk : 0 ≤ k ∧ k ≤ 255) : Calls Tryd.prog 5 #[.string (str L), .int .u8 k, .string (str M)] w (Ans w (.bool true)) := by
  have HE := hide he
  obtain ⟨hk0, hk1⟩ := hk
  have hls := str_size L
  have hms := str_size M
  clear he
  go_enter Tryd.func5, Tryd.ntmps5
  go_wp2_with fail
  refine (known_any w HE.out).mono ?_
  rintro e w1 ⟨rfl, hb1⟩
  have HB1 := hide hb1
  clear hb1
  by_cases h1 : 60 < L.length
  · go_wp2_with fail
    go_ret
    exact ⟨rfl, HB1.out⟩
  by_cases h2 : 60 < M.length
  · go_wp2_with fail
    go_ret
    exact ⟨rfl, HB1.out⟩
  cases h3 : hasE L with
  | true =>
    have H3 := hide h3
    clear h3
    go_wp2_with fail
    refine (lhas_any L _ (by omega)).mono ?_
    rintro e w2 ⟨rfl, rfl⟩
    rw [H3.out]
    go_wp2_with fail
    go_ret
    exact ⟨rfl, HB1.out⟩
  | false =>
    have H3 := hide h3
    clear h3
    go_wp2_with fail
    refine (lhas_any L _ (by omega)).mono ?_
    rintro e w2 ⟨rfl, rfl⟩
    rw [H3.out]
    go_wp2_with fail
    refine (lhas_any M _ (by omega)).mono ?_
    rintro e w2 ⟨rfl, rfl⟩
    cases h4 : hasE M with
    | true =>
      clear h4
      go_wp2_with fail
      go_ret
      exact ⟨rfl, HB1.out⟩
    | false =>
      have HL1 := hide (hasE_no.1 H3.out)
      have HM1 := hide (hasE_no.1 h4)
      have HL60 := hide h1
      have HM60 := hide h2
      clear h4
      obtain ⟨s1, e1⟩ : ∃ s1, s1 = limitS (newS []) ((L.length : Int) + 1) := ⟨_, rfl⟩
      obtain ⟨s2, e2⟩ : ∃ s2, s2 = writeS s1 [L] := ⟨_, rfl⟩
      obtain ⟨s3, e3⟩ : ∃ s3, s3 = writeS s2 [M] := ⟨_, rfl⟩
      obtain ⟨n, hn⟩ : ∃ n, (L.length : Int) - k % 8 = n := ⟨_, rfl⟩
      obtain ⟨t1, d1⟩ : ∃ t1, t1 = limitS (newS []) n := ⟨_, rfl⟩
      obtain ⟨t2, d2⟩ : ∃ t2, t2 = writeS t1 [L] := ⟨_, rfl⟩
      have HS := hide (ex_s L M HL1.out HM1.out s1 s2 s3 e1 e2 e3)
      have HT := hide (ex_t L M HL1.out HM1.out n (by omega) t1 t2 d1 d2)
      have E1 := hide e1
      have E2 := hide e2
      have E3 := hide e3
      have D1 := hide d1
      have D2 := hide d2
      have HN := hide hn
      have HLL := hide (show L.length ≤ 60 by omega)
      have HML := hide (show M.length ≤ 60 by omega)
      have hk8 : (0 : Int) ≤ k % 8 := by omega
      have hk9 : k % 8 < 8 := by omega
      clear e1 e2 e3 d1 d2 hn
      obtain ⟨ps1, ps2, ps3, ps4, ps5, ps6, ps7, ps8, ps9⟩ := HS.out
      obtain ⟨pt1, pt2, pt3, pt4, pt5, pt6, pt7, pt8⟩ := HT.out
      have ZA := hide (show s1.t.length + (flatW [L]).length ≤ 10000000 by rw [ps9, flatW_one]; simp; omega)
      have ZB := hide (show s2.t.length + (flatW [M]).length ≤ 10000000 by rw [ps5, flatW_one]; simp; omega)
      have ZC := hide (show t1.t.length + (flatW [L]).length ≤ 10000000 by rw [pt8, flatW_one]; simp; omega)
      have ZD := hide (show (newS []).t.length + (flatW [M]).length ≤ 10000000 by rw [flatW_one]; simp [newS]; omega)
      have ZE := hide (show s1.left ≤ 9223372036854775807 ∧ s2.left ≤ 9223372036854775807 ∧ t1.left ≤ 9223372036854775807 by have := HN.out; rw [ps7, ps8, pt7]; omega)
      have ZF := hide (show s3.t.length ≤ 10000000 ∧ t2.t.length ≤ 10000000 by rw [ps6]; simp; omega)
      clear ps1 ps2 ps3 ps4 ps5 ps6 ps7 ps8 ps9 pt1 pt2 pt3 pt4 pt5 pt6 pt7 pt8
      go_wp2_with fail
      refine (new_any w2).mono ?_
      rintro e x1 hm1
      obtain ⟨X1, g1, rfl, ho1, hb1, hx1, hg1⟩ := hm1.one HB1.out
      have HO1 := hide ho1
      clear hm1 ho1 hx1 hg1 hb1
      go_wp2_with fail
      refine (new_any x1).mono ?_
      rintro e x2 hm2
      obtain ⟨X2, g2, rfl, ho2, hb2, hx2, hg2⟩ := hm2.one HO1.out.b
      have HA2s := hide (apart_new HO1.out hx2 hg2)
      have HO2 := hide ho2
      have HK3 := hide (HO1.out.keep hb2)
      clear hm2 ho2 hx2 hg2 hb2
      go_wp2_with fail
      refine (limit_any X1 g1 (newS []) _ _ HK3.out.at_).mono ?_
      rintro e y4 ⟨rfl, h1_4, hc4⟩
      have ho4 := HK3.out.chg h1_4 hc4
      have hg4 : g1 = g1 ∨ x2.heap.size ≤ g1 := Or.inl rfl
      have HB4t := hide (HO2.out.other hc4 HA2s.out HK3.out.x HK3.out.y hg4)
      have HM4t := hide HB4t.out.1
      have HO4 := hide ho4
      clear ho4 hc4 hg4
      clear h1_4
      rw [← E1.out] at HO4
      go_wp2_with fail
      rw [HN.out]
      refine (limit_any X2 g2 (newS []) _ _ HM4t.out.at_).mono ?_
      rintro e y5 ⟨rfl, h1_5, hc5⟩
      have ho5 := HM4t.out.chg h1_5 hc5
      have hg5 : g2 = g2 ∨ y4.heap.size ≤ g2 := Or.inl rfl
      have HB5s := hide (HO4.out.other hc5 HB4t.out.2.swap HM4t.out.x HM4t.out.y hg5)
      have HM5s := hide HB5s.out.1
      have HO5 := hide ho5
      clear ho5 hc5 hg5
      clear h1_5
      rw [← D1.out] at HO5
      go_wp2_with fail
      have HP6 := hide (rowS_one y5 L)
      have HF6 := hide (off_new HM5s.out.at_)
      have HK7 := hide (HM5s.out.keep (more (start y5) (.cells #[.string (str L)] 9)))
      have HK8 := hide (HO5.out.keep (more (start y5) (.cells #[.string (str L)] 9)))
      refine (sWrite_any X1 g1 s1 _ _ _ [L] _ HK7.out.at_ HP6.out (fun _ => HF6.out) rfl (by simp) ZA.out ZE.out.1).mono ?_
      rintro e y9 ⟨rfl, ht9⟩
      obtain ⟨h9, hg9, ho9, hc9⟩ := HK7.out.turn ht9
      have HB9t := hide (HK8.out.other hc9 HB5s.out.2.swap HK7.out.x HK7.out.y hg9)
      have HM9t := hide HB9t.out.1
      have HO9 := hide ho9
      rw [HS.out.1]
      clear ho9 hc9 hg9 ht9
      rw [← E2.out] at HO9
      go_wp2_with fail
      have HP10 := hide (rowS_one y9 L)
      have HF10 := hide (off_new HM9t.out.at_)
      have HK11 := hide (HO9.out.keep (more (start y9) (.cells #[.string (str L)] 9)))
      have HK12 := hide (HM9t.out.keep (more (start y9) (.cells #[.string (str L)] 9)))
      refine (sWrite_any X2 g2 t1 _ _ _ [L] _ HK12.out.at_ HP10.out (fun _ => HF10.out) rfl (by simp) ZC.out ZE.out.2.2).mono ?_
      rintro e y13 ⟨rfl, ht13⟩
      obtain ⟨h13, hg13, ho13, hc13⟩ := HK12.out.turn ht13
      have HB13s := hide (HK11.out.other hc13 HB9t.out.2.swap HK12.out.x HK12.out.y hg13)
      have HM13s := hide HB13s.out.1
      have HO13 := hide ho13
      rw [HT.out.1]
      clear ho13 hc13 hg13 ht13
      rw [← D2.out] at HO13
      go_wp2_with fail
      refine (on_any X1 h9 s2 _ HM13s.out.at_).mono ?_
      rintro e z14 ⟨rfl, rfl⟩
      rw [HS.out.2.1]
      go_wp2_with fail
      refine (on_any X2 h13 t2 _ HO13.out.at_).mono ?_
      rintro e z15 ⟨rfl, rfl⟩
      rw [HT.out.2.1]
      go_wp2_with fail
      have HP16 := hide (rowS_one z15 M)
      have HF16 := hide (off_new HM13s.out.at_)
      have HK17 := hide (HM13s.out.keep (more (start z15) (.cells #[.string (str M)] 9)))
      have HK18 := hide (HO13.out.keep (more (start z15) (.cells #[.string (str M)] 9)))
      refine (sWrite_any X1 h9 s2 _ _ _ [M] _ HK17.out.at_ HP16.out (fun _ => HF16.out) rfl (by simp) ZB.out ZE.out.2.1).mono ?_
      rintro e y19 ⟨rfl, ht19⟩
      obtain ⟨h19, hg19, ho19, hc19⟩ := HK17.out.turn ht19
      have HB19t := hide (HK18.out.other hc19 HB13s.out.2.swap HK17.out.x HK17.out.y hg19)
      have HM19t := hide HB19t.out.1
      have HO19 := hide ho19
      rw [HS.out.2.2.1]
      clear ho19 hc19 hg19 ht19
      rw [← E3.out] at HO19
      go_wp2_with fail
      refine (rise_any X1 h19 s3 _ HO19.out.at_ ZF.out.1).mono ?_
      rintro e y20 ⟨rfl, h1_20, hc20⟩
      have ho20 := HO19.out.chg h1_20 hc20
      have hg20 : h19 = h19 ∨ y19.heap.size ≤ h19 := Or.inl rfl
      have HB20t := hide (HM19t.out.other hc20 HB19t.out.2 HO19.out.x HO19.out.y hg20)
      have HM20t := hide HB20t.out.1
      have HO20 := hide ho20
      clear ho20 hc20 hg20
      clear h1_20
      go_wp2_with fail
      refine (rise_any X2 h13 t2 _ HM20t.out.at_ ZF.out.2).mono ?_
      rintro e y21 ⟨rfl, h1_21, hc21⟩
      have ho21 := HM20t.out.chg h1_21 hc21
      have hg21 : h13 = h13 ∨ y20.heap.size ≤ h13 := Or.inl rfl
      have HB21s := hide (HO20.out.other hc21 HB20t.out.2.swap HM20t.out.x HM20t.out.y hg21)
      have HM21s := hide HB21s.out.1
      have HO21 := hide ho21
      clear ho21 hc21 hg21
      clear h1_21
      rw [HT.out.2.2.1] at HO21
      have hcat : ¬ (9223372036854775807 < L.length + 1) := by have := HLL.out; omega
      have q0 : ((str (L ++ [10])).toList == (str L ++ (⟨#[10]⟩ : ByteArray)).toList) = true := by rw [show str L ++ (⟨#[10]⟩ : ByteArray) = str (L ++ [10]) from str_app L [10]]; exact beq_self_eq_true _
      have q1 : ((str ([] : Tx)).toList == ([] : List UInt8)) = true := by rw [str_tl]; rfl
      go_wp2_with fail
      refine (text_any X1 h19 (riseS s3) _ HM21s.out.at_).mono ?_
      rintro e z22 ⟨rfl, rfl⟩
      rw [HS.out.2.2.2.1]
      go_wp2_with fail
      refine (text_any X2 h13 (newS []) _ HO21.out.at_).mono ?_
      rintro e z23 ⟨rfl, rfl⟩
      rw [show (newS []).t = [] from rfl]
      go_wp2_with fail
      have HP24 := hide (rowS_one z23 M)
      have HF24 := hide (off_new HO21.out.at_)
      have HK25 := hide (HM21s.out.keep (more (start z23) (.cells #[.string (str M)] 9)))
      have HK26 := hide (HO21.out.keep (more (start z23) (.cells #[.string (str M)] 9)))
      refine (sWrite_any X2 h13 (newS []) _ _ _ [M] _ HK26.out.at_ HP24.out (fun _ => HF24.out) rfl (by simp) ZD.out (by decide)).mono ?_
      rintro e y27 ⟨rfl, ht27⟩
      obtain ⟨h27, hg27, ho27, hc27⟩ := HK26.out.turn ht27
      have HB27s := hide (HK25.out.other hc27 HB21s.out.2 HK26.out.x HK26.out.y hg27)
      have HM27s := hide HB27s.out.1
      have HO27 := hide ho27
      rw [HT.out.2.2.2.1]
      clear ho27 hc27 hg27 ht27
      go_wp2_with fail
      go_ret
      exact ⟨rfl, HM27s.out.b⟩
end Go.Proofs.YtimhbpfeofdfnaaDoor

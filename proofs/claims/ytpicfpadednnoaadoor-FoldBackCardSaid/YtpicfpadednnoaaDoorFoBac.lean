/- FoldBack walked: lines that are folded are unfolded, signs come back, no folded line is too long. -/
import Derived.Test.YtpicfpadednnoaaDoorFoK
namespace Go.Proofs.YtpicfpadednnoaaDoor
open Go.RowKit Rul Rt Fo Go.Sort

def fit (p : Tx) : Prop := p.head? ≠ some 32 ∧ (13 : UInt8) ∉ p
theorem chk_end (col : Nat) (t : Tx) (h : chk col (10 :: t) = true) : chk 0 t = true := by rw [chk, if_pos rfl] at h; exact h
theorem chk_low (col : Nat) (c : UInt8) (t : Tx) (hc : c ≠ 10) (h : chk col (c :: t) = true) : chk (col + 1) t = true ∧ (75 ≤ col → c = 13) := by
  rw [chk, if_neg hc] at h
  by_cases g : 75 ≤ col ∧ c ≠ 13
  · rw [if_pos g] at h; cases h
  · rw [if_neg g] at h
    exact ⟨h, fun h1 => Classical.byContradiction fun h2 => g ⟨h1, h2⟩⟩
theorem not_mem_take {c : UInt8} {B : ByteArray} (k : Nat) (hk : k < B.size) (h : c ∉ B.data.toList.take k) (hc : B[k] ≠ c) : c ∉ B.data.toList.take (k + 1) := by
  rw [take_next B k hk]
  intro g
  rcases List.mem_append.1 g with g | g
  · exact h g
  · rw [List.mem_singleton] at g; exact hc g.symm
theorem flat_size (l : List Tx) (h : ∀ s ∈ l, s.length ≤ 300) : (flat l).length ≤ 400 * l.length := by
  induction l with
  | nil => simp [flat]
  | cons s l ih =>
    have h1 := ih fun x hx => h x (List.mem_cons_of_mem _ hx)
    have h2 := h s (by simp)
    have h3 := foldE_len s
    simp only [flat, List.length_append, List.length_cons, crlf_len]
    omega

set_option maxRecDepth 100000 in
set_option maxHeartbeats 2000000 in
theorem back_any (A : Option Addr) (n c : Nat) (l : List Tx) (w : World) (he : Env w) (hr : RowS w A l) (hn : n = l.length) (_hm : l.length ≤ maxLen) :
    Calls Tryd.prog 4 #[.slice A n c] w (Ans w (.bool true)) := by
  have HE := hide he
  have HK := hide (known_any w he)
  have HR := hide hr
  have HN := hide hn
  clear he hr hn
  by_cases h10 : 10 < n
  · have q : decide ((10 : Int) < (n : Int)) = true := decide_eq_true (by omega)
    go_enter Tryd.func4, Tryd.ntmps4
    go_wp2_with fail
    refine (HK.out).mono ?_
    rintro e w1 ⟨rfl, hb1⟩
    have HB := hide hb1
    clear hb1
    go_wp2_with fail
    go_ret
    exact ⟨rfl, HB.out⟩
  · have q : decide ((10 : Int) < (n : Int)) = false := decide_eq_false (by omega)
    have hni : (n : Int) ≤ 10 := by omega
    go_enter Tryd.func4, Tryd.ntmps4
    go_wp2_with fail
    refine (HK.out).mono ?_
    rintro e w1 ⟨rfl, hb1⟩
    have HB1 := hide hb1
    clear hb1
    go_wp2_with fail
    go_loopw [3, 4, 5, 6, 7, 8, 9, 10] (fun S i _ _ _ _ _ _ wr => ∃ (j : Nat) (X : ByteArray), j ≤ n ∧ i = .int .i64 j ∧ S = .string X ∧ Hid (X = str (flat (l.take j))) ∧ Hid (∀ s ∈ l.take j, fit s ∧ s.length ≤ 300) ∧ Hid (Below w.heap.size w wr)) (fun _ i _ _ _ _ _ _ _ => n - (intOf i).toNat)
    case atStart => exact ⟨0, str [], Nat.zero_le _, rfl, rfl, hide rfl, hide (fun s hs => by rw [List.take_zero] at hs; cases hs), HB1⟩
    case round =>
      obtain ⟨j, X, hj, rfl, rfl, HX, HG, HB⟩ := hrel
      by_cases hlt : j < n
      · have hjl : j < l.length := by rw [← HN.out]; exact hlt
        obtain ⟨b, o, rfl, hbl, hc⟩ := HR.out (by intro e; rw [e] at hjl; exact absurd hjl (Nat.not_lt_zero _))
        obtain ⟨B, hB⟩ : ∃ B, str l[j] = B := ⟨_, rfl⟩
        have hT : l[j] = B.data.toList := by rw [← hB, str_list]
        have HBL := hide hbl
        have P0 : Hid (w.cell? ⟨b, o + j, none⟩ = some (.string B)) := hide (by rw [hc j hjl, hB])
        have P1 : wr.cell? ⟨b, o + j, none⟩ = some (.string B) := (HB.out.cell (p := ⟨b, _, none⟩) hbl).trans P0.out
        have hi0 : (0 : Int) ≤ (j : Int) := by omega
        have hi1 : (j : Int) < (n : Int) := by omega
        have HTK : Hid (l.take (j + 1) = l.take j ++ [B.data.toList]) := hide (by rw [List.take_succ_eq_append_getElem hjl, hT])
        clear hc hbl hB hT
        by_cases h300 : 300 < B.size
        · have q3 : decide ((300 : Int) < (B.size : Int)) = true := decide_eq_true (by omega)
          go_wp2_with fail
          go_ret
          exact ⟨rfl, HB.out⟩
        · have q3 : decide ((300 : Int) < (B.size : Int)) = false := decide_eq_false (by omega)
          by_cases hz : B.size = 0
          · have q4 : ((B.size : Int) == 0) = true := by rw [beq_iff_eq]; omega
            clear h300
            go_wp2_with fail
            go_ret
            exact ⟨rfl, HB.out⟩
          · have q4 : ((B.size : Int) == 0) = false := by rw [beq_eq_false_iff_ne]; omega
            have hz0 : 0 < B.size := by omega
            have hz1 : (0 : Int) < (B.size : Int) := by omega
            have hB3 : (B.size : Int) ≤ 300 := by omega
            obtain ⟨d, hd⟩ : ∃ d, B[0]'hz0 = d := ⟨_, rfl⟩
            by_cases h32 : d = 32
            · have q5 : ((d.toNat : Int) == 32) = true := by subst h32; decide
              clear h300 hz h32
              go_wp2_with fail
              go_ret
              exact ⟨rfl, HB.out⟩
            · have q5 : ((d.toNat : Int) == 32) = false := by rw [show (32 : Int) = ((32 : UInt8).toNat : Int) from rfl, byte_eq]; simp; exact h32
              have HH : Hid (B.data.toList.head? ≠ some 32) := hide (by
                have h1 : 0 < B.data.toList.length := by rw [len_of]; exact hz0
                rw [List.head?_eq_getElem?, List.getElem?_eq_getElem h1]
                intro e; injection e with e
                exact h32 (by rw [← hd]; exact e))
              have HS3 : Hid (B.size ≤ 300) := hide (by omega)
              clear h300 hz h32
              obtain ⟨V, rfl⟩ : ∃ V, V = wr := ⟨wr, rfl⟩
              go_wp2_with fail
              go_loopw [5] (fun k wx => ∃ q : Nat, q ≤ B.size ∧ k = .int .i64 q ∧ Hid ((13 : UInt8) ∉ B.data.toList.take q ∧ (10 : UInt8) ∉ B.data.toList.take q) ∧ wx = V) (fun k _ => B.size - (intOf k).toNat)
              case atStart => exact ⟨0, Nat.zero_le _, rfl, hide (by rw [List.take_zero]; exact ⟨List.not_mem_nil, List.not_mem_nil⟩), rfl⟩
              case round =>
                obtain ⟨q, hq, rfl, HM, rfl⟩ := hrel
                by_cases hqt : q < B.size
                · obtain ⟨c0, hc0⟩ : ∃ c, B[q] = c := ⟨_, rfl⟩
                  have hq0 : (0 : Int) ≤ (q : Int) := by omega
                  have hq1 : (q : Int) < (B.size : Int) := by omega
                  by_cases h13 : c0 = 13
                  · have q6 : ((c0.toNat : Int) == 13) = true := by subst h13; decide
                    clear h13
                    go_wp2_with fail
                    go_ret
                    exact ⟨rfl, HB.out⟩
                  · have q6 : ((c0.toNat : Int) == 13) = false := by rw [show (13 : Int) = ((13 : UInt8).toNat : Int) from rfl, byte_eq]; simp; exact h13
                    by_cases h10 : c0 = 10
                    · have q7 : ((c0.toNat : Int) == 10) = true := by subst h10; decide
                      clear h13 h10
                      go_wp2_with fail
                      go_ret
                      exact ⟨rfl, HB.out⟩
                    · have q7 : ((c0.toNat : Int) == 10) = false := by rw [show (10 : Int) = ((10 : UInt8).toNat : Int) from rfl, byte_eq]; simp; exact h10
                      have HM2 : Hid ((13 : UInt8) ∉ B.data.toList.take (q + 1) ∧ (10 : UInt8) ∉ B.data.toList.take (q + 1)) := hide ⟨not_mem_take q hqt HM.out.1 (by rw [hc0]; exact h13), not_mem_take q hqt HM.out.2 (by rw [hc0]; exact h10)⟩
                      clear h13 h10
                      go_wp2_with fail
                      go_roundw
                      case rel => exact ⟨q + 1, by omega, by go_num, HM2, by trivial⟩
                      case measure => simp [intOf]; omega
                · obtain rfl : q = B.size := by omega
                  rw [List.take_of_length_le (by simp)] at HM
                  have HCF : Hid (chk 0 (foldE B.data.toList) = true) := hide (chk_fold _ HM.out.2)
                  have HLF : Hid ((foldE B.data.toList).length ≤ 400) := hide (by rw [foldE_len, len_of]; have := HS3.out; omega)
                  have HFL : Hid (flat (l.take (j + 1)) = flat (l.take j) ++ (foldE B.data.toList ++ crlf)) := hide (by rw [HTK.out, flat_snoc])
                  have C1 := hide (fun w => fold_any B w (by have := HS3.out; omega))
                  generalize foldE B.data.toList = F at *
                  obtain ⟨G, hG⟩ : ∃ G, str F = G := ⟨_, rfl⟩
                  have hF : F = G.data.toList := by rw [← hG, str_list]
                  subst hF
                  rw [data_str] at C1
                  rw [len_of] at HLF
                  clear hG
                  have HXs : Hid (X.size ≤ 4000) := hide (by
                    have h1 := flat_size (l.take j) (fun s hs => (HG.out s hs).2)
                    rw [List.length_take] at h1
                    rw [HX.out, str_size]; omega)
                  have HG2 : Hid (∀ s ∈ l.take (j + 1), fit s ∧ s.length ≤ 300) := hide (fun s hs => by
                    rw [HTK.out] at hs
                    rcases List.mem_append.1 hs with hs | hs
                    · exact HG.out s hs
                    · rw [List.mem_singleton] at hs
                      subst hs
                      exact ⟨⟨HH.out, HM.out.1⟩, by rw [len_of]; exact HS3.out⟩)
                  have C2 := hide (fun w => escape_any B w (by have := HS3.out; omega))
                  have C3 := hide (fun w he => unescape_at (escE B.data.toList) (some B.data.toList) w he (by have h1 := escE_len B.data.toList; rw [len_of] at h1; have := HS3.out; omega) (unE_escE _))
                  generalize escE B.data.toList = E at *
                  simp only [unA] at C3
                  have qs : ((str B.data.toList).toList == B.toList) = true := by rw [data_str]; exact beq_self_eq_true _
                  clear hz0 hd hz1 q3 q4 q5 HM
                  go_wp2_with fail
                  refine (C1.out _).mono ?_
                  rintro e w2 ⟨rfl, hb2⟩
                  have P2 := (hb2.cell (p := ⟨b, o + j, none⟩) (Nat.lt_of_lt_of_le HBL.out HB.out.size)).trans P1
                  replace HB := hide (andthen HB.out hb2)
                  clear hb2 P1
                  go_wp2_with fail
                  obtain ⟨V2, rfl⟩ : ∃ V2, V2 = w2 := ⟨w2, rfl⟩
                  go_loopw [7, 8] (fun at8 k wx => ∃ q a : Nat, q ≤ G.size ∧ a ≤ q ∧ k = .int .i64 q ∧ at8 = .int .i64 a ∧ Hid (chk (q - a) (G.data.toList.drop q) = true) ∧ wx = V2) (fun _ k _ => G.size - (intOf k).toNat)
                  case atStart => exact ⟨0, 0, Nat.zero_le _, Nat.le_refl _, rfl, rfl, HCF, rfl⟩
                  case round =>
                    obtain ⟨q, a, hqg, haq, rfl, rfl, HC, rfl⟩ := hrel
                    have hG4 : (G.size : Int) ≤ 400 := by have := HLF.out; omega
                    by_cases hqt : q < G.size
                    · obtain ⟨c0, hc0⟩ : ∃ c, G[q] = c := ⟨_, rfl⟩
                      have HD := hide (un_at G q hqt c0 hc0)
                      have hq0 : (0 : Int) ≤ (q : Int) := by omega
                      have hq1 : (q : Int) < (G.size : Int) := by omega
                      rw [HD.out] at HC
                      by_cases h10 : c0 = 10
                      · subst h10
                        have HC2 : Hid (chk (q + 1 - (q + 1)) (G.data.toList.drop (q + 1)) = true) := hide (by rw [Nat.sub_self]; exact chk_end _ _ HC.out)
                        have q6 : ((((10 : UInt8).toNat : Int)) == 10) = true := by decide
                        have q7 : decide ((75 : Int) ≤ (q : Int) - ((q : Int) + 1)) = false := decide_eq_false (by omega)
                        go_wp2_with fail
                        go_roundw
                        case rel => exact ⟨q + 1, q + 1, by omega, Nat.le_refl _, by go_num, by go_num, HC2, by trivial⟩
                        case measure => simp [intOf]; omega
                      · obtain ⟨g1, g2⟩ := chk_low _ _ _ h10 HC.out
                        have HC2 : Hid (chk (q + 1 - a) (G.data.toList.drop (q + 1)) = true) := hide (by rw [show q + 1 - a = q - a + 1 by omega]; exact g1)
                        have q6 : ((c0.toNat : Int) == 10) = false := by rw [show (10 : Int) = ((10 : UInt8).toNat : Int) from rfl, byte_eq]; simp; exact h10
                        have q6n : ((c0.toNat : Int) != 10) = true := by rw [bne, q6]; rfl
                        have ha0 : (0 : Int) ≤ (a : Int) := by omega
                        have haq1 : (a : Int) ≤ (q : Int) := by omega
                        by_cases h75 : 75 ≤ q - a
                        · have h13 := g2 h75
                          have q7 : decide ((75 : Int) ≤ (q : Int) - (a : Int)) = true := decide_eq_true (by omega)
                          have q8 : ((c0.toNat : Int) != 13) = false := by subst h13; decide
                          clear g1 g2 h75 h13 h10
                          go_wp2_with fail
                          go_roundw
                          case rel => exact ⟨q + 1, a, by omega, by omega, by go_num, rfl, HC2, by trivial⟩
                          case measure => simp [intOf]; omega
                        · have q7 : decide ((75 : Int) ≤ (q : Int) - (a : Int)) = false := decide_eq_false (by omega)
                          clear g1 g2 h75 h10
                          go_wp2_with fail
                          go_roundw
                          case rel => exact ⟨q + 1, a, by omega, by omega, by go_num, rfl, HC2, by trivial⟩
                          case measure => simp [intOf]; omega
                    · obtain rfl : q = G.size := by omega
                      have hXs := HXs.out
                      have hGs : G.size ≤ 400 := HLF.out
                      have hXG : (X ++ G).size ≤ 4400 := by rw [ByteArray.size_append]; omega
                      have HXN : Hid ((X ++ G) ++ str crlf = str (flat (l.take (j + 1)))) := hide (by
                        rw [HFL.out, HX.out, str_of G, str_app, str_app, str_list]; simp)
                      clear HC
                      go_wp2_with fail
                      refine (C2.out _).mono ?_
                      rintro e w3 ⟨rfl, hb3⟩
                      have P3 := hide ((hb3.cell (p := ⟨b, o + j, none⟩) (Nat.lt_of_lt_of_le HBL.out HB.out.size)).trans P2)
                      replace HB := hide (andthen HB.out hb3)
                      clear hb3 P2
                      go_wp2_with fail
                      refine (C3.out _ (HE.out.keep HB.out)).mono ?_
                      rintro e w4 ⟨rfl, hb4⟩
                      have P4 := (hb4.cell (p := ⟨b, o + j, none⟩) (Nat.lt_of_lt_of_le HBL.out HB.out.size)).trans P3.out
                      replace HB := hide (andthen HB.out hb4)
                      clear hb4 P3
                      go_wp2_with fail
                      go_roundw
                      case rel => exact ⟨j + 1, _, by omega, by go_num, rfl, HXN, HG2, HB⟩
                      case measure => simp [intOf]; omega
      · obtain rfl : j = n := by omega
        have htl : l.take j = l := List.take_of_length_le (by rw [HN.out]; exact Nat.le_refl _)
        rw [htl] at HX HG
        have hfl := flat_size l (fun s hs => (HG.out s hs).2)
        have hjl := HN.out
        have CU := hide (fun w he => unfold_at (flat l) l w he (by omega) (unfold_flat l fun s hs => (HG.out s hs).1))
        rw [← HX.out] at CU
        clear htl hfl hlt
        go_wp2_with fail
        refine (CU.out _ (HE.out.keep HB.out)).mono ?_
        rintro e w2 ⟨v, rfl, hown, hb2⟩
        obtain ⟨A2, c2, rfl, hr2, _⟩ := OwnS.row hown
        have HBW := hide (andthen HB.out hb2)
        have HSM := hide (same_any A2 A _ j c2 c l l w2 hr2 (HR.out.keep HBW.out) rfl hjl (by omega))
        rw [show decide (l = l) = true from decide_eq_true rfl] at HSM
        clear hb2 hown hr2 hjl
        go_wp2_with fail
        refine (HSM.out).mono ?_
        rintro e w3 ⟨rfl, hb3⟩
        have HBX := hide (andthen HBW.out hb3)
        clear hb3
        go_wp2_with fail
        go_ret
        exact ⟨rfl, HBX.out⟩

end Go.Proofs.YtpicfpadednnoaaDoor

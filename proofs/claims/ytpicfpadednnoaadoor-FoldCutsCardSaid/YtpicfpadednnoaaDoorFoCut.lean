/- FoldCuts walked: a text is cut at each line's end, and at these alone. -/
import Derived.Test.YtpicfpadednnoaaDoorFoK
import Derived.Test.YtpicfpadednnoaaDoorFoRow
namespace Go.Proofs.YtpicfpadednnoaaDoor
open Go.RowKit Rul Rt Fo Go.Sort

/-- the pieces that the sizes ask for. -/
def pcs (l : List Nat) : List Tx := l.map fun x => pat (x % 9)
theorem pcs_len (l : List Nat) : (pcs l).length = l.length := by simp [pcs]
theorem pcs_snoc (l : List Nat) (x : Nat) : pcs (l ++ [x]) = pcs l ++ [pat (x % 9)] := by simp [pcs]
theorem pcs_free (l : List Nat) : ∀ s ∈ pcs l, (13 : UInt8) ∉ s ∧ s.head? ≠ some 32 := fun s hs => by
  obtain ⟨x, _, rfl⟩ := List.mem_map.1 hs
  exact ⟨pat_free _, pat_head _⟩
/-- what the text is ahead of the next piece. -/
def ahead (l : List Nat) : Tx := if l = [] then [] else cat (pcs l) ++ crlf
theorem ahead_next (l : List Nat) (x : Nat) : ahead l ++ pat (x % 9) = cat (pcs (l ++ [x])) := by
  unfold ahead
  rw [pcs_snoc]
  split
  · rename_i h; subst h; rfl
  · rename_i h
    rw [cat_snoc _ _ (by intro e; apply h; have := pcs_len l; rw [e] at this; exact List.eq_nil_of_length_eq_zero this.symm)]
theorem cat_len : ∀ (l : List Nat), (cat (pcs l)).length ≤ 20 * l.length
  | [] => by simp [pcs, cat]
  | [x] => by
    have := pat_len (x % 9)
    simp only [pcs, List.map_cons, List.map_nil, cat, List.length_cons, List.length_nil]
    omega
  | x :: y :: l => by
    have ih := cat_len (y :: l)
    have := pat_len (x % 9)
    show ((pat (x % 9)) ++ crlf ++ cat (pcs (y :: l))).length ≤ _
    simp only [List.length_append, List.length_cons, crlf_len] at ih ⊢
    omega
theorem want_end (l : List Nat) (h : l ≠ []) : (unfoldE (cat (pcs l) ++ crlf)).length = l.length := by
  rw [unfold_cat_end (pcs l) (by intro e; apply h; have := pcs_len l; rw [e] at this; exact List.eq_nil_of_length_eq_zero this.symm) (pcs_free l), pcs_len]
theorem want_open (l : List Nat) (x : Nat) : (unfoldE (cat (pcs (l ++ [x])))).length = if x % 9 = 0 then l.length else l.length + 1 := by
  have hne : pcs (l ++ [x]) ≠ [] := by rw [pcs_snoc]; simp
  rw [unfold_cat (pcs (l ++ [x])) hne (pcs_free _), pcs_len, pcs_snoc]
  by_cases hx : x % 9 = 0
  · have : (pcs l ++ [pat (x % 9)]).getLast? = some [] := by rw [hx]; simp [pat]
    rw [if_pos this, if_pos hx]; simp
  · have : ¬ (pcs l ++ [pat (x % 9)]).getLast? = some [] := by
      simp only [List.getLast?_concat, Option.some.injEq]
      intro e; exact hx ((pat_empty _).1 e)
    rw [if_neg this, if_neg hx]; simp

theorem ahead_zero (l : List Nat) : str ([] : Tx) = str (ahead (l.take 0) ++ pat 0) := by rw [List.take_zero]; rfl
theorem ahead_more (l : List Nat) (j : Nat) (h : 0 < j) (hj : j < l.length) : str (cat (pcs (l.take j))) ++ str crlf = str (ahead (l.take j) ++ pat 0) := by
  have hne : l.take j ≠ [] := by intro e; have := congrArg List.length e; rw [List.length_take, List.length_nil] at this; omega
  rw [str_app]
  unfold ahead
  rw [if_neg hne]
  simp [pat]
theorem pat_even (a : Tx) (q : Nat) (h : q % 2 = 0) : str (a ++ pat q) ++ str [120] = str (a ++ pat (q + 1)) := by
  rw [str_app]
  have e : pat (q + 1) = pat q ++ ((if q % 2 = 1 then [10] else []) ++ [120]) := rfl
  rw [e, if_neg (by omega)]; simp
theorem pat_odd (a : Tx) (q : Nat) (h : q % 2 = 1) : str (a ++ pat q) ++ str [10] ++ str [120] = str (a ++ pat (q + 1)) := by
  rw [str_app, str_app]
  have e : pat (q + 1) = pat q ++ ((if q % 2 = 1 then [10] else []) ++ [120]) := rfl
  rw [e, if_pos h]; simp
theorem ahead_len (l : List Nat) : (ahead l).length ≤ 20 * l.length + 2 := by
  unfold ahead
  split
  · simp
  · have := cat_len l
    rw [List.length_append, crlf_len]; omega

set_option maxRecDepth 100000 in
set_option maxHeartbeats 1000000 in
theorem cuts_any (A : Option Addr) (n c : Nat) (l : List Nat) (en : Bool) (w : World) (he : Env w) (hr : RowB w A l) (hn : n = l.length) (_hm : l.length ≤ maxLen) (hu : ∀ x ∈ l, x ≤ 255) :
    Calls Tryd.prog 7 #[.slice A n c, .bool en] w (Ans w (.bool true)) := by
  have HE := hide he
  have HK := hide (known_any w he)
  have HR := hide hr
  have HN := hide hn
  have HUB := hide hu
  clear he hr hn hu
  rcases (by omega : 12 < n ∨ n = 0 ∨ (0 < n ∧ n ≤ 12)) with h12 | h0 | ⟨hn0, hn12⟩
  · have q : decide ((12 : Int) < (n : Int)) = true := decide_eq_true (by omega)
    have q2 : (12 : Int) < (n : Int) := by omega
    go_enter Tryd.func7, Tryd.ntmps7
    go_wp2_with fail
    refine (HK.out).mono ?_
    rintro e w1 ⟨rfl, hb1⟩
    have HB := hide hb1
    clear hb1
    go_wp2_with fail
    go_ret
    exact ⟨rfl, HB.out⟩
  · subst h0
    go_enter Tryd.func7, Tryd.ntmps7
    go_wp2_with fail
    refine (HK.out).mono ?_
    rintro e w1 ⟨rfl, hb1⟩
    have HB := hide hb1
    clear hb1
    go_wp2_with fail
    go_ret
    exact ⟨rfl, HB.out⟩
  · have q : decide ((12 : Int) < (n : Int)) = false := decide_eq_false (by omega)
    have q2 : ((n : Int) == 0) = false := by rw [beq_eq_false_iff_ne]; omega
    have hni : (n : Int) ≤ 12 := by omega
    obtain ⟨b, o, rfl, hbl, hc⟩ := HR.out (by intro e; have h := HN.out; rw [e] at h; simp at h; omega)
    have HC := hide (And.intro hbl hc)
    clear hbl hc
    go_enter Tryd.func7, Tryd.ntmps7
    go_wp2_with fail
    refine (HK.out).mono ?_
    rintro e w1 ⟨rfl, hb1⟩
    have HB := hide hb1
    clear hb1
    go_wp2_with fail
    go_loopw [5, 6, 7] (fun S i _ wr => ∃ (j : Nat) (X : ByteArray), j ≤ n ∧ i = .int .i64 j ∧ S = .string X ∧ Hid (X = str (cat (pcs (l.take j)))) ∧ wr = w1) (fun _ i _ _ => n - (intOf i).toNat)
    case atStart => exact ⟨0, str [], Nat.zero_le _, rfl, rfl, hide rfl, rfl⟩
    case round =>
      obtain ⟨j, X, hj, rfl, rfl, HX, rfl⟩ := hrel
      by_cases hlt : j < n
      · have hjl : j < l.length := by rw [← HN.out]; exact hlt
        obtain ⟨x, hx⟩ : ∃ x, l[j] = x := ⟨_, rfl⟩
        obtain ⟨V, rfl⟩ : ∃ V, V = wr := ⟨wr, rfl⟩
        have P1 : V.cell? ⟨b, o + j, none⟩ = some (.int .u8 (x : Int)) := by rw [← hx]; exact (HB.out.cell (p := ⟨b, _, none⟩) HC.out.1).trans (HC.out.2 j hjl)
        have hi0 : (0 : Int) ≤ (j : Int) := by omega
        have hi1 : (j : Int) < (n : Int) := by omega
        have hXs : X.size ≤ 1000 := by
          have h1 := cat_len (l.take j)
          rw [List.length_take] at h1
          rw [HX.out, str_size]; omega
        have hx255 : x ≤ 255 := by rw [← hx]; exact HUB.out _ (List.getElem_mem hjl)
        have HNX : Hid (ahead (l.take j) ++ pat (x % 9) = cat (pcs (l.take (j + 1)))) := hide (by
          rw [List.take_succ_eq_append_getElem hjl, hx]; exact ahead_next _ _)
        have HAL : Hid ((ahead (l.take j)).length ≤ 300) := hide (by
          have h1 := ahead_len (l.take j)
          rw [List.length_take] at h1; omega)
        have hx9 : (x : Int).tmod 9 = ((x % 9 : Nat) : Int) := by rw [Int.tmod_eq_emod_of_nonneg (by omega)]; rfl
        obtain ⟨y, hy⟩ : ∃ y, x % 9 = y := ⟨_, rfl⟩
        rw [hy] at hx9 HNX
        have hy9 : y ≤ 8 := by omega
        clear hy hx
        rcases Nat.eq_zero_or_pos j with hz | hz
        · have HX0 : Hid (X = str (ahead (l.take j) ++ pat 0)) := hide (by subst hz; rw [HX.out]; exact ahead_zero l)
          have hz1 : decide ((0 : Int) < (j : Int)) = false := decide_eq_false (by omega)
          have hz2 : decide (0 < j) = false := decide_eq_false (by omega)
          clear hz
          go_wp2_with fail
          go_loopw [5, 7] (fun S k wx => ∃ (q : Nat) (Z : ByteArray), q ≤ y ∧ k = .int .i64 q ∧ S = .string Z ∧ Hid (Z = str (ahead (l.take j) ++ pat q)) ∧ wx = V) (fun _ k _ => y - (intOf k).toNat)
          case atStart => exact ⟨0, _, Nat.zero_le _, rfl, rfl, HX0, rfl⟩
          case round =>
            obtain ⟨q, Z, hq, rfl, rfl, HZ, rfl⟩ := hrel
            have hZs : Z.size ≤ 1000 := by
              have h1 := HAL.out
              have h2 := pat_len q
              rw [HZ.out, str_size, List.length_append]; omega
            by_cases hqy : q < y
            · have hqi : (q : Int) < (y : Int) := by omega
              have hq0 : (0 : Int) ≤ (q : Int) := by omega
              have hq1 : (q : Int).tmod 2 = ((q % 2 : Nat) : Int) := by rw [Int.tmod_eq_emod_of_nonneg (by omega)]; rfl
              rcases (by omega : q % 2 = 0 ∨ q % 2 = 1) with h2 | h2
              · have HP := hide (pat_even (ahead (l.take j)) q h2)
                rw [← HZ.out] at HP
                rw [h2] at hq1
                clear h2
                go_wp2_with fail
                go_roundw
                case rel => exact ⟨q + 1, _, by omega, by go_num, rfl, HP, by trivial⟩
                case measure => simp [intOf]; omega
              · have HP := hide (pat_odd (ahead (l.take j)) q h2)
                rw [← HZ.out] at HP
                rw [h2] at hq1
                have hZ1 : (Z ++ str [10]).size ≤ 1001 := by rw [ByteArray.size_append, str_size]; simp only [List.length_cons, List.length_nil]; omega
                clear h2
                go_wp2_with fail
                go_roundw
                case rel => exact ⟨q + 1, _, by omega, by go_num, rfl, HP, by trivial⟩
                case measure => simp [intOf]; omega
            · obtain rfl : q = y := by omega
              rw [HNX.out] at HZ
              go_wp2_with fail
              go_roundw
              case rel => exact ⟨j + 1, Z, by omega, by go_num, rfl, HZ, by trivial⟩
              case measure => simp [intOf]; omega
        · have HX0 : Hid (X ++ str crlf = str (ahead (l.take j) ++ pat 0)) := hide (by rw [HX.out]; exact ahead_more l j hz hjl)
          have hz1 : decide ((0 : Int) < (j : Int)) = true := decide_eq_true (by omega)
          have hz2 : decide (0 < j) = true := decide_eq_true (by omega)
          go_wp2_with fail
          go_loopw [5, 7] (fun S k wx => ∃ (q : Nat) (Z : ByteArray), q ≤ y ∧ k = .int .i64 q ∧ S = .string Z ∧ Hid (Z = str (ahead (l.take j) ++ pat q)) ∧ wx = V) (fun _ k _ => y - (intOf k).toNat)
          case atStart => exact ⟨0, _, Nat.zero_le _, rfl, rfl, HX0, rfl⟩
          case round =>
            obtain ⟨q, Z, hq, rfl, rfl, HZ, rfl⟩ := hrel
            have hZs : Z.size ≤ 1000 := by
              have h1 := HAL.out
              have h2 := pat_len q
              rw [HZ.out, str_size, List.length_append]; omega
            by_cases hqy : q < y
            · have hqi : (q : Int) < (y : Int) := by omega
              have hq0 : (0 : Int) ≤ (q : Int) := by omega
              have hq1 : (q : Int).tmod 2 = ((q % 2 : Nat) : Int) := by rw [Int.tmod_eq_emod_of_nonneg (by omega)]; rfl
              rcases (by omega : q % 2 = 0 ∨ q % 2 = 1) with h2 | h2
              · have HP := hide (pat_even (ahead (l.take j)) q h2)
                rw [← HZ.out] at HP
                rw [h2] at hq1
                clear h2
                go_wp2_with fail
                go_roundw
                case rel => exact ⟨q + 1, _, by omega, by go_num, rfl, HP, by trivial⟩
                case measure => simp [intOf]; omega
              · have HP := hide (pat_odd (ahead (l.take j)) q h2)
                rw [← HZ.out] at HP
                rw [h2] at hq1
                have hZ1 : (Z ++ str [10]).size ≤ 1001 := by rw [ByteArray.size_append, str_size]; simp only [List.length_cons, List.length_nil]; omega
                clear h2
                go_wp2_with fail
                go_roundw
                case rel => exact ⟨q + 1, _, by omega, by go_num, rfl, HP, by trivial⟩
                case measure => simp [intOf]; omega
            · obtain rfl : q = y := by omega
              rw [HNX.out] at HZ
              go_wp2_with fail
              go_roundw
              case rel => exact ⟨j + 1, Z, by omega, by go_num, rfl, HZ, by trivial⟩
              case measure => simp [intOf]; omega

      · obtain rfl : j = n := by omega
        have hlj : l.take j = l := List.take_of_length_le (by rw [HN.out]; exact Nat.le_refl _)
        rw [hlj] at HX
        obtain ⟨l0, x, hl0⟩ : ∃ l0 x, l = l0 ++ [x] := by
          have hne : l ≠ [] := by intro e; have h := HN.out; rw [e] at h; simp at h; omega
          exact ⟨l.dropLast, l.getLast hne, (List.dropLast_concat_getLast hne).symm⟩
        obtain ⟨m, hm⟩ : ∃ m, l0.length = m := ⟨_, rfl⟩
        have hjm : j = m + 1 := by rw [HN.out, hl0, List.length_append, hm]; rfl
        have hx255 : x ≤ 255 := HUB.out x (by rw [hl0]; simp)
        have hxi : l[m]'(by rw [hl0, List.length_append, hm]; simp) = x := by subst hl0; subst hm; simp
        have P2 : wr.cell? ⟨b, o + m, none⟩ = some (.int .u8 (x : Int)) := by rw [← hxi]; exact (HB.out.cell (p := ⟨b, _, none⟩) HC.out.1).trans (HC.out.2 m (by rw [hl0, List.length_append, hm]; simp))
        have hx9 : (x : Int).tmod 9 = ((x % 9 : Nat) : Int) := by rw [Int.tmod_eq_emod_of_nonneg (by omega)]; rfl
        have hXs : X.size ≤ 1000 := by
          have h1 := cat_len l
          rw [HX.out, str_size]
          have h2 := HN.out
          omega
        have hXl : (cat (pcs l)).length ≤ 1000 := by rw [← str_size, ← HX.out]; exact hXs
        have CE := hide (fun w he => unfold_at (cat (pcs l) ++ crlf) _ w he (by rw [List.length_append, crlf_len]; omega) rfl)
        have CO := hide (fun w he => unfold_at (cat (pcs l)) _ w he (by omega) rfl)
        rw [← str_app, ← HX.out] at CE
        rw [← HX.out] at CO
        have HLE := hide (want_end l (by rw [hl0]; simp))
        have HLO := want_open l0 x
        rw [← hl0] at HLO
        rw [← HN.out] at HLE
        generalize unfoldE (cat (pcs l) ++ crlf) = UE at *
        generalize unfoldE (cat (pcs l)) = UO at *
        have hj1 : (j : Int) - 1 = (m : Int) := by omega
        have hm0 : (0 : Int) ≤ (m : Int) := by omega
        have hm1 : (m : Int) < (j : Int) := by omega
        have hm2 : (m : Int) ≤ 100 := by omega
        obtain ⟨y, hy⟩ : ∃ y, x % 9 = y := ⟨_, rfl⟩
        rw [hy] at hx9 HLO
        have hy9 : y ≤ 8 := by omega
        have hl0m := hm
        clear hxi hl0 hlj hlt hXl
        cases en with
        | true =>
          have qe : ((UE.length : Int) == (j : Int)) = true := by rw [beq_iff_eq, HLE.out]
          rcases Nat.eq_zero_or_pos y with h0 | h0
          · have q0 : ((y : Int) == 0) = true := by rw [beq_iff_eq]; omega
            clear h0 hy HLO hm hl0m hjm
            go_wp2_with fail
            refine (CE.out _ (HE.out.keep HB.out)).mono ?_
            rintro e w2 ⟨v, rfl, hown, hb2⟩
            obtain ⟨A2, c2, rfl, _, _⟩ := OwnS.row hown
            replace HB := hide (andthen HB.out hb2)
            clear hb2 hown
            go_wp2_with fail
            go_ret
            exact ⟨rfl, HB.out⟩
          · have q0 : ((y : Int) == 0) = false := by rw [beq_eq_false_iff_ne]; omega
            clear h0 hy HLO hm hl0m hjm
            go_wp2_with fail
            refine (CE.out _ (HE.out.keep HB.out)).mono ?_
            rintro e w2 ⟨v, rfl, hown, hb2⟩
            obtain ⟨A2, c2, rfl, _, _⟩ := OwnS.row hown
            replace HB := hide (andthen HB.out hb2)
            clear hb2 hown
            go_wp2_with fail
            go_ret
            exact ⟨rfl, HB.out⟩
        | false =>
          rcases Nat.eq_zero_or_pos y with h0 | h0
          · have q0 : ((y : Int) == 0) = true := by rw [beq_iff_eq]; omega
            rw [if_pos h0, hm] at HLO
            have qe : ((UO.length : Int) == (m : Int)) = true := by rw [beq_iff_eq, HLO]
            clear h0 hy HLO hm hl0m hjm
            go_wp2_with fail
            refine (CO.out _ (HE.out.keep HB.out)).mono ?_
            rintro e w2 ⟨v, rfl, hown, hb2⟩
            obtain ⟨A2, c2, rfl, _, _⟩ := OwnS.row hown
            replace HB := hide (andthen HB.out hb2)
            clear hb2 hown
            go_wp2_with fail
            go_ret
            exact ⟨rfl, HB.out⟩
          · have q0 : ((y : Int) == 0) = false := by rw [beq_eq_false_iff_ne]; omega
            rw [if_neg (by omega), hm] at HLO
            have qe : ((UO.length : Int) == (j : Int)) = true := by rw [beq_iff_eq, HLO]; omega
            clear h0 hy HLO hm hl0m hjm
            go_wp2_with fail
            refine (CO.out _ (HE.out.keep HB.out)).mono ?_
            rintro e w2 ⟨v, rfl, hown, hb2⟩
            obtain ⟨A2, c2, rfl, _, _⟩ := OwnS.row hown
            replace HB := hide (andthen HB.out hb2)
            clear hb2 hown
            go_wp2_with fail
            go_ret
            exact ⟨rfl, HB.out⟩

end Go.Proofs.YtpicfpadednnoaaDoor

/- EventValues walked: values that aren't so are told at their line. -/
import Derived.Deep.QuietTactic
import Derived.BigQuiet
import Derived.Test.YtgdjeddelcfgeaaGreatDoorZEvVF
import Derived.Test.YtgdjeddelcfgeaaGreatDoorZW16
namespace Go.Proofs.YtgdjeddelcfgeaaGreatDoor
open Go.RowKit Rul Rt Fo Go.Sort

theorem row_lit (w : World) (t : TypeId) (z : Int) : RowI (w.alloc (.cells #[.int .i64 z] t)) (some ⟨w.heap.size, 0, none⟩) [z] := fun _ => by
  refine ⟨w.heap.size, 0, rfl, by simp, fun i hi => ?_⟩
  obtain rfl : i = 0 := by simpa using hi
  rw [World.cell?_alloc_at _ _ _ _ rfl]; rfl
theorem val_len : valL.length = 9 := val_lines.1
theorem val_ne : valL ≠ [] := fun h => by have := val_len; rw [h] at this; cases this
theorem lines9 (A B : Option Addr) (w : World) (hA : RowI w A [1]) (hB : RowI w B [1500]) (he : EnvE w) :
    Calls Tryz.prog 16 #[.agg #[.string ⟨#[97]⟩, .string ⟨#[116]⟩, .int .i64 1500, .int .i64 60, .slice A 1 1, .int .i64 1, .int .i64 1, .int .i64 3, .int .i64 (-1), .slice none 0 0, .slice none 0 0, .slice none 0 0, .slice B 1 1]] w fun x w' => ∃ A cap, x = .returned (.slice A 9 cap) ∧ 9 ≤ cap ∧ RowS w' A valL ∧ Below w.heap.size w w' := by
  refine (lines_some valE ⟨A, 1, none, 0, none, 0, none, 0, B, 1⟩ w ⟨hA, by decide, lies_once _, hB, by decide, by decide, by decide⟩ he valL rfl).mono ?_
  rintro _ w' ⟨A, cap, rfl, hc, hr, hb⟩
  rw [val_len] at hc ⊢
  exact ⟨A, cap, rfl, hc, hr, hb⟩
theorem read9 (A : Option Addr) (c : Nat) (w : World) (hl : RowS w A valL) (he : EnvE w) :
    Calls Tryz.prog 20 #[.slice A 9 c] w fun x w' => ∃ m, x = .returned (.tuple #[evV valE m, .int .i64 9, .int .i64 0]) ∧ EvL w' valE m ∧ Below w.heap.size w w' :=
  read_yes A 9 c valL w hl val_len.symm (by rw [val_len]; decide) (fun p hp => by have := val_small p hp; omega) he valE 9 (okR_is val_read)
theorem step_rowS {ops : Array Oper} {o : Oper} {a : Act} {K : Act → World → Prop} {Q : Exit → Act → World → Prop} {E : Prop} {w : World} {B : Nat} {v : Value} {l k : List Tx} (hgd : o.guard = none) (s x : Operand)
    (ho : o.op = .call { callee := .builtin .append, args := #[s, x], argTypes := #[32, 32] }) (hs : a.eval s = v) {A : Addr} {m c : Nat} (hx : a.eval x = .slice (some A) m c) (hm : m = k.length) (hrow : RowS w (some A) k)
    (hown : OwnS w B v l) (hB : B ≤ w.heap.size) (hn : l.length ≤ 1000000) (hk : k.length ≤ 1000000)
    (h : ∀ v' w', OwnS w' B v' (l ++ k) → Below B w w' → K (a.put o.dst v') w') :
    if Region.wanted o (yielded ops a.tmps) = true then Oper.wp Tryz.prog o a w K Q else E := by
  have hw : Region.wanted o (yielded ops a.tmps) = true := by simp [Region.wanted, hgd]
  rw [if_pos hw]
  obtain ⟨v', w', hr, h2, h3⟩ := run_rowS (c := c) o.type hm hrow hown hB hn hk
  unfold Oper.wp execOp
  simp only [ho, resolve, invoke, builtin, Sem.run_bind, Sem.run_pure, Result.andThen_ok, List.map_toArray, List.map_cons, List.map_nil, hs, hx, hr]
  exact h v' w' h2 h3
theorem lit_row {P : ByteArray} {p : Tx} (hP : str p = P) (w : World) (t : TypeId) : RowS (w.alloc (.cells #[.string P] t)) (some ⟨w.heap.size, 0, none⟩) [p] := by
  subst hP
  exact rowS_lit w t [p]
theorem vs_keep {a w w1 : World} {B : Nat} (hb : Below B w w1) (h : Below B a w) : Below B a w1 := h.trans hb
theorem vs_more {a w : World} (x : Obj) (h : Below a.heap.size a w) : Below a.heap.size a (w.alloc x) := more h x
/-- what the last lines are read as. -/
structure Bad (T : Tx) (a : Nat) (l : List Tx) (k : Int) : Prop where
  eq : (l, k) = Ev.vEnd T a valL
  pos : 0 < k
  len : l.length ≤ 20
  small : ∀ q ∈ l, q.length ≤ 100000
  read : Ev.readE unU l = (none, k.toNat)
theorem bad_of (T : Tx) (hT : T ∈ badL) (a : Nat) (ha : a < 8) : Bad T a (Ev.vEnd T a valL).1 (Ev.vEnd T a valL).2 := by
  obtain ⟨h1, h2, h3, h4⟩ := valOk_is (val_at T hT a ha)
  exact ⟨rfl, h1, h2, fun q hq => Nat.le_trans (h3 q hq) (by decide), h4⟩

theorem wp_oneSP {ops : Array Oper} {rest : List Oper} {o : Oper} {a : Act} {Q : Exit → Act → World → Prop} {w : World} {B : Nat} {v : Value} {l : List Tx} {p : Tx} {P : ByteArray} (hP : str p = P) (hgd : o.guard = none) (s x : Operand)
    (ho : o.op = .call { callee := .builtin .append, args := #[s, x], argTypes := #[32, 32] }) (hs : a.eval s = v) {N : Nat} (hN : w.heap.size = N) (hx : a.eval x = .slice (some ⟨N, 0, none⟩) 1 1)
    (hown : OwnS w B v l) (hB : B ≤ w.heap.size) (hn : l.length ≤ 1000000)
    (h : ∀ v' w', OwnS w' B v' (l ++ [p]) → Below B w w' → wpList Tryz.prog ops Q rest (a.put o.dst v') w') :
    wpList Tryz.prog ops Q (o :: rest) a (w.alloc (.cells #[.string P] 9)) := by
  subst hP
  exact wp_oneS hgd s x ho hs hN hx hown hB hn h
theorem vLoop_first (t : Tx) (H : Nat) (g : List Tx) (G : Tx) (h : 0 < g.length) (hG : g[0] = G) : Ev.vLoop t H g 1 = ([G], -1) := by
  rw [Ev.vLoop_one]
  cases g with
  | nil => exact absurd h (Nat.lt_irrefl 0)
  | cons a g => simp only [List.getElem_cons_zero] at hG; subst hG; rfl
set_option linter.unusedSimpArgs false in
set_option maxRecDepth 100000 in
set_option maxHeartbeats 8000000 in
theorem values_any (x y : Int) (w : World) (he : EnvE w) (x1 : 0 ≤ x) (_x2 : x ≤ 255) (y1 : 0 ≤ y) (y2 : y ≤ 255) :
    Calls Tryz.prog 8 #[.int .u8 x, .int .u8 y] w (Ans w (.bool true)) := by
  have HE := hide he
  clear he
  obtain ⟨i, hi, hx⟩ : ∃ i : Nat, i < 16 ∧ x.tmod 16 = (i : Int) := ⟨(x % 16).toNat, by omega, by rw [Int.tmod_eq_emod_of_nonneg x1]; omega⟩
  obtain ⟨a, ha, hy⟩ : ∃ a : Nat, a < 8 ∧ y.tmod 8 = (a : Int) := ⟨(y % 8).toNat, by omega, by rw [Int.tmod_eq_emod_of_nonneg y1]; omega⟩
  have hib : i < badL.length := by rw [badL_len]; exact hi
  have HC := hide (fun w X hX => badL_cell w X hX i hib)
  have hTm := List.getElem_mem hib
  have HV := hide (bad_of _ hTm a ha)
  have HSM := hide (badL_small _ hTm)
  obtain ⟨T, hT⟩ : ∃ T, badL[i] = T := ⟨_, rfl⟩
  rw [hT] at HC HSM HV
  clear hT hTm hib
  have yw : IntKind.i64.wrap y = y := IntWalk.i64_in _ (by omega)
  go_enter Tryz.func8, Tryz.ntmps8
  go_wp2_with fail
  refine (known_any _ HE.out).mono ?_
  rintro e w1 ⟨rfl, hb1⟩
  have HB := hide hb1
  clear hb1
  obtain ⟨X, hX⟩ : ∃ X, w1.heap.size = X := ⟨_, rfl⟩
  have c := HC.out w1 X hX
  have i0 : (0 : Int) ≤ (i : Int) := by omega
  have i1 : (i : Int) < 16 := by omega
  replace HB := hide (more HB.out (.cells #[.string ⟨#[85, 73, 68, 58]⟩, .string ⟨#[85, 73, 68, 58, 97, 95, 98]⟩, .string ⟨#[68, 84, 83, 84, 65, 82, 84, 58, 50, 48, 50, 52, 48, 50, 51, 48, 84, 48, 48, 48, 48, 48, 48]⟩, .string ⟨#[68, 84, 83, 84, 65, 82, 84, 58, 50, 48, 50, 52]⟩, .string ⟨#[68, 85, 82, 65, 84, 73, 79, 78, 58, 80, 84, 48, 77]⟩, .string ⟨#[68, 85, 82, 65, 84, 73, 79, 78, 58, 80, 84, 48, 49, 48, 77]⟩, .string ⟨#[68, 85, 82, 65, 84, 73, 79, 78, 58, 54, 48]⟩, .string ⟨#[68, 85, 82, 65, 84, 73, 79, 78, 58, 80, 84, 49, 48, 48, 56, 49, 77]⟩, .string ⟨#[88, 45, 82, 79, 79, 77, 83, 58]⟩, .string ⟨#[88, 45, 82, 79, 79, 77, 83, 58, 56]⟩, .string ⟨#[88, 45, 82, 79, 79, 77, 83, 58, 49, 44, 49]⟩, .string ⟨#[88, 45, 82, 79, 79, 77, 83, 58, 45, 49]⟩, .string ⟨#[82, 82, 85, 76, 69, 58, 70, 82, 69, 81, 61, 88]⟩, .string ⟨#[69, 88, 68, 65, 84, 69, 58, 120]⟩, .string ⟨#[83, 85, 77, 77, 65, 82, 89, 58, 97, 44, 98]⟩, .string ⟨#[78, 79, 67, 79, 76, 79, 78]⟩] 44))
  obtain ⟨W2, hW2⟩ : ∃ W2, w1.alloc (.cells #[.string ⟨#[85, 73, 68, 58]⟩, .string ⟨#[85, 73, 68, 58, 97, 95, 98]⟩, .string ⟨#[68, 84, 83, 84, 65, 82, 84, 58, 50, 48, 50, 52, 48, 50, 51, 48, 84, 48, 48, 48, 48, 48, 48]⟩, .string ⟨#[68, 84, 83, 84, 65, 82, 84, 58, 50, 48, 50, 52]⟩, .string ⟨#[68, 85, 82, 65, 84, 73, 79, 78, 58, 80, 84, 48, 77]⟩, .string ⟨#[68, 85, 82, 65, 84, 73, 79, 78, 58, 80, 84, 48, 49, 48, 77]⟩, .string ⟨#[68, 85, 82, 65, 84, 73, 79, 78, 58, 54, 48]⟩, .string ⟨#[68, 85, 82, 65, 84, 73, 79, 78, 58, 80, 84, 49, 48, 48, 56, 49, 77]⟩, .string ⟨#[88, 45, 82, 79, 79, 77, 83, 58]⟩, .string ⟨#[88, 45, 82, 79, 79, 77, 83, 58, 56]⟩, .string ⟨#[88, 45, 82, 79, 79, 77, 83, 58, 49, 44, 49]⟩, .string ⟨#[88, 45, 82, 79, 79, 77, 83, 58, 45, 49]⟩, .string ⟨#[82, 82, 85, 76, 69, 58, 70, 82, 69, 81, 61, 88]⟩, .string ⟨#[69, 88, 68, 65, 84, 69, 58, 120]⟩, .string ⟨#[83, 85, 77, 77, 65, 82, 89, 58, 97, 44, 98]⟩, .string ⟨#[78, 79, 67, 79, 76, 79, 78]⟩] 44) = W2 := ⟨_, rfl⟩
  have hs2 : W2.heap.size = X + 1 := by rw [← hW2, World.size_alloc, hX]
  rw [hW2] at HB c
  have r1 := row_lit W2 3 1
  have m1 := more (start W2) (.cells #[.int .i64 1] 3)
  have r2 := row_lit (W2.alloc (.cells #[.int .i64 1] 3)) 3 1500
  have m2 := more (start (W2.alloc (.cells #[.int .i64 1] 3))) (.cells #[.int .i64 1500] 3)
  replace r1 := r1.keep m2
  rw [World.size_alloc] at r2
  rw [hs2] at r1 r2
  have HR1 := hide r1
  have HR2 := hide r2
  replace HB := hide (andthen (andthen HB.out m1) m2)
  replace c := cell_keep m2 (cell_keep m1 c)
  have HW2 := hide hW2
  clear r1 r2 m1 m2 hW2 HC
  go_wp2_with fail
  rw [HW2.out]
  refine (lines9 _ _ _ HR1.out HR2.out (HE.out.keep HB.out)).mono ?_
  rintro _ w3 ⟨AV, capV, rfl, hcapV, hrv, hb3⟩
  replace HB := hide (andthen HB.out hb3)
  replace c := cell_keep hb3 c
  have HRV := hide hrv
  obtain ⟨bg, og, rfl, hbg, hcg⟩ := hrv val_ne
  have HCG := hide hcg
  clear hb3 HR1 HR2 HW2 hs2 hX hcg
  obtain ⟨S, hS⟩ : ∃ S, str T = S := ⟨_, rfl⟩
  have HS := hide hS
  have hss : S.size = T.length := by rw [← hS, str_size]
  have HTL : Hid (S.data.toList = T) := hide (by rw [← hS, str_list])
  have hsz : S.size ≤ 30 := by have := HSM.out; omega
  rw [hS] at c
  obtain ⟨H, hH⟩ : ∃ H, Ev.headN T = H := ⟨_, rfl⟩
  have hHl : H ≤ S.size := by rw [← hH, hss]; exact Ev.headN_le T
  have HA : Hid (∀ k (hk : k < S.size), k < H → S[k]'hk ≠ 58) := hide (fun k hk hkh => by
    have hk2 : k < S.data.toList.length := by rw [len_of]; exact hk
    rw [← byte_listE S k hk hk2]
    have hk3 : k < T.length := by omega
    have := Ev.headN_at T k (by rw [hH]; exact hkh) hk3
    simp only [HTL.out]
    exact this)
  have HCO : Hid (∀ hk : H < S.size, S[H]'hk = 58) := hide (fun hk => by
    have hk2 : H < S.data.toList.length := by rw [len_of]; exact hk
    rw [← byte_listE S H hk hk2]
    have hk3 : Ev.headN T < T.length := by omega
    have := Ev.headN_colon T hk3
    simp only [HTL.out]
    simp only [hH] at this
    exact this)
  have HHD := hide hH
  clear hS hss hH
  go_upto_block 0 with fail
  go_cut [8] from 33 to 44 (fun v wx => v = .int .i64 (H : Int) ∧ wx = w3)
  case first =>
    go_wp2_with fail
    go_loopw [8] (fun i wr => ∃ k : Nat, k ≤ H ∧ i = .int .i64 k ∧ wr = w3) (fun i _ => S.size - (intOf i).toNat)
    case atStart => exact ⟨0, Nat.zero_le _, rfl, rfl⟩
    case round =>
      obtain ⟨k, hk, rfl, rfl⟩ := hrel
      have hk0 : (0 : Int) ≤ (k : Int) := by omega
      by_cases hlt : k < H
      · have hks : k < S.size := by omega
        have hlt1 : (k : Int) < (S.size : Int) := by omega
        have hne := HA.out k hks hlt
        obtain ⟨c9, hc9⟩ : ∃ c9, S[k]'hks = c9 := ⟨_, rfl⟩
        rw [hc9] at hne
        have q9 : ((c9.toNat : Int) == 58) = false := by
          rw [beq_eq_false_iff_ne]; intro e; apply hne
          have : c9.toNat = 58 := by omega
          rw [← UInt8.ofNat_toNat (x := c9), this]; rfl
        have q9n : ((c9.toNat : Int) != 58) = true := by rw [bne, q9]; rfl
        clear hne
        go_wp2_with fail
        go_roundw
        case rel => exact ⟨k + 1, by omega, by go_num, by trivial⟩
        case measure => simp [intOf]; omega
      · obtain rfl : k = H := by omega
        by_cases hc : k < S.size
        · have hlt1 : (k : Int) < (S.size : Int) := by omega
          have hc9 := HCO.out hc
          go_wp2_with fail
          go_meet
          exact ⟨rfl, rfl⟩
        · have hlt1 : ¬ ((k : Int) < (S.size : Int)) := by omega
          go_wp2_with fail
          go_meet
          exact ⟨rfl, rfl⟩
  obtain ⟨rfl, hwc⟩ := hcut
  subst hwc
  obtain ⟨G, hG⟩ : ∃ G : Tx, valL[0]'(by rw [val_len]; decide) = G := ⟨_, rfl⟩
  have c0 : wc.cell? ⟨bg, og, none⟩ = some (.string (str G)) := by
    have := HCG.out 0 (by rw [val_len]; decide)
    rw [hG] at this
    exact this
  have hlit : OwnS (wc.alloc (.cells #[.string (str G)] 9)) wc.heap.size (.slice (some ⟨wc.heap.size, 0, none⟩) 1 1) [G] := World.ownsRow_lit wc #[.string (str G)] 1 (Nat.le_refl _) (by unfold maxLen; omega) rfl
  have hb4 := more (start wc) (.cells #[.string (str G)] 9)
  have HG1 := hide (vLoop_first T H valL G (by rw [val_len]; decide) hG)
  obtain ⟨W4, hW4⟩ : ∃ W, wc.alloc (.cells #[.string (str G)] 9) = W := ⟨_, rfl⟩
  rw [hW4] at hlit hb4
  have HLIT := hide hlit
  have HB4 := hide hb4
  have HW4 := hide hW4
  have cS := c
  have HCK := hide c
  clear hlit hb4 hW4 hG c
  go_upto_block 2 with fail
  rw [HW4.out]
  clear HW4 c0 cS
  go_cut [9, 10, 11] from 49 to 94 (fun v kk _ wx => OwnS wx wc.heap.size v (Ev.vLoop T H valL 9).1 ∧ kk = .int .i64 (Ev.vLoop T H valL 9).2 ∧ Below wc.heap.size wc wx)
  case first =>
    go_wp2_with fail
    go_loopw [9, 10, 11] (fun v kk i wr => ∃ j : Nat, 1 ≤ j ∧ j ≤ 9 ∧ i = .int .i64 j ∧ OwnS wr wc.heap.size v (Ev.vLoop T H valL j).1 ∧ kk = .int .i64 (Ev.vLoop T H valL j).2 ∧ Below wc.heap.size wc wr) (fun _ _ i _ => 9 - (intOf i).toNat)
    case atStart => exact ⟨1, by omega, by omega, rfl, by rw [HG1.out]; exact HLIT.out, by rw [HG1.out], HB4.out⟩
    case round =>
      obtain ⟨j, hj1, hj9, rfl, hown, rfl, hbw⟩ := hrel
      have HO := hide hown
      have HBR := hide hbw
      clear hown hbw HLIT HB4 HG1
      by_cases hlt : j < 9
      · have hjl : j < valL.length := by rw [val_len]; exact hlt
        obtain ⟨g, hg⟩ : ∃ g, valL[j] = g := ⟨_, rfl⟩
        have p1 : wr.cell? ⟨bg, og + j, none⟩ = some (.string (str g)) := by rw [← hg]; exact (HBR.out.cell (p := ⟨bg, _, none⟩) hbg).trans (HCG.out j hjl)
        have hi0 : (0 : Int) ≤ (j : Int) := by omega
        have hi1 : (j : Int) < 9 := by omega
        have hvl := Ev.vLoop_len T H valL j hj1 (by rw [val_len]; exact hj9)
        have HL8 : Hid ((Ev.vLoop T H valL j).1.length = j) := hide hvl.1
        have hln : (Ev.vLoop T H valL j).1.length ≤ 100 := by omega
        have HB2 := hide (fun n => below_drawn HBR.out n)
        have h0H : (0 : Int) ≤ (H : Int) := by omega
        have h0H1 : (0 : Int) ≤ (H : Int) + 1 := by omega
        have D1 : (str g).extract 0 (H + 1) = str (g.take (H + 1)) := by rw [ext_str, str_list, List.drop_zero]
        have D2 : S.extract 0 (H + 1) = str (T.take (H + 1)) := by rw [ext_str, HTL.out, List.drop_zero]
        have zg : (str g).size = g.length := str_size g
        have zS : S.size = T.length := by rw [← len_of, HTL.out]
        clear hvl
        cases hc : Ev.vCond T H g with
        | false =>
          have HNX := hide (Ev.vLoop_no T H valL j hj1 hjl (by rw [hg]; exact hc))
          rw [hg] at HNX
          by_cases e1 : H < S.size
          · by_cases e2 : H < (str g).size
            · have q3 : (g.take (H + 1) == T.take (H + 1)) = false := by
                unfold Ev.vCond at hc
                rw [decide_eq_true (by omega), decide_eq_true (by omega), Bool.true_and, Bool.true_and] at hc
                rw [tx_eq]; exact hc
              have d1 : (H : Int) < (S.size : Int) := by omega
              have d2 : (H : Int) < ((str g).size : Int) := by omega
              have d3 : (H : Int) + 1 ≤ (S.size : Int) := by omega
              have d4 : (H : Int) + 1 ≤ ((str g).size : Int) := by omega
              have q1 := str_tl (g.take (H + 1))
              have q2 := str_tl (T.take (H + 1))
              generalize g.take (H + 1) = G1 at *
              generalize T.take (H + 1) = T1 at *
              generalize (Ev.vLoop T H valL j).1 = l8 at *
              generalize (Ev.vLoop T H valL j).2 = k8 at *
              clear hg hc hjl zg zS e1 e2
              go_wp2_with fail
              go_quiet (fail)
              have hq0 := below_drawn (start wr) nq
              have HB3 := hide (HB2.out nq)
              have HOQ := hide (HO.out.keep hq0)
              have p2 := cell_keep hq0 p1
              generalize wr.drewN nq = wq at *
              clear HB2 hq0
              have hown := HOQ.out
              have hz := HB3.out.size
              go_wp2_with (at_builtin; refine wp_oneS (l := l8) (p := g) rfl _ _ rfl rfl rfl rfl hown hz (by omega) ?_; intro v5 w5 hown5 hb5)
              have HO5 := hide hown5
              have HB5 := hide (HB3.out.trans hb5)
              clear hown hown5 hb5 hz
              go_wp2_with fail
              go_roundw
              case rel => exact ⟨j + 1, by omega, by omega, by go_num, by rw [HNX.out]; exact HO5.out, by rw [HNX.out], HB5.out⟩
              case measure => simp [intOf]; omega
            · have d1 : (H : Int) < (S.size : Int) := by omega
              have d2 : decide ((H : Int) < ((str g).size : Int)) = false := decide_eq_false (by omega)
              have d2n : decide (H < (str g).size) = false := decide_eq_false e2
              generalize (Ev.vLoop T H valL j).1 = l8 at *
              generalize (Ev.vLoop T H valL j).2 = k8 at *
              clear hg hc hjl zg zS e1 e2 D1 D2
              go_wp2_with fail
              go_quiet (fail)
              have hq0 := below_drawn (start wr) nq
              have HB3 := hide (HB2.out nq)
              have HOQ := hide (HO.out.keep hq0)
              have p2 := cell_keep hq0 p1
              generalize wr.drewN nq = wq at *
              clear HB2 hq0
              have hown := HOQ.out
              have hz := HB3.out.size
              go_wp2_with (at_builtin; refine wp_oneS (l := l8) (p := g) rfl _ _ rfl rfl rfl rfl hown hz (by omega) ?_; intro v5 w5 hown5 hb5)
              have HO5 := hide hown5
              have HB5 := hide (HB3.out.trans hb5)
              clear hown hown5 hb5 hz
              go_wp2_with fail
              go_roundw
              case rel => exact ⟨j + 1, by omega, by omega, by go_num, by rw [HNX.out]; exact HO5.out, by rw [HNX.out], HB5.out⟩
              case measure => simp [intOf]; omega
          · have d1 : decide ((H : Int) < (S.size : Int)) = false := decide_eq_false (by omega)
            have d1n : decide (H < S.size) = false := decide_eq_false e1
            generalize (Ev.vLoop T H valL j).1 = l8 at *
            generalize (Ev.vLoop T H valL j).2 = k8 at *
            clear hg hc hjl zg zS e1 D1 D2
            go_wp2_with fail
            go_quiet (fail)
            have hq0 := below_drawn (start wr) nq
            have HB3 := hide (HB2.out nq)
            have HOQ := hide (HO.out.keep hq0)
            have p2 := cell_keep hq0 p1
            generalize wr.drewN nq = wq at *
            clear HB2 hq0
            have hown := HOQ.out
            have hz := HB3.out.size
            go_wp2_with (at_builtin; refine wp_oneS (l := l8) (p := g) rfl _ _ rfl rfl rfl rfl hown hz (by omega) ?_; intro v5 w5 hown5 hb5)
            have HO5 := hide hown5
            have HB5 := hide (HB3.out.trans hb5)
            clear hown hown5 hb5 hz
            go_wp2_with fail
            go_roundw
            case rel => exact ⟨j + 1, by omega, by omega, by go_num, by rw [HNX.out]; exact HO5.out, by rw [HNX.out], HB5.out⟩
            case measure => simp [intOf]; omega
        | true =>
          have HNX := hide (Ev.vLoop_yes T H valL j hj1 hjl (by rw [hg]; exact hc))
          unfold Ev.vCond at hc
          rw [Bool.and_eq_true, Bool.and_eq_true, decide_eq_true_eq, decide_eq_true_eq, decide_eq_true_eq] at hc
          obtain ⟨e1, e2, e3⟩ := hc
          have q3 : (g.take (H + 1) == T.take (H + 1)) = true := by rw [tx_eq, decide_eq_true e3]
          have d1 : (H : Int) < (S.size : Int) := by omega
          have d2 : (H : Int) < ((str g).size : Int) := by omega
          have d3 : (H : Int) + 1 ≤ (S.size : Int) := by omega
          have d4 : (H : Int) + 1 ≤ ((str g).size : Int) := by omega
          have q1 := str_tl (g.take (H + 1))
          have q2 := str_tl (T.take (H + 1))
          clear e3
          generalize g.take (H + 1) = G1 at *
          generalize T.take (H + 1) = T1 at *
          generalize (Ev.vLoop T H valL j).1 = l8 at *
          generalize (Ev.vLoop T H valL j).2 = k8 at *
          clear hg hjl zg zS e1 e2
          go_wp2_with fail
          go_quiet (fail)
          have hq0 := below_drawn (start wr) nq
          have HB3 := hide (HB2.out nq)
          have HOQ := hide (HO.out.keep hq0)
          have p2 := cell_keep hq0 p1
          generalize wr.drewN nq = wq at *
          clear HB2 hq0
          have hown := HOQ.out
          have hz := HB3.out.size
          obtain ⟨A6, cap6, rfl, _, _⟩ := OwnS.row hown
          go_wp2_with (at_builtin; refine wp_oneSP (l := l8) (p := T) HS.out rfl _ _ rfl rfl rfl rfl hown hz (by omega) ?_; intro v5 w5 hown5 hb5)
          have HO5 := hide hown5
          have HB5 := hide (HB3.out.trans hb5)
          clear hown hown5 hb5 hz
          go_wp2_with fail
          go_roundw
          case rel => exact ⟨j + 1, by omega, by omega, by go_num, by rw [HNX.out]; exact HO5.out, by rw [HNX.out, HL8.out], HB5.out⟩
          case measure => simp [intOf]; omega
      · obtain rfl : j = 9 := by omega
        go_wp2_with fail
        go_meet
        exact ⟨HO.out, rfl, HBR.out⟩
  obtain ⟨hown, rfl, hbw⟩ := hcut
  have HO := hide hown
  have HBR := hide hbw
  clear hown hbw HLIT HB4 HG1
  by_cases hc : H = S.size
  · -- no colon
    have hve : Ev.vEnd T a valL = (valL.take (a + 1) ++ [T] ++ valL.drop (a + 1), ((a + 1 : Nat) : Int)) := by
      unfold Ev.vEnd
      rw [HHD.out, if_pos (by rw [hc, ← HTL.out, len_of]), Nat.mod_eq_of_lt ha]
    have hbd := HV.out
    rw [hve] at hbd
    have HBD := hide hbd
    clear hve hbd HV HO
    have k0 : ((H : Int) == (S.size : Int)) = true := by rw [beq_iff_eq]; omega
    have ka : (a : Int) + 1 = ((a + 1 : Nat) : Int) := by omega
    have hlen1 : (valL.take (a + 1)).length = a + 1 := by rw [List.length_take, val_len]; omega
    have hlen2 : (valL.drop (a + 1)).length = 9 - (a + 1) := by rw [List.length_drop, val_len]
    obtain ⟨k1, hk1⟩ : ∃ k1, a + 1 = k1 := ⟨_, rfl⟩
    have HRV8 := hide (HRV.out.keep HBR.out)
    have HB8 := hide (andthen HB.out HBR.out)
    rw [hk1] at HBD ka hlen1 hlen2
    have k9 : k1 ≤ 8 := by omega
    have k91 : 1 ≤ k1 := by omega
    clear hk1 hc HBR HB HRV HCG HCK
    go_upto_region 22 with fail
    have hD := (start wc).drew
    have HT1 := hide (rowS_take HRV8.out k1)
    have HT2 := hide (rowS_drop HRV8.out k1)
    have HZ0 := hide hD
    have i1 : (0 : Int) ≤ (k1 : Int) := by omega
    have i2 : (k1 : Int) ≤ (capV : Int) := by omega
    have i3 : (k1 : Int) ≤ 9 := by omega
    have i4 : k1 ≤ capV := by omega
    have i5 : k1 ≤ 9 := by omega
    have hcn : ¬ capV = k1 := by omega
    clear hD
    refine wp_region_held_drew (S := (fun w' => Below wc.heap.size wc w')) (by kernel_rfl) ?_ (fun hH0 => ?_)
    · exact (start wc).drew
    refine' wpAnyH_take (i := 0) (oi := _) (v := ?v0) rfl (by as_aux_lemma => kernel_rfl) (by as_aux_lemma => kernel_rfl) (by as_aux_lemma => kernel_rfl) (fun _ _ _ h => h) (Or.inl ⟨by rfl, ?y0⟩) hH0 ?r0
    case y0 => (intro w hSw; (try dsimp only at hSw); go_simp; (try with_reducible rfl))
    try simp only [Act.put, List.getElem_toArray, List.getElem_cons_succ, List.getElem_cons_zero, List.setIfInBounds_toArray, List.set_cons_zero, List.set_cons_succ]
    refine' wpAnyH_take (i := 1) (oi := _) (v := ?v1) rfl (by as_aux_lemma => kernel_rfl) (by as_aux_lemma => kernel_rfl) (by as_aux_lemma => kernel_rfl) (fun _ _ _ h => h) (Or.inl ⟨by rfl, ?y1⟩) hH0 ?r1
    case y1 => (intro w hSw; (try dsimp only at hSw); go_simp; (try with_reducible rfl))
    try simp only [Act.put, List.getElem_toArray, List.getElem_cons_succ, List.getElem_cons_zero, List.setIfInBounds_toArray, List.set_cons_zero, List.set_cons_succ]
    refine' wpAnyH_take (i := 2) (oi := _) (v := ?v2) rfl (by as_aux_lemma => kernel_rfl) (by as_aux_lemma => kernel_rfl) (by as_aux_lemma => kernel_rfl) (fun _ _ _ h => h) (Or.inl ⟨by rfl, ?y2⟩) hH0 ?r2
    case y2 => (intro w hSw; (try dsimp only at hSw); go_simp; (try with_reducible rfl))
    try simp only [Act.put, List.getElem_toArray, List.getElem_cons_succ, List.getElem_cons_zero, List.setIfInBounds_toArray, List.set_cons_zero, List.set_cons_succ]
    refine' wpAnyH_take (i := 4) (oi := _) (v := ?v3) rfl (by as_aux_lemma => kernel_rfl) (by as_aux_lemma => kernel_rfl) (by as_aux_lemma => kernel_rfl) (fun _ _ _ h => h) (Or.inl ⟨by rfl, ?y3⟩) hH0 ?r3
    case y3 => (intro w hSw; (try dsimp only at hSw); go_simp; (try with_reducible rfl))
    try simp only [Act.put, List.getElem_toArray, List.getElem_cons_succ, List.getElem_cons_zero, List.setIfInBounds_toArray, List.set_cons_zero, List.set_cons_succ]
    refine' wpAnyH_take (i := 7) (oi := _) (v := ?v4) rfl (by as_aux_lemma => kernel_rfl) (by as_aux_lemma => kernel_rfl) (by as_aux_lemma => kernel_rfl) (fun _ _ _ h => h) (Or.inl ⟨by rfl, ?y4⟩) hH0 ?r4
    case y4 => (intro w hSw; (try dsimp only at hSw); go_simp; (try with_reducible rfl))
    try simp only [Act.put, List.getElem_toArray, List.getElem_cons_succ, List.getElem_cons_zero, List.setIfInBounds_toArray, List.set_cons_zero, List.set_cons_succ]
    refine' wpAnyH_take (i := 8) (oi := _) (v := ?v5) rfl (by as_aux_lemma => kernel_rfl) (by as_aux_lemma => kernel_rfl) (by as_aux_lemma => kernel_rfl) (fun _ _ _ h => h) (Or.inl ⟨by rfl, ?y5⟩) hH0 ?r5
    case y5 => (intro w hSw; (try dsimp only at hSw); go_simp; (try with_reducible rfl))
    try simp only [Act.put, List.getElem_toArray, List.getElem_cons_succ, List.getElem_cons_zero, List.setIfInBounds_toArray, List.set_cons_zero, List.set_cons_succ]
    refine' wpAnyH_take (i := 9) (oi := _) (v := ?v6) rfl (by as_aux_lemma => kernel_rfl) (by as_aux_lemma => kernel_rfl) (by as_aux_lemma => kernel_rfl) (fun _ _ _ h => h) (Or.inl ⟨by rfl, ?y6⟩) hH0 ?r6
    case y6 => (intro w hSw; (try dsimp only at hSw); go_simp; (try with_reducible rfl))
    try simp only [Act.put, List.getElem_toArray, List.getElem_cons_succ, List.getElem_cons_zero, List.setIfInBounds_toArray, List.set_cons_zero, List.set_cons_succ]
    refine wpAnyH_ready (rs := [3, 5]) (by as_aux_lemma => kernel_rfl) (by simp) ?_
    refine AllReadyH.cons (o := _) rfl (fun K hK => ?_) (AllReadyH.cons (o := _) rfl (fun K hK => ?_) AllReadyH.nil)
    · refine step_rowS (l := []) (k := valL.take k1) rfl _ _ rfl rfl rfl hlen1.symm (HT1.out.keep hH0) (ownS_nil _ _) (Nat.le_refl _) (by simp) (by omega) ?_
      intro v3 w3 hown3 hb3
      have hs3 := hH0.size
      have hz3 := hb3.size
      have hb := hb3.mono hs3
      refine hK.out _ _ (vs_keep hb hH0) (fun hN => ?_)
      clear hK K hH0
      have hH1 := hN
      clear hN
      try simp only [Act.put, List.getElem_toArray, List.getElem_cons_succ, List.getElem_cons_zero, List.setIfInBounds_toArray, List.set_cons_zero, List.set_cons_succ]
      refine wpAnyH_ready (rs := [5]) (by as_aux_lemma => kernel_rfl) (by simp) ?_
      refine AllReadyH.cons (o := _) rfl (fun K hK => ?_) AllReadyH.nil
      go_simp
      refine hK.out _ _ (vs_more _ hH1) (fun hN => ?_)
      clear hK K hH1
      have hH2 := hN
      clear hN
      try simp only [Act.put, List.getElem_toArray, List.getElem_cons_succ, List.getElem_cons_zero, List.setIfInBounds_toArray, List.set_cons_zero, List.set_cons_succ]
      refine wpAnyH_ready (rs := [6]) (by as_aux_lemma => kernel_rfl) (by simp) ?_
      refine AllReadyH.cons (o := _) rfl (fun K hK => ?_) AllReadyH.nil
      refine step_rowS (l := [] ++ valL.take k1) (k := [T]) rfl _ _ rfl rfl rfl rfl (by first | exact lit_row HS.out _ _ | exact RowS.keep (lit_row HS.out _ _) (start _).drew | exact RowS.keep (RowS.keep (lit_row HS.out _ _) (start _).drew) hb3 | exact RowS.keep (lit_row HS.out _ _) hb3) (by first | exact hown3 | exact hown3.keep (more (start _) _) | exact hown3.keep (more (start _) _).drew) (by first | exact hz3 | exact Nat.le_trans hz3 (more (start _) _).size | exact Nat.le_trans hz3 (more (start _) _).drew.size) (by simp; omega) (by simp) ?_
      intro v6 w6 hown6 hb6
      have hz7 := hb6.size
      have hb := hb6.mono hs3
      refine hK.out _ _ (vs_keep hb hH2) (fun hN => ?_)
      clear hK K hH2
      have hH3 := hN
      clear hN
      try simp only [Act.put, List.getElem_toArray, List.getElem_cons_succ, List.getElem_cons_zero, List.setIfInBounds_toArray, List.set_cons_zero, List.set_cons_succ]
      refine wpAnyH_ready (rs := [10]) (by as_aux_lemma => kernel_rfl) (by simp) ?_
      refine AllReadyH.cons (o := _) rfl (fun K hK => ?_) AllReadyH.nil
      refine step_rowS (l := [] ++ valL.take k1 ++ [T]) (k := valL.drop k1) (A := ⟨bg, og + k1, none⟩) (m := 9 - k1) (c := capV - k1) rfl _ _ rfl rfl (by (try go_simp); first | rfl | exact hcn | skip) hlen2.symm (HT2.out.keep hH3) hown6 (by first | exact Nat.le_trans hz3 hz7 | exact Nat.le_trans (Nat.le_trans hz3 (more (start _) _).size) hz7 | exact Nat.le_trans (Nat.le_trans hz3 (more (start _) _).drew.size) hz7) (by simp; omega) (by omega) ?_
      intro v10 w10 hown10 hb10
      have hb := hb10.mono hs3
      refine hK.out _ _ (vs_keep hb hH3) (fun hN => ?_)
      clear hK K hH3
      have hH4 := hN
      clear hN
      try simp only [Act.put, List.getElem_toArray, List.getElem_cons_succ, List.getElem_cons_zero, List.setIfInBounds_toArray, List.set_cons_zero, List.set_cons_succ]
      refine' wpAnyH_take (i := 11) (oi := _) (v := ?v7) rfl (by as_aux_lemma => kernel_rfl) (by as_aux_lemma => kernel_rfl) (by as_aux_lemma => kernel_rfl) (fun _ _ _ h => h) (Or.inl ⟨by rfl, ?y7⟩) hH4 ?r7
      case y7 => (intro w hSw; (try dsimp only at hSw); go_simp; (try with_reducible rfl))
      try simp only [Act.put, List.getElem_toArray, List.getElem_cons_succ, List.getElem_cons_zero, List.setIfInBounds_toArray, List.set_cons_zero, List.set_cons_succ]
      refine wpAnyH_done (by as_aux_lemma => kernel_rfl) ?_ _
      have hend := hH4
      obtain ⟨l8, hl8⟩ : ∃ l8, valL.take k1 ++ [T] ++ valL.drop k1 = l8 := ⟨_, rfl⟩
      obtain ⟨k8, hk8⟩ : ∃ k8 : Int, (k1 : Int) = k8 := ⟨_, rfl⟩
      rw [List.nil_append] at hown10
      rw [hl8] at hown10 HBD
      rw [hk8] at HBD
      obtain ⟨A8, cap8, rfl, hr8, _⟩ := OwnS.row hown10
      have HR8 := hide hr8
      replace HRV8 := hide (HRV8.out.keep hend)
      replace HB8 := hide (andthen HB8.out hend)
      clear hl8 hown10 hown6 hown3 hr8 hend HT1 HT2 HZ0
      have hk8' : (k8 == (k1 : Int)) = true := by rw [← hk8, beq_iff_eq]
      have hk8n := hk8
      go_wp2_with fail
      refine (read_no A8 _ cap8 l8 _ HR8.out rfl (by have := HBD.out.len; omega) HBD.out.small (HE.out.keep HB8.out) _ HBD.out.read).mono ?_
      rintro _ w8 ⟨rfl, hb8⟩
      unfold noEvent
      have HB9 := hide (more (andthen HB8.out hb8) (.cells #[.string ⟨#[]⟩, .string ⟨#[]⟩, .int .i64 0, .int .i64 0, .slice none 0 0, .int .i64 0, .int .i64 0, .int .i64 0, .int .i64 0, .slice none 0 0, .slice none 0 0, .slice none 0 0, .slice none 0 0] 27))
      have HRG := hide ((HRV8.out.keep hb8).keep (more (start w8) (.cells #[.string ⟨#[]⟩, .string ⟨#[]⟩, .int .i64 0, .int .i64 0, .slice none 0 0, .int .i64 0, .int .i64 0, .int .i64 0, .int .i64 0, .slice none 0 0, .slice none 0 0, .slice none 0 0, .slice none 0 0] 27)))
      clear hb8 HB8 HRV8 HR8
      go_wp2_with fail
      refine (read9 _ capV _ HRG.out (HE.out.keep HB9.out)).mono ?_
      rintro _ w9 ⟨m9, rfl, _, hb9⟩
      have HBZ := hide (more (andthen HB9.out hb9) (.cells #[.string (str valE.uid), .string (str valE.text), .int .i64 valE.st, .int .i64 valE.lg, .slice m9.O valE.rooms.length m9.oc, .int .i64 valE.r.fr, .int .i64 valE.r.ev, .int .i64 valE.r.ct, .int .i64 valE.r.un, .slice m9.D valE.r.ds.length m9.dc, .slice m9.M valE.r.ms.length m9.mc, .slice m9.Y valE.r.ys.length m9.yc, .slice m9.X valE.ex.length m9.xc] 27))
      have kp2 : (0 : Int) < k8 := HBD.out.pos
      have kp : decide ((0 : Int) < k8) = true := decide_eq_true kp2
      have kn : ((k8.toNat : Int) == k8) = true := by rw [beq_iff_eq]; omega
      have kn2 : (k8.toNat : Int) = k8 := by omega
      clear hb9 HB9 HRG
      go_wp2_with fail
      go_ret
      exact ⟨rfl, HBZ.out⟩
    · go_simp
      refine hK.out _ _ (vs_more _ hH0) (fun hN => ?_)
      clear hK K hH0
      have hH1 := hN
      clear hN
      try simp only [Act.put, List.getElem_toArray, List.getElem_cons_succ, List.getElem_cons_zero, List.setIfInBounds_toArray, List.set_cons_zero, List.set_cons_succ]
      refine wpAnyH_ready (rs := [3]) (by as_aux_lemma => kernel_rfl) (by simp) ?_
      refine AllReadyH.cons (o := _) rfl (fun K hK => ?_) AllReadyH.nil
      refine step_rowS (l := []) (k := valL.take k1) rfl _ _ rfl rfl rfl hlen1.symm (HT1.out.keep hH1) (ownS_nil _ _) (Nat.le_refl _) (by simp) (by omega) ?_
      intro v3 w3 hown3 hb3
      have hs3 := hH1.size
      have hz3 := hb3.size
      have hb := hb3.mono hs3
      refine hK.out _ _ (vs_keep hb hH1) (fun hN => ?_)
      clear hK K hH1
      have hH2 := hN
      clear hN
      try simp only [Act.put, List.getElem_toArray, List.getElem_cons_succ, List.getElem_cons_zero, List.setIfInBounds_toArray, List.set_cons_zero, List.set_cons_succ]
      refine wpAnyH_ready (rs := [6]) (by as_aux_lemma => kernel_rfl) (by simp) ?_
      refine AllReadyH.cons (o := _) rfl (fun K hK => ?_) AllReadyH.nil
      refine step_rowS (l := [] ++ valL.take k1) (k := [T]) rfl _ _ rfl rfl rfl rfl (by first | exact lit_row HS.out _ _ | exact RowS.keep (lit_row HS.out _ _) (start _).drew | exact RowS.keep (RowS.keep (lit_row HS.out _ _) (start _).drew) hb3 | exact RowS.keep (lit_row HS.out _ _) hb3) (by first | exact hown3 | exact hown3.keep (more (start _) _) | exact hown3.keep (more (start _) _).drew) (by first | exact hz3 | exact Nat.le_trans hz3 (more (start _) _).size | exact Nat.le_trans hz3 (more (start _) _).drew.size) (by simp; omega) (by simp) ?_
      intro v6 w6 hown6 hb6
      have hz7 := hb6.size
      have hb := hb6.mono hs3
      refine hK.out _ _ (vs_keep hb hH2) (fun hN => ?_)
      clear hK K hH2
      have hH3 := hN
      clear hN
      try simp only [Act.put, List.getElem_toArray, List.getElem_cons_succ, List.getElem_cons_zero, List.setIfInBounds_toArray, List.set_cons_zero, List.set_cons_succ]
      refine wpAnyH_ready (rs := [10]) (by as_aux_lemma => kernel_rfl) (by simp) ?_
      refine AllReadyH.cons (o := _) rfl (fun K hK => ?_) AllReadyH.nil
      refine step_rowS (l := [] ++ valL.take k1 ++ [T]) (k := valL.drop k1) (A := ⟨bg, og + k1, none⟩) (m := 9 - k1) (c := capV - k1) rfl _ _ rfl rfl (by (try go_simp); first | rfl | exact hcn | skip) hlen2.symm (HT2.out.keep hH3) hown6 (by first | exact Nat.le_trans hz3 hz7 | exact Nat.le_trans (Nat.le_trans hz3 (more (start _) _).size) hz7 | exact Nat.le_trans (Nat.le_trans hz3 (more (start _) _).drew.size) hz7) (by simp; omega) (by omega) ?_
      intro v10 w10 hown10 hb10
      have hb := hb10.mono hs3
      refine hK.out _ _ (vs_keep hb hH3) (fun hN => ?_)
      clear hK K hH3
      have hH4 := hN
      clear hN
      try simp only [Act.put, List.getElem_toArray, List.getElem_cons_succ, List.getElem_cons_zero, List.setIfInBounds_toArray, List.set_cons_zero, List.set_cons_succ]
      refine' wpAnyH_take (i := 11) (oi := _) (v := ?v8) rfl (by as_aux_lemma => kernel_rfl) (by as_aux_lemma => kernel_rfl) (by as_aux_lemma => kernel_rfl) (fun _ _ _ h => h) (Or.inl ⟨by rfl, ?y8⟩) hH4 ?r8
      case y8 => (intro w hSw; (try dsimp only at hSw); go_simp; (try with_reducible rfl))
      try simp only [Act.put, List.getElem_toArray, List.getElem_cons_succ, List.getElem_cons_zero, List.setIfInBounds_toArray, List.set_cons_zero, List.set_cons_succ]
      refine wpAnyH_done (by as_aux_lemma => kernel_rfl) ?_ _
      have hend := hH4
      obtain ⟨l8, hl8⟩ : ∃ l8, valL.take k1 ++ [T] ++ valL.drop k1 = l8 := ⟨_, rfl⟩
      obtain ⟨k8, hk8⟩ : ∃ k8 : Int, (k1 : Int) = k8 := ⟨_, rfl⟩
      rw [List.nil_append] at hown10
      rw [hl8] at hown10 HBD
      rw [hk8] at HBD
      obtain ⟨A8, cap8, rfl, hr8, _⟩ := OwnS.row hown10
      have HR8 := hide hr8
      replace HRV8 := hide (HRV8.out.keep hend)
      replace HB8 := hide (andthen HB8.out hend)
      clear hl8 hown10 hown6 hown3 hr8 hend HT1 HT2 HZ0
      have hk8' : (k8 == (k1 : Int)) = true := by rw [← hk8, beq_iff_eq]
      have hk8n := hk8
      go_wp2_with fail
      refine (read_no A8 _ cap8 l8 _ HR8.out rfl (by have := HBD.out.len; omega) HBD.out.small (HE.out.keep HB8.out) _ HBD.out.read).mono ?_
      rintro _ w8 ⟨rfl, hb8⟩
      unfold noEvent
      have HB9 := hide (more (andthen HB8.out hb8) (.cells #[.string ⟨#[]⟩, .string ⟨#[]⟩, .int .i64 0, .int .i64 0, .slice none 0 0, .int .i64 0, .int .i64 0, .int .i64 0, .int .i64 0, .slice none 0 0, .slice none 0 0, .slice none 0 0, .slice none 0 0] 27))
      have HRG := hide ((HRV8.out.keep hb8).keep (more (start w8) (.cells #[.string ⟨#[]⟩, .string ⟨#[]⟩, .int .i64 0, .int .i64 0, .slice none 0 0, .int .i64 0, .int .i64 0, .int .i64 0, .int .i64 0, .slice none 0 0, .slice none 0 0, .slice none 0 0, .slice none 0 0] 27)))
      clear hb8 HB8 HRV8 HR8
      go_wp2_with fail
      refine (read9 _ capV _ HRG.out (HE.out.keep HB9.out)).mono ?_
      rintro _ w9 ⟨m9, rfl, _, hb9⟩
      have HBZ := hide (more (andthen HB9.out hb9) (.cells #[.string (str valE.uid), .string (str valE.text), .int .i64 valE.st, .int .i64 valE.lg, .slice m9.O valE.rooms.length m9.oc, .int .i64 valE.r.fr, .int .i64 valE.r.ev, .int .i64 valE.r.ct, .int .i64 valE.r.un, .slice m9.D valE.r.ds.length m9.dc, .slice m9.M valE.r.ms.length m9.mc, .slice m9.Y valE.r.ys.length m9.yc, .slice m9.X valE.ex.length m9.xc] 27))
      have kp2 : (0 : Int) < k8 := HBD.out.pos
      have kp : decide ((0 : Int) < k8) = true := decide_eq_true kp2
      have kn : ((k8.toNat : Int) == k8) = true := by rw [beq_iff_eq]; omega
      have kn2 : (k8.toNat : Int) = k8 := by omega
      clear hb9 HB9 HRG
      go_wp2_with fail
      go_ret
      exact ⟨rfl, HBZ.out⟩
  · have hve : Ev.vEnd T a valL = Ev.vLoop T H valL 9 := by
      unfold Ev.vEnd
      rw [HHD.out, if_neg (by rw [← HTL.out, len_of]; exact hc), val_len]
    have hbd := HV.out
    rw [hve] at hbd
    have HBD := hide hbd
    clear hve hbd HV
    have k0 : ((H : Int) == (S.size : Int)) = false := by rw [beq_eq_false_iff_ne]; omega
    generalize (Ev.vLoop T H valL 9).1 = l8 at *
    generalize (Ev.vLoop T H valL 9).2 = k8 at *
    obtain ⟨A8, cap8, rfl, hr8, _⟩ := OwnS.row HO.out
    have HR8 := hide hr8
    have HB8 := hide (andthen HB.out HBR.out)
    have HRV8 := hide (HRV.out.keep HBR.out)
    clear HO HBR HB HRV hr8 HCG HCK
    go_wp2_with fail
    refine (read_no A8 _ cap8 l8 _ HR8.out rfl (by have := HBD.out.len; omega) HBD.out.small (HE.out.keep HB8.out) _ HBD.out.read).mono ?_
    rintro _ w8 ⟨rfl, hb8⟩
    unfold noEvent
    have HB9 := hide (more (andthen HB8.out hb8) (.cells #[.string ⟨#[]⟩, .string ⟨#[]⟩, .int .i64 0, .int .i64 0, .slice none 0 0, .int .i64 0, .int .i64 0, .int .i64 0, .int .i64 0, .slice none 0 0, .slice none 0 0, .slice none 0 0, .slice none 0 0] 27))
    have HRG := hide ((HRV8.out.keep hb8).keep (more (start w8) (.cells #[.string ⟨#[]⟩, .string ⟨#[]⟩, .int .i64 0, .int .i64 0, .slice none 0 0, .int .i64 0, .int .i64 0, .int .i64 0, .int .i64 0, .slice none 0 0, .slice none 0 0, .slice none 0 0, .slice none 0 0] 27)))
    clear hb8 HB8 HRV8 HR8
    go_wp2_with fail
    refine (read9 _ capV _ HRG.out (HE.out.keep HB9.out)).mono ?_
    rintro _ w9 ⟨m9, rfl, _, hb9⟩
    have HBZ := hide (more (andthen HB9.out hb9) (.cells #[.string (str valE.uid), .string (str valE.text), .int .i64 valE.st, .int .i64 valE.lg, .slice m9.O valE.rooms.length m9.oc, .int .i64 valE.r.fr, .int .i64 valE.r.ev, .int .i64 valE.r.ct, .int .i64 valE.r.un, .slice m9.D valE.r.ds.length m9.dc, .slice m9.M valE.r.ms.length m9.mc, .slice m9.Y valE.r.ys.length m9.yc, .slice m9.X valE.ex.length m9.xc] 27))
    have kp2 : (0 : Int) < k8 := HBD.out.pos
    have kp : decide ((0 : Int) < k8) = true := decide_eq_true kp2
    have kn : ((k8.toNat : Int) == k8) = true := by rw [beq_iff_eq]; omega
    have kn2 : (k8.toNat : Int) = k8 := by omega
    clear hb9 HB9 HRG
    go_wp2_with fail
    go_ret
    exact ⟨rfl, HBZ.out⟩

end Go.Proofs.YtgdjeddelcfgeaaGreatDoor

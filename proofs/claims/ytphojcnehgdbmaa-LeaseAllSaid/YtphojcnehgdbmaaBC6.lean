/- The document's claims: Meet, Minus, of long lists. Written by recipes/le0.py. -/
import Derived.Test.YtphojcnehgdbmaaBC4
import Derived.Test.YtphojcnehgdbmaaBS13
import Derived.Test.YtphojcnehgdbmaaBC5
namespace Go.Proofs.Ytphojcnehgdbmaa.S2
open Go.RowKit Spn Cl Le

theorem part_take (X Y : List Sp) (j : Nat) (h : j < X.length) (r : Int) (s : Sp) (hs : X[j] = s) : tag r ((X.take (j + 1)).flatMap (partR Y)) = tag r ((X.take j).flatMap (partR Y)) ++ tag r (partR Y s) := by
  rw [List.take_succ_eq_append_getElem h, hs, List.flatMap_append]; unfold tag; rw [List.map_append]; simp
theorem parts_len (Y : List Sp) : ∀ X : List Sp, (X.flatMap (partR Y)).length ≤ X.length * Y.length
  | [] => by simp
  | a :: X => by
    have h1 := parts_len Y X
    have h2 : (partR Y a).length ≤ Y.length := by
      unfold partR valid
      refine Nat.le_trans (List.length_filter_le _ _) ?_
      rw [List.length_map]; exact Nat.le_refl _
    rw [List.flatMap_cons, List.length_append, List.length_cons, Nat.succ_mul]; omega
theorem part_lenC (Y : List Sp) (a : Sp) : (partR Y a).length ≤ Y.length := by
  unfold partR valid
  refine Nat.le_trans (List.length_filter_le _ _) ?_
  rw [List.length_map]; exact Nat.le_refl _

/-- a row behind a call's own row. -/
theorem run_rowCG {w : World} {B : Nat} {v : Value} {l k : List C} (ty : TypeId) {A : Option Addr} {m c : Nat} (hm : m = k.length) (hnone : A = none → c = 0)
    (hrow : RowC w A k) (hown : OwnC w B v l) (hB : B ≤ w.heap.size) (hn : l.length ≤ 1000000) (hk : k.length ≤ 1000000) :
    ∃ v' w', (Builtin.append_ #[23, 23] ty #[v, .slice A m c]).run Try.prog w = .ok v' w' ∧ OwnC w' B v' (l ++ k) ∧ Goes v w v' w' := by
  obtain ⟨i0, hi, hz0, hz1, hz2⟩ := info_parts claim_info
  subst hm
  cases A with
  | none =>
    obtain rfl : k = [] := by
      rcases k with _ | ⟨z, k⟩
      · rfl
      · obtain ⟨_, _, h, _⟩ := hrow (by simp)
        cases h
    rw [hnone rfl]
    exact ⟨v, w, run_append_owned_none (P := Try.prog) (w := w) B 23 ty 55 i0 3 Try.underlying23 hi v l.length (cellsC l) hown, by rw [List.append_nil]; exact hown, ⟨World.grownBy.refl _ _, Or.inl rfl⟩⟩
  | some a =>
    have hnews : ∀ j u, (cellsC k)[j]? = some u → w.cell? (a.add j) = some u := by
      rcases k with _ | ⟨z, k0⟩
      · intro j u hu; simp [cellsC] at hu
      · obtain ⟨b, off, he, _, hc⟩ := hrow (by simp)
        injection he with he
        subst he
        generalize z :: k0 = k at *
        intro j u hu
        have hj : j < (cellsC k).length := (List.getElem?_eq_some_iff.1 hu).1
        rw [cellsC_len] at hj
        obtain ⟨c1, c2, c3⟩ := cellsC_get k (j / 3) (by omega)
        obtain ⟨r1, r2, r3⟩ := hc (j / 3) (by omega)
        have hadd : (⟨b, off, none⟩ : Addr).add j = ⟨b, off + j, none⟩ := by unfold Addr.add; split <;> simp_all
        rw [hadd]
        rcases (by omega : j / 3 * 3 = j ∨ j / 3 * 3 + 1 = j ∨ j / 3 * 3 + 2 = j) with e | e | e
        · rw [e] at c1 r1; rw [r1, ← c1, hu]
        · rw [e] at c2; rw [Nat.add_assoc, e] at r2; rw [r2, ← c2, hu]
        · rw [e] at c3; rw [Nat.add_assoc, e] at r3; rw [r3, ← c3, hu]
    obtain ⟨v', w', hr, h2, h3, _, h5⟩ := run_append_own_at (P := Try.prog) (w := w) B 23 ty 55 i0 _ 3 24 Try.underlying23 hi hz0 hz1 hz2 rfl (by decide) v l.length (cellsC l) hown a k.length c (cellsC k) (cellsC_len k) hnews (cellsC_one k) (by unfold maxLen; omega) (by omega) hB
    refine ⟨v', w', hr, by rw [OwnC, cellsC_append, List.length_append]; exact h2, h3, ?_⟩
    rcases h5 with h5 | h5
    · exact Or.inl h5
    · exact Or.inr ⟨_, h5, Nat.le_refl _⟩
theorem wp_ownCG {ops : Array Oper} {rest : List Oper} {o : Oper} {a : Act} {Q : Exit → Act → World → Prop} {w : World} {B B2 : Nat} {v y : Value} {l k : List C} (hgd : o.guard = none) (s x : Operand)
    (ho : o.op = .call { callee := .builtin .append, args := #[s, x], argTypes := #[23, 23] }) (hs : a.eval s = v) (hx : a.eval x = y) (hy : OwnC w B2 y k)
    (hown : OwnC w B v l) (hB : B ≤ w.heap.size) (hn : l.length ≤ 1000000) (hk : k.length ≤ 1000000)
    (h : ∀ v' w', OwnC w' B v' (l ++ k) → Goes v w v' w' → wpList Try.prog ops Q rest (a.put o.dst v') w') :
    wpList Try.prog ops Q (o :: rest) a w := by
  obtain ⟨A, cap, rfl, hrow, h0⟩ := hy.row0
  refine wpList_plain hgd fun K hK => ?_
  obtain ⟨v', w', hr, h2, h3⟩ := run_rowCG o.type rfl h0 hrow hown hB hn hk
  unfold Oper.wp execOp
  simp only [ho, resolve, invoke, builtin, Sem.run_bind, Sem.run_pure, Result.andThen_ok, List.map_toArray, List.map_cons, List.map_nil, hs, hx, hr]
  exact hK _ _ (h v' w' h2 h3)
/-- a row that lies apart from another's block. -/
def RowAp (w : World) (v : Value) (A : Option Addr) (l : List Sp) : Prop := Row w A l ∧ (l ≠ [] → ∀ b off, A = some ⟨b, off, none⟩ → some b ≠ v.ownBlock)
theorem RowAp.keep {w w' : World} {v : Value} {A : Option Addr} {l : List Sp} (h : RowAp w v A l) (hb : Below w.heap.size w w') : RowAp w' v A l := ⟨h.1.keep hb, h.2⟩
theorem RowAp.goes {w w' : World} {v v' : Value} {A : Option Addr} {l : List Sp} (h : RowAp w v A l) (hg : Goes v w v' w') : RowAp w' v' A l := by
  refine ⟨fun hl => ?_, fun hl b off e => ?_⟩
  · obtain ⟨b, off, e, hlt, hc⟩ := h.1 hl
    have hne := h.2 hl b off e
    exact ⟨b, off, e, Nat.lt_of_lt_of_le hlt hg.grown.size, fun i hi => ⟨hg.grown.cell (hc i hi).1 hne, hg.grown.cell (hc i hi).2 hne⟩⟩
  · obtain ⟨b', off', e', hlt, _⟩ := h.1 hl
    rw [e] at e'
    injection e' with e'
    injection e' with e1 _ _
    subst e1
    rcases hg.own with h1 | ⟨k, h1, hk⟩
    · rw [h1]; exact h.2 hl b off e
    · rw [h1]; intro he; injection he with he; omega
theorem rowAp_of {w w1 : World} {B B1 : Nat} {v : Value} {S : List C} {A : Option Addr} {n c : Nat} {l : List Sp} (h : Own w1 B1 (.slice A n c) l) (hr : Row w1 A l) (h2 : OwnC w B v S) (hle : w.heap.size ≤ B1) : RowAp w1 v A l := by
  refine ⟨hr, fun _ b off e he => ?_⟩
  subst e
  have a1 := (h.lt b rfl).1
  have a2 := (h2.lt b he.symm).2
  omega

theorem flat_le (X Y : List Sp) (hX : Neat X) (hY : Neat Y) : (X.flatMap (partR Y)).length ≤ X.length + Y.length := by
  have e : X.flatMap (partR Y) = com X Y := neat_ext _ _ (flat_neat _ (fun a => partR_neat _ _ hY) (fun a m hm => ((has_part _ _ _).1 hm).2.2) _ hX) (com_neat _ _ (wk_neat _ hX) (wk_neat _ hY)) fun m => by
    rw [flat_has, com_has _ _ (wk_neat _ hX) (wk_neat _ hY)]
    constructor
    · rintro ⟨a, ha, hm⟩
      rw [has_part] at hm
      exact ⟨⟨a, ha, hm.2⟩, hm.1⟩
    · rintro ⟨⟨a, ha, hm⟩, h2⟩
      exact ⟨a, ha, (has_part _ _ _).2 ⟨h2, hm⟩⟩
  rw [e]; exact com_le _ _
theorem neat_take (X : List Sp) (j : Nat) (h : Neat X) : Neat (X.take j) := neat_left (X.take j) (X.drop j) (by rw [List.take_append_drop]; exact h)

set_option maxRecDepth 100000 in
set_option maxHeartbeats 4000000 in
theorem R.Meet_any (A B : Option Addr) (n m c d : Nat) (a b : List C) (w : World) (h : RowC w A a) (k : RowC w B b) (he : n = a.length) (hf : m = b.length) (hn : a.length ≤ 5000) (hm : b.length ≤ 5000) :
    Calls Try.prog 18 #[.slice A n c, .slice B m d] w (GivesC w (meetC a b)) := by
  subst he hf
  have HR := hide h
  have HS := hide k
  have HM := hide (meetR_is a b)
  have hXl := neatF_len' a
  have hYl := neatF_len' b
  have HPL : Hid (∀ k, (partF (neatF a) (neatF b) k).length ≤ 10000) := hide (fun k => by
    have h1 := flat_le (neatF a k) (neatF b k) (neatF_neat a k) (neatF_neat b k)
    have := hXl k
    have := hYl k
    unfold partF; omega)
  clear h k
  go_enter Try.func18, Try.ntmps18
  go_wp2_with fail
  go_loopw [5, 6] (fun v i wr => ∃ k : Nat, k ≤ 8 ∧ i = .int .i64 k ∧ Hid (OwnC wr w.heap.size v (outK (partF (neatF a) (neatF b)) k)) ∧ Hid (Below w.heap.size w wr)) (fun _ i _ => 8 - (intOf i).toNat)
  case atStart => exact ⟨0, by omega, rfl, hide (ownC_nil _ _), hide (start _)⟩
  case round =>
    obtain ⟨k, hk, rfl, HO, HB⟩ := hrel
    by_cases hlt : k < 8
    · have hj0 : (0 : Int) ≤ (k : Int) := by omega
      have hj1 : (k : Int) < 8 := by omega
      have HTK := hide (outK_succ (partF (neatF a) (neatF b)) k)
      have HLK : Hid ((outK (partF (neatF a) (neatF b)) k).length ≤ 80000) := hide (by have := outK_le' (partF (neatF a) (neatF b)) 10000 HPL.out k; have : k * 10000 ≤ 8 * 10000 := Nat.mul_le_mul_right _ hk; omega)
      have HXL : Hid ((neatF a k).length ≤ 5000) := hide (Nat.le_trans (hXl k) hn)
      have HYL : Hid ((neatF b k).length ≤ 5000) := hide (Nat.le_trans (hYl k) hm)
      have HXN := hide (neatF_neat a k)
      have HYN := hide (neatF_neat b k)
      have HPK : Hid (partF (neatF a) (neatF b) k = (neatF a k).flatMap (partR (neatF b k))) := hide rfl
      go_wp2_with fail
      refine (R.room_any A _ c a (k : Int) wr (HR.out.keep HB.out) rfl (by omega)).mono ?_
      rintro e w1 ⟨v1, rfl, ho1, hb1⟩
      obtain ⟨A1, c1, rfl, hr1⟩ := Own.row ho1
      have HR1 : Hid (RowAp w1 _ A1 (neatF a k)) := hide (rowAp_of ho1 hr1 HO.out (Nat.le_refl _))
      have HO1 := hide (OwnC.keep HO.out hb1)
      have HB1 := hide (HB.out.trans (hb1.mono HB.out.size))
      clear ho1 hb1 hr1
      go_wp2_with fail
      refine (R.room_any B _ d b (k : Int) w1 (HS.out.keep HB1.out) rfl (by omega)).mono ?_
      rintro e w2 ⟨v2, rfl, ho1, hb1⟩
      obtain ⟨A2, c2, rfl, hr1⟩ := Own.row ho1
      have HR2 : Hid (RowAp w2 _ A2 (neatF b k)) := hide (rowAp_of ho1 hr1 HO1.out (Nat.le_refl _))
      replace HR1 := hide (HR1.out.keep hb1)
      have HO2 := hide (OwnC.keep HO1.out hb1)
      have HB2 := hide (HB1.out.trans (hb1.mono HB1.out.size))
      clear ho1 hb1 hr1
      have hXX : canon (spansOf a (k : Int)) = neatF a k := rfl
      have hYY : canon (spansOf b (k : Int)) = neatF b k := rfl
      rw [hXX, hYY]
      rw [HPK.out] at HTK
      clear hXX hYY HPK
      generalize neatF a k = X at *
      generalize neatF b k = Y at *
      generalize outK (partF (neatF a) (neatF b)) k = S at *
      go_wp2_with fail
      go_loopw [5, 9] (fun v i wq => ∃ j : Nat, j ≤ X.length ∧ i = .int .i64 j ∧ Hid (OwnC wq w.heap.size v (S ++ tag (k : Int) ((X.take j).flatMap (partR Y)))) ∧ Hid (Below w.heap.size w wq) ∧ Hid (RowAp wq v A1 X) ∧ Hid (RowAp wq v A2 Y)) (fun _ i _ => X.length - (intOf i).toNat)
      case atStart => exact ⟨0, by omega, rfl, hide (by simpa [tag] using HO2.out), hide HB2.out, hide HR1.out, hide HR2.out⟩
      case round =>
        obtain ⟨j, hj, rfl, HO3, HB3, HX, HY⟩ := hrel
        by_cases hlt2 : j < X.length
        · obtain ⟨b1, off, rfl, hb, hcl⟩ := HX.out.1 (by intro h0; rw [h0] at hlt2; exact absurd hlt2 (Nat.not_lt_zero _))
          obtain ⟨u, hu⟩ : ∃ u, X[j] = u := ⟨_, rfl⟩
          have HTJ := hide (show S ++ tag (k : Int) ((X.take (j + 1)).flatMap (partR Y)) = (S ++ tag (k : Int) ((X.take j).flatMap (partR Y))) ++ tag (k : Int) (partR Y u) by rw [part_take X Y j hlt2 (k : Int) u hu, List.append_assoc])
          have hXL := HXL.out
          obtain ⟨x, y⟩ := u
          have p1 : wr.cell? ⟨b1, off + j * 2, none⟩ = some (.int .i64 x) := by have := (hcl j hlt2).1; rw [hu] at this; exact this
          have p2 : wr.cell? ⟨b1, off + j * 2 + 1, none⟩ = some (.int .i64 y) := by have := (hcl j hlt2).2; rw [hu] at this; exact this
          have hi0 : (0 : Int) ≤ (j : Int) := by omega
          have hi1 : (j : Int) < (X.length : Int) := by omega
          have HLJ : Hid ((S ++ tag (k : Int) ((X.take j).flatMap (partR Y))).length ≤ 1000000) := hide (by
            have h1 := flat_le (X.take j) Y (neat_take X j HXN.out) HYN.out
            have h2 := List.length_take_le j X
            have h4 := HYL.out
            have h3 := HLK.out
            rw [List.length_append, tag_len]; omega)
          have HPJ := hide (part_lenC Y (x, y))
          clear hcl hu
          go_wp2_with fail
          refine (R.part_any A2 _ c2 Y x y wr HY.out.1 rfl (by have := HYL.out; omega)).mono ?_
          rintro e w4 ⟨v4, rfl, ho4, hb4⟩
          obtain ⟨A4, c4, rfl, hr4⟩ := Own.row ho4
          have HR4 := hide hr4
          have HO4 := hide (OwnC.keep HO3.out hb4)
          have HX4 := hide (HX.out.keep hb4)
          have HY4 := hide (HY.out.keep hb4)
          have HB4 := hide (HB3.out.trans (hb4.mono HB3.out.size))
          clear ho4 hb4 hr4 p1 p2
          generalize partR Y (x, y) = P at *
          go_wp2_with fail
          refine (R.rclaims_any (k : Int) A4 _ c4 P w4 HR4.out rfl (by have := HPJ.out; have := HYL.out; omega)).mono ?_
          rintro e w5 ⟨v5, rfl, ho5, hb5⟩
          have HT := hide ho5
          have hown := OwnC.keep HO4.out hb5
          have hbz := HB4.out.trans (hb5.mono HB4.out.size)
          have hbs := hbz.size
          have HX5 := hide (HX4.out.keep hb5)
          have HY5 := hide (HY4.out.keep hb5)
          have hln := HLJ.out
          have hl2 : (tag (k : Int) P).length ≤ 1000000 := by rw [tag_len]; have := HPJ.out; have := HYL.out; omega
          generalize tag (k : Int) P = U at *
          generalize S ++ tag (k : Int) ((X.take j).flatMap (partR Y)) = SS at *
          clear ho5 hb5
          go_wp2_with (at_builtin; refine wp_ownCG (l := SS) (k := U) rfl _ _ rfl rfl rfl HT.out hown hbs hln hl2 ?_; intro v6 w6 hown6 hb6)
          have HO6 := hide hown6
          have HB6 := hide (hbz.grown hb6.grown hbs fun j hj => (hown.lt j hj).1)
          have HX6 := hide (HX5.out.goes hb6)
          have HY6 := hide (HY5.out.goes hb6)
          clear hown hown6 hb6 hbs hln hbz hl2
          go_wp2_with fail
          go_roundw
          case rel => exact ⟨j + 1, by omega, by go_num, by rw [HTJ.out]; exact hide HO6.out, hide HB6.out, hide HX6.out, hide HY6.out⟩
          case measure => simp [intOf]; omega
        · obtain rfl : j = X.length := by omega
          rw [List.take_length, ← HTK.out] at HO3
          go_wp2_with fail
          go_roundw
          case rel => exact ⟨k + 1, by omega, by go_num, hide HO3.out, hide HB3.out⟩
          case measure => simp [intOf]; omega
    · obtain rfl : k = 8 := by omega
      rw [outK_8] at HO
      have HLE : Hid ((outC (partF (neatF a) (neatF b))).length ≤ 100000) := hide (by have := outK_le' (partF (neatF a) (neatF b)) 10000 HPL.out 8; rw [outK_8] at this; omega)
      obtain ⟨A9, c9, rfl, hr9⟩ := HO.out.row
      have HR9 := hide hr9
      have HMM : Hid (neatC (outC (partF (neatF a) (neatF b))) = meetC a b) := HM
      clear hr9 HO HM
      generalize outC (partF (neatF a) (neatF b)) = D at *
      go_wp2_with fail
      refine (R.Neat_any A9 _ c9 D wr HR9.out rfl HLE.out).mono ?_
      rintro e w1 ⟨v1, rfl, ho1, hb1⟩
      have HO1 := hide (ho1.low HB.out.size)
      have HB1 := hide (HB.out.trans (hb1.mono HB.out.size))
      clear ho1 hb1
      go_wp2_with fail
      go_ret
      exact ⟨_, rfl, by rw [← HMM.out]; exact HO1.out, HB1.out⟩

theorem subs_take (X Y : List Sp) (j : Nat) (h : j < Y.length) (s : Sp) (hs : Y[j] = s) : (Y.take (j + 1)).foldl subR X = subR ((Y.take j).foldl subR X) s := by
  rw [List.take_succ_eq_append_getElem h, hs, List.foldl_append]; rfl
theorem minus_apartC (b a : Sp) (hb : Ok b) (h : a.2 ≤ b.1 ∨ b.2 ≤ a.1) : minus b a = [b] := by
  refine neat_ext _ _ (neat_minus b a).1 ⟨hb, fun _ h => absurd h (by simp), trivial⟩ fun m => ?_
  rw [(neat_minus b a).2 m, has_one, in_ok]
  have h2 : inB a m = false ↔ ¬ (Ok a ∧ a.1 ≤ m ∧ m < a.2) := by rw [← in_ok]; simp
  rw [h2]
  constructor
  · exact fun h => h.1
  · intro h'; exact ⟨h', by omega⟩
theorem subR_apartC : ∀ (l : List Sp) (a : Sp), Neat l → (∀ b, b ∈ l → a.2 ≤ b.1 ∨ b.2 ≤ a.1) → subR l a = l
  | [], _, _, _ => rfl
  | b :: r, a, h, k => by
    have e : subR (b :: r) a = minus b a ++ subR r a := rfl
    rw [e, minus_apartC b a h.1 (k b List.mem_cons_self), subR_apartC r a h.2.2 fun c hc => k c (List.mem_cons_of_mem _ hc)]; rfl
theorem subR_lenC : ∀ (l : List Sp) (a : Sp), Neat l → (subR l a).length ≤ l.length + 1
  | [], _, _ => by simp [subR]
  | b :: r, a, h => by
    have e : subR (b :: r) a = minus b a ++ subR r a := rfl
    have ih := subR_lenC r a h.2.2
    have h2 := minus_len b a
    rw [e, List.length_append, List.length_cons]
    by_cases hc : (minus b a).length ≤ 1
    · omega
    · have hlt : a.2 ≤ b.2 := by
        apply Int.not_lt.1
        intro hlt
        apply hc
        unfold minus
        split
        · rw [valid_two]
          have : ¬ Ok (a.2, b.2) := by unfold Ok; simp only; omega
          rw [if_neg this]; split <;> simp
        · rw [valid_one]; split <;> simp
      rw [subR_apartC r a h.2.2 fun c hc => Or.inl (by have := h.2.1 c hc; omega)]
      omega
/-- a neat row cut at neat spans: one more at most each time. -/
theorem subs_len (X : List Sp) (hX : Neat X) : ∀ (Y : List Sp), (Y.foldl subR X).length ≤ X.length + Y.length ∧ Neat (Y.foldl subR X) := by
  intro Y
  induction Y using snoc_ind with
  | h0 => exact ⟨Nat.le_refl _, hX⟩
  | h1 Y a ih =>
    rw [List.foldl_append]
    simp only [List.foldl_cons, List.foldl_nil, List.length_append, List.length_cons, List.length_nil]
    have h2 := subR_lenC (Y.foldl subR X) a ih.2
    exact ⟨by omega, subR_neat _ a ih.2⟩

set_option maxRecDepth 100000 in
set_option maxHeartbeats 4000000 in
theorem R.Minus_any (A B : Option Addr) (n m c d : Nat) (a b : List C) (w : World) (h : RowC w A a) (k : RowC w B b) (he : n = a.length) (hf : m = b.length) (hn : a.length ≤ 5000) (hm : b.length ≤ 5000) :
    Calls Try.prog 13 #[.slice A n c, .slice B m d] w (GivesC w (minusC a b)) := by
  subst he hf
  have HR := hide h
  have HS := hide k
  have HM : Hid (outC (subF (neatF a) (neatF b)) = minusC a b) := hide (minusR_is a b)
  have hXl := neatF_len' a
  have hYl := neatF_len' b
  have HPL : Hid (∀ k, (subF (neatF a) (neatF b) k).length ≤ 10000) := hide (fun k => by
    have h1 := (subs_len (neatF a k) (neatF_neat a k) (neatF b k)).1
    have := hXl k
    have := hYl k
    unfold subF; omega)
  clear h k
  go_enter Try.func13, Try.ntmps13
  go_wp2_with fail
  go_loopw [5, 6] (fun v i wr => ∃ k : Nat, k ≤ 8 ∧ i = .int .i64 k ∧ Hid (OwnC wr w.heap.size v (outK (subF (neatF a) (neatF b)) k)) ∧ Hid (Below w.heap.size w wr)) (fun _ i _ => 8 - (intOf i).toNat)
  case atStart => exact ⟨0, by omega, rfl, hide (ownC_nil _ _), hide (start _)⟩
  case round =>
    obtain ⟨k, hk, rfl, HO, HB⟩ := hrel
    by_cases hlt : k < 8
    · have hj0 : (0 : Int) ≤ (k : Int) := by omega
      have hj1 : (k : Int) < 8 := by omega
      have HTK := hide (outK_succ (subF (neatF a) (neatF b)) k)
      have HLK : Hid ((outK (subF (neatF a) (neatF b)) k).length ≤ 80000) := hide (by have := outK_le' (subF (neatF a) (neatF b)) 10000 HPL.out k; have : k * 10000 ≤ 8 * 10000 := Nat.mul_le_mul_right _ hk; omega)
      have hXL : (neatF a k).length ≤ 5000 := Nat.le_trans (hXl k) hn
      have hYL : (neatF b k).length ≤ 5000 := Nat.le_trans (hYl k) hm
      have HXN := hide (neatF_neat a k)
      have HPK : Hid (subF (neatF a) (neatF b) k = (neatF b k).foldl subR (neatF a k)) := hide rfl
      go_wp2_with fail
      refine (R.room_any A _ c a (k : Int) wr (HR.out.keep HB.out) rfl (by omega)).mono ?_
      rintro e w1 ⟨v1, rfl, ho1, hb1⟩
      have HX1 : Hid (Own w1 w.heap.size v1 (neatF a k)) := hide (ho1.low HB.out.size)
      have HO1 := hide (OwnC.keep HO.out hb1)
      have HB1 := hide (HB.out.trans (hb1.mono HB.out.size))
      clear ho1 hb1
      go_wp2_with fail
      refine (R.room_any B _ d b (k : Int) w1 (HS.out.keep HB1.out) rfl (by omega)).mono ?_
      rintro e w2 ⟨v2, rfl, ho1, hb1⟩
      obtain ⟨A2, c2, rfl, hr1⟩ := Own.row ho1
      have HR2 : Hid (Row w2 A2 (neatF b k)) := hide hr1
      have HX2 := hide (Own.keep HX1.out hb1)
      have HO2 := hide (OwnC.keep HO1.out hb1)
      have HB2 := hide (HB1.out.trans (hb1.mono HB1.out.size))
      clear ho1 hb1 hr1
      have hYY : canon (spansOf b (k : Int)) = neatF b k := rfl
      rw [hYY]
      rw [HPK.out] at HTK
      clear hYY HPK
      generalize neatF a k = X at *
      generalize neatF b k = Y at *
      generalize outK (subF (neatF a) (neatF b)) k = S at *
      go_wp2_with fail
      go_loopw [7, 9] (fun v i wq => ∃ j : Nat, j ≤ Y.length ∧ i = .int .i64 j ∧ Hid (Own wq w.heap.size v ((Y.take j).foldl subR X)) ∧ Hid (Below w2.heap.size w2 wq)) (fun _ i _ => Y.length - (intOf i).toNat)
      case atStart => exact ⟨0, by omega, rfl, hide HX2.out, hide (start _)⟩
      case round =>
        obtain ⟨j, hj, rfl, HX3, HB3⟩ := hrel
        by_cases hlt2 : j < Y.length
        · obtain ⟨b1, off, rfl, hb, hcl⟩ := HR2.out (by intro h0; rw [h0] at hlt2; exact absurd hlt2 (Nat.not_lt_zero _))
          obtain ⟨u, hu⟩ : ∃ u, Y[j] = u := ⟨_, rfl⟩
          have HTJ := hide (subs_take X Y j hlt2 u hu)
          obtain ⟨x, y⟩ := u
          have p1 : wr.cell? ⟨b1, off + j * 2, none⟩ = some (.int .i64 x) := by have := (hcl j hlt2).1; rw [hu] at this; exact (HB3.out.cell (p := ⟨b1, _, none⟩) hb).trans this
          have p2 : wr.cell? ⟨b1, off + j * 2 + 1, none⟩ = some (.int .i64 y) := by have := (hcl j hlt2).2; rw [hu] at this; exact (HB3.out.cell (p := ⟨b1, _, none⟩) hb).trans this
          have hi0 : (0 : Int) ≤ (j : Int) := by omega
          have hi1 : (j : Int) < (Y.length : Int) := by omega
          have hlj := (subs_len X HXN.out (Y.take j)).1
          have htj := List.length_take_le j Y
          obtain ⟨A3, c3, rfl, hr3⟩ := Own.row HX3.out
          have HR3 := hide hr3
          clear hcl hu hr3
          go_wp2_with fail
          refine (R.sub_any A3 _ c3 ((Y.take j).foldl subR X) x y wr HR3.out rfl (by omega)).mono ?_
          rintro e w4 ⟨v4, rfl, ho4, hb4⟩
          have HX4 := hide (ho4.low (Nat.le_trans HB2.out.size HB3.out.size))
          have HB4 := hide (HB3.out.trans (hb4.mono HB3.out.size))
          clear ho4 hb4
          go_wp2_with fail
          go_roundw
          case rel => exact ⟨j + 1, by omega, by go_num, by rw [HTJ.out]; exact hide HX4.out, hide HB4.out⟩
          case measure => simp [intOf]; omega
        · obtain rfl : j = Y.length := by omega
          rw [List.take_length] at HX3
          have hlj := (subs_len X HXN.out Y).1
          obtain ⟨A3, c3, rfl, hr3⟩ := Own.row HX3.out
          have HR3 := hide hr3
          have HO3 := hide (OwnC.keep HO2.out HB3.out)
          have HB5 := hide (HB2.out.trans (HB3.out.mono HB2.out.size))
          clear hr3 HX3
          generalize Y.foldl subR X = D at *
          go_wp2_with fail
          refine (R.rclaims_any (k : Int) A3 _ c3 D wr HR3.out rfl (by omega)).mono ?_
          rintro e w5 ⟨v5, rfl, ho5, hb5⟩
          have HT := hide ho5
          have hown := OwnC.keep HO3.out hb5
          have hbz := HB5.out.trans (hb5.mono HB5.out.size)
          have hbs := hbz.size
          have hln : S.length ≤ 1000000 := by have := HLK.out; omega
          have hl2 : (tag (k : Int) D).length ≤ 1000000 := by rw [tag_len]; omega
          generalize tag (k : Int) D = U at *
          clear ho5 hb5
          go_wp2_with (at_builtin; refine wp_ownC (l := S) (k := U) rfl _ _ rfl rfl rfl HT.out hown hbs hln hl2 ?_; intro v6 w6 hown6 hb6)
          have HO6 := hide hown6
          have HB6 := hide (hbz.trans hb6)
          clear hown hown6 hb6 hbs hln hbz hl2
          go_wp2_with fail
          go_roundw
          case rel => exact ⟨k + 1, by omega, by go_num, by rw [HTK.out]; exact hide HO6.out, hide HB6.out⟩
          case measure => simp [intOf]; omega
    · obtain rfl : k = 8 := by omega
      rw [outK_8, HM.out] at HO
      go_wp2_with fail
      go_ret
      exact ⟨_, rfl, HO.out, HB.out⟩
end Go.Proofs.Ytphojcnehgdbmaa.S2

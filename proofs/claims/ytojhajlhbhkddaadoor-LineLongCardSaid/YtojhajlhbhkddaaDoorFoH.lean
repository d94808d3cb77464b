/- Walks of package fold: lines, Unfold. Written by recipes/fo1.py. -/
import Derived.Test.YtojhajlhbhkddaaDoorFoF
import Derived.Laws.OwnMore
import Derived.Maps.AppendAt
namespace Go.Proofs.YtojhajlhbhkddaaDoor
open Go.RowKit Rul Rt Fo Go.Sort

theorem step_atS {ops : Array Oper} {o : Oper} {a : Act} {K : Act → World → Prop} {Q : Exit → Act → World → Prop} {E : Prop} {w : World} {B : Nat} {v : Value} {l k : List Tx} (hgd : o.guard = none) (s x : Operand)
    (ho : o.op = .call { callee := .builtin .append, args := #[s, x], argTypes := #[25, 25] }) (hs : a.eval s = v) {b off m c : Nat} (hx : a.eval x = .slice (some ⟨b, off, none⟩) m c) (hm : m = k.length)
    (hrow : ∀ i (h : i < k.length), w.cell? ⟨b, off + i, none⟩ = some (.string (str k[i])))
    (hown : OwnS w B v l) (hB : B ≤ w.heap.size) (hn : l.length ≤ 1000000) (hk : k.length ≤ 1000000)
    (h : ∀ v' w', OwnS w' B v' (l ++ k) → Below B w w' → K (a.put o.dst v') w') :
    if Region.wanted o (yielded ops a.tmps) = true then Oper.wp Tryd.prog o a w K Q else E := by
  have hw : Region.wanted o (yielded ops a.tmps) = true := by simp [Region.wanted, hgd]
  rw [if_pos hw]
  subst hm
  obtain ⟨i0, hi, hz0, hz1, hz2⟩ := info_parts string_info
  have hnews : ∀ j u, (cellsS k)[j]? = some u → w.cell? ((⟨b, off, none⟩ : Addr).add j) = some u := by
    intro j u hu
    have hadd : (⟨b, off, none⟩ : Addr).add j = ⟨b, off + j, none⟩ := by unfold Addr.add; split <;> simp_all
    rw [hadd]
    unfold cellsS at hu
    rw [List.getElem?_map, Option.map_eq_some_iff] at hu
    obtain ⟨t, ht, rfl⟩ := hu
    obtain ⟨hj, e⟩ := List.getElem?_eq_some_iff.1 ht
    rw [hrow j hj, e]
  obtain ⟨v', w', hr, h2, h3, _, _⟩ := run_append_own_at (P := Tryd.prog) (w := w) B 25 o.type 9 i0 _ 1 16 Tryd.underlying25 hi hz0 hz1 hz2 rfl (by decide) v l.length (cellsS l) hown ⟨b, off, none⟩ k.length c (cellsS k) (by rw [cellsS_len, Nat.mul_one]) hnews (fun u hu => by obtain ⟨t, _, rfl⟩ := List.mem_map.1 hu; rfl) (by unfold maxLen; omega) (by omega) hB
  unfold Oper.wp execOp
  simp only [ho, resolve, invoke, builtin, Sem.run_bind, Sem.run_pure, Result.andThen_ok, List.map_toArray, List.map_cons, List.map_nil, hs, hx, hr]
  exact h v' w' (by rw [OwnS, cellsS_append, List.length_append]; exact h2) ((Below.refl B w).grown h3 hB fun j hj => (hown.lt j hj).1)
theorem one_cell (w : World) (t : Tx) : ∀ i (h : i < [t].length), (w.alloc (.cells #[.string (str t)] 9)).cell? ⟨w.heap.size, 0 + i, none⟩ = some (.string (str [t][i])) := fun i hi => by
  obtain rfl : i = 0 := by simpa using hi
  rw [World.cell?_alloc_at _ _ _ _ rfl]; rfl
theorem kL {B b1 o1 X : Nat} {v : Value} {W W1 : World} (hX : X = W.heap.size ∨ X = B) (hb : Below X W W1) (h : W.cell? ⟨b1, o1, none⟩ = some v ∧ b1 < W.heap.size ∧ b1 < B) : W1.cell? ⟨b1, o1, none⟩ = some v ∧ b1 < W1.heap.size ∧ b1 < B := by
  refine ⟨(hb.cell (p := ⟨b1, o1, none⟩) ?_).trans h.1, Nat.lt_of_lt_of_le h.2.1 hb.size, h.2.2⟩
  rcases hX with e | e
  · rw [e]; exact h.2.1
  · rw [e]; exact h.2.2
theorem RowS.keepB {B : Nat} {w w1 w2 : World} {A : Option Addr} {l : List Tx} (h : RowS w A l ∧ Below w.heap.size w w1) (hb : Below B w1 w2) (hB : w.heap.size ≤ B) : RowS w2 A l := fun hn => by
  obtain ⟨b, off, e, hl, hc⟩ := h.1 hn
  refine ⟨b, off, e, Nat.lt_of_lt_of_le (Nat.lt_of_lt_of_le hl h.2.size) hb.size, fun i hi => ?_⟩
  exact ((hb.cell (p := ⟨b, off + i, none⟩) (Nat.lt_of_lt_of_le hl hB)).trans (h.2.cell (p := ⟨b, off + i, none⟩) hl)).trans (hc i hi)
theorem RowS.drop {w : World} {b off : Nat} {l : List Tx} (h : RowS w (some ⟨b, off, none⟩) l) (k : Nat) : RowS w (some ⟨b, off + k, none⟩) (l.drop k) := fun hn => by
  have h0 : l ≠ [] := fun e => hn (by rw [e]; simp)
  obtain ⟨b', off', e, hl, hc⟩ := h h0
  injection e with e
  injection e with e1 e2 _
  subst e1 e2
  refine ⟨b, off + k, rfl, hl, fun i hi => ?_⟩
  rw [List.length_drop] at hi
  rw [List.getElem_drop, Nat.add_assoc]
  exact hc (k + i) (by omega)
theorem RowS.dropI {w : World} {b off : Nat} {l : List Tx} (h : RowS w (some ⟨b, off, none⟩) l) (c k : Nat) (hc : l.length ≤ c) : RowS w (if c = k then some ⟨b, off, none⟩ else some ⟨b, off + k, none⟩) (l.drop k) := by
  split
  · rename_i e
    rw [List.drop_eq_nil_of_le (by omega)]
    exact RowS.nil _ _
  · exact h.drop k
theorem RowS.take {w : World} {A : Option Addr} {l : List Tx} (h : RowS w A l) (k : Nat) : RowS w A (l.take k) := fun hn => by
  have h0 : l ≠ [] := fun e => hn (by rw [e]; simp)
  obtain ⟨b, off, e, hl, hc⟩ := h h0
  refine ⟨b, off, e, hl, fun i hi => ?_⟩
  rw [List.length_take] at hi
  rw [List.getElem_take]
  exact hc i (by omega)
theorem hasPre (T : Tx) : Lib.hasPrefix T [32] = goesOn T := by
  cases T with
  | nil => rfl
  | cons c t =>
    show List.isPrefixOf (32 :: []) (c :: t) = (some c == some 32)
    rw [List.isPrefixOf, List.isPrefixOf, Bool.and_true]
    cases h : (32 : UInt8) == c with
    | true => rw [beq_iff_eq] at h; subst h; rfl
    | false => rw [beq_eq_false_iff_ne] at h; symm; rw [beq_eq_false_iff_ne]; intro e; injection e with e; exact h e.symm
theorem pre_any (T : Tx) (w : World) : Calls Tryd.prog 15 #[.string (str T), .string (str [32])] w fun e w' => e = .returned (.bool (goesOn T)) ∧ w' = w := by
  have := Tryd.strings_HasPrefix (str T) (str [32]) w
  rw [str_list, str_list, hasPre] at this
  exact this

set_option maxRecDepth 100000 in
set_option maxHeartbeats 2000000 in
theorem lines_any (A : Option Addr) (n c : Nat) (ps : List Tx) (w : World) (hl : RowS w A ps) (hn : n = ps.length) (hcap : ps.length ≤ c) (hsz : ps.length ≤ 200000) (hf : ps.flatten.length ≤ 200000) :
    Calls Tryd.prog 9 #[.slice A n c] w (GivesS w (grp ps)) := by
  subst hn
  have HR := hide hl
  have HC := hide hcap
  have HSF := hide (And.intro hsz hf)
  clear hl hcap hsz hf
  go_enter Tryd.func9, Tryd.ntmps9
  go_wp2_with fail
  go_loopg [0, 3, 4] ps.length (fun g P v _ wr => ∃ (A' : Option Addr) (c' : Nat) (q done : List Tx), P = .slice A' q.length c' ∧ q.length = g ∧ Hid (RowS w A' q) ∧ Hid (q.length ≤ c') ∧ OwnS wr w.heap.size v done ∧ Hid (grp ps = done ++ grp q) ∧ Hid (done.length + q.length ≤ ps.length ∧ q.flatten.length ≤ ps.flatten.length) ∧ Below w.heap.size w wr)
  case atStart => exact ⟨A, c, ps, [], rfl, rfl, HR, HC, ownS_nil _ _, hide rfl, hide ⟨by simp, Nat.le_refl _⟩, start _⟩
  case round =>
    obtain ⟨A', c', q, done, rfl, hg, HRQ, HCQ, hown, HN, HL, hbw⟩ := hrel
    have HO := hide hown
    have HBR := hide hbw
    clear hown hbw
    obtain ⟨m, hm⟩ : ∃ m, q.length = m := ⟨_, rfl⟩
    rw [hm] at hg ⊢
    subst hg
    by_cases h0 : m = 0
    · have hq : q = [] := List.eq_nil_of_length_eq_zero (by omega)
      have HF : Hid (grp ps = done) := hide (by rw [HN.out, hq, grp_nil, List.append_nil])
      subst h0
      clear hq hm
      go_wp2_with fail
      go_ret
      exact ⟨_, rfl, by rw [HF.out]; exact HO.out, HBR.out⟩
    · have hq : q ≠ [] := fun e => h0 (by rw [← hm, e]; rfl)
      obtain ⟨b1, o1, rfl, hbl, hc⟩ := HRQ.out hq
      have hm0 : (0 : Int) < (m : Int) := by omega
      have hd0 : decide (0 < m) = true := decide_eq_true (by omega)
      have hmN : 0 < m := by omega
      have HM := hide hm
      have HLT := hide (And.intro hbl hc)
      obtain ⟨V, rfl⟩ : ∃ V, V = wr := ⟨wr, rfl⟩
      have hcm : m ≤ c' := by have := HCQ.out; omega
      have hmb : (m : Int) ≤ 300000 := by have := HL.out.1; have := HSF.out.1; omega
      clear h0 hbl hc hm
      go_wp2_with fail
      go_loopw [4] (fun x wx => ∃ k : Nat, 1 ≤ k ∧ k ≤ m ∧ x = .int .i64 k ∧ Hid (∀ i (h : i < q.length), 0 < i → i < k → goesOn q[i] = true) ∧ wx = V) (fun x _ => m - (intOf x).toNat)
      case atStart => exact ⟨1, Nat.le_refl _, by omega, rfl, hide (fun i h h1 h2 => absurd h2 (by omega)), rfl⟩
      case round =>
        obtain ⟨k, hk1, hkm, rfl, HG, rfl⟩ := hrel
        have hk0 : (0 : Int) ≤ (k : Int) := by omega
        have hki : (1 : Int) ≤ (k : Int) := by omega
        have hkm1 : (k : Int) ≤ (m : Int) := by omega
        have hkc : (k : Int) ≤ (c' : Int) := by omega
        have hkq : k ≤ q.length := by rw [HM.out]; exact hkm
        have h0q : 0 < q.length := by rw [HM.out]; omega
        obtain ⟨p0, hp0⟩ : ∃ p, q[0] = p := ⟨_, rfl⟩
        have P0 : wr.cell? ⟨b1, o1, none⟩ = some (.string (str p0)) := by rw [← hp0]; exact (HBR.out.cell (p := ⟨b1, _, none⟩) HLT.out.1).trans (HLT.out.2 0 h0q)
        have hS0 : wr.cell? ⟨b1, o1, none⟩ = some (.string (str p0)) ∧ b1 < wr.heap.size ∧ b1 < w.heap.size := ⟨P0, Nat.lt_of_lt_of_le HLT.out.1 HBR.out.size, HLT.out.1⟩
        obtain ⟨LN, hLN⟩ : ∃ LN, p0 ++ tls ((q.take k).drop 1) = LN := ⟨_, rfl⟩
        have HE : Hid ((∀ h : k < q.length, goesOn q[k] = false) → grp ps = (done ++ [LN]) ++ grp (q.drop k)) := hide (fun h2 => by
          have := grp_at q 0 k h0q (by omega) hkq (fun i h h1 h2 => HG.out i h h1 h2) h2
          rw [List.drop_zero] at this
          rw [HN.out, this, ← hLN, ← hp0]; simp)
        have HMI : Hid (((q.take k).drop 1).length = k - 1) := hide (by rw [List.length_drop, List.length_take, HM.out]; omega)
        have HGM : Hid (∀ i (h : i < ((q.take k).drop 1).length), goesOn ((q.take k).drop 1)[i] = true) := hide (fun i h => by
          have h' := h
          rw [HMI.out] at h'
          rw [List.getElem_drop, List.getElem_take]
          exact HG.out _ (by omega) (by omega) (by omega))
        have HFL : Hid (p0.length + ((q.take k).drop 1).flatten.length ≤ 500000) := hide (by
          have g1 : p0.length ≤ q.flatten.length := flat_at q p0 (by rw [← hp0]; exact List.getElem_mem h0q)
          have g2 := flat_drop (q.take k) 1
          have g3 := flat_take q k
          have g4 := HL.out.2
          have g5 := HSF.out.2
          omega)
        have HU : Hid (∀ W, RowS W (if c' = 1 then some ⟨b1, o1, none⟩ else some ⟨b1, o1 + 1, none⟩) ((q.take k).drop 1) → Calls Tryd.prog 16 #[.string (str p0), .slice (if c' = 1 then some ⟨b1, o1, none⟩ else some ⟨b1, o1 + 1, none⟩) (k - 1) (c' - 1)] W (Ans W (.string (str LN)))) := hide (fun W hW => by
          have := unfolded_any p0 (if c' = 1 then some ⟨b1, o1, none⟩ else some ⟨b1, o1 + 1, none⟩) (k - 1) (c' - 1) ((q.take k).drop 1) W hW HMI.out.symm HGM.out (by rw [HMI.out]; omega) HFL.out
          rw [hLN] at this
          exact this)
        have HRK : Hid (RowS w (if c' = 1 then some ⟨b1, o1, none⟩ else some ⟨b1, o1 + 1, none⟩) ((q.take k).drop 1) ∧ Below w.heap.size w wr) := hide ⟨((HRQ.out).take k).dropI c' 1 (by rw [List.length_take]; omega), HBR.out⟩
        have HSZ : Hid (w.heap.size ≤ wr.heap.size) := hide HBR.out.size
        have HRD : Hid (RowS w (if c' = k then some ⟨b1, o1, none⟩ else some ⟨b1, o1 + k, none⟩) (q.drop k)) := hide (HRQ.out.dropI c' k HCQ.out)
        have HCD : Hid ((q.drop k).length ≤ c' - k) := hide (by rw [List.length_drop, HM.out]; omega)
        have HLD : Hid ((done ++ [LN]).length + (q.drop k).length ≤ ps.length ∧ (q.drop k).flatten.length ≤ ps.flatten.length) := hide (by
          refine ⟨?_, Nat.le_trans (flat_drop q k) HL.out.2⟩
          rw [List.length_append, List.length_drop, List.length_singleton]
          have := HL.out.1
          omega)
        have HLN : Hid (done.length ≤ 1000000) := hide (by have := HL.out.1; have := HSF.out.1; omega)
        by_cases hlt : k < m
        · have hki1 : (k : Int) < (m : Int) := by omega
          have hkl : k < q.length := by rw [HM.out]; exact hlt
          obtain ⟨T, hT⟩ : ∃ T, q[k] = T := ⟨_, rfl⟩
          have p1 : wr.cell? ⟨b1, o1 + k, none⟩ = some (.string (str T)) := by rw [← hT]; exact (HBR.out.cell (p := ⟨b1, _, none⟩) HLT.out.1).trans (HLT.out.2 k hkl)
          have HP := hide (fun w => pre_any T w)
          cases hgo : goesOn T with
          | true =>
            rw [hgo] at HP
            have HG2 : Hid (∀ i (h : i < q.length), 0 < i → i < k + 1 → goesOn q[i] = true) := hide (fun i h h1 h2 => by
              rcases Nat.lt_or_ge i k with g | g
              · exact HG.out i h h1 g
              · obtain rfl : i = k := by omega
                rw [hT]; exact hgo)
            clear hT hgo hkq h0q hp0 hLN hkl
            go_wp2_with fail
            refine (HP.out _).mono ?_
            rintro e w2 ⟨rfl, rfl⟩
            go_wp2_with fail
            go_roundw
            case rel => exact ⟨k + 1, by omega, by omega, by go_num, HG2, by trivial⟩
            case measure => simp [intOf]; omega
          | false =>
            rw [hgo] at HP
            have HND := hide (HE.out (fun h => by rw [hT]; exact hgo))
            replace HRD := hide (HRQ.out.drop k)
            clear hT hgo hkq h0q hp0 hLN hkl
            go_wp2_with fail
            refine (HP.out _).mono ?_
            rintro e w2 ⟨rfl, rfl⟩
            have hown := HO.out
            have hbz := HBR.out
            go_wp2_with fail
            refine wp_region_held_drew (S := fun W' => W'.cell? ⟨b1, o1, none⟩ = some (.string (str p0)) ∧ b1 < W'.heap.size ∧ b1 < w.heap.size) (by kernel_rfl) ?_ (fun hH0 => ?_)
            · exact kL (Or.inl rfl) (Below.drew (start _)) hS0
            refine' wpAnyH_take (i := 0) (oi := _) (v := ?v0) rfl (by as_aux_lemma => kernel_rfl) (by as_aux_lemma => kernel_rfl) (by as_aux_lemma => kernel_rfl) (fun _ _ _ h => h) (Or.inl ⟨by rfl, ?y0⟩) hH0 ?r0
            case y0 => (intro w hSw; (try dsimp only at hSw); go_simp; (try with_reducible rfl))
            try simp only [Act.put, List.getElem_toArray, List.getElem_cons_zero, List.setIfInBounds_toArray, List.set_cons_zero, List.set_cons_succ]
            refine' wpAnyH_take (i := 1) (oi := _) (v := ?v1) rfl (by as_aux_lemma => kernel_rfl) (by as_aux_lemma => kernel_rfl) (by as_aux_lemma => kernel_rfl) (fun _ _ _ h => h) (Or.inl ⟨by rfl, ?y1⟩) hH0 ?r1
            case y1 => (intro w hSw; (try dsimp only at hSw); go_simp; (try with_reducible rfl))
            try simp only [Act.put, List.getElem_toArray, List.getElem_cons_succ, List.getElem_cons_zero, List.setIfInBounds_toArray, List.set_cons_zero, List.set_cons_succ]
            refine' wpAnyH_take (i := 2) (oi := _) (v := ?v2) rfl (by as_aux_lemma => kernel_rfl) (by as_aux_lemma => kernel_rfl) (by as_aux_lemma => kernel_rfl) (fun _ _ _ h => h) (Or.inl ⟨by rfl, ?y2⟩) hH0 ?r2
            case y2 => (intro w hSw; (try dsimp only at hSw); go_simp; (try with_reducible rfl))
            try simp only [Act.put, List.getElem_toArray, List.getElem_cons_succ, List.getElem_cons_zero, List.setIfInBounds_toArray, List.set_cons_zero, List.set_cons_succ]
            refine' wpAnyH_take (i := 3) (oi := _) (v := ?v3) rfl (by as_aux_lemma => kernel_rfl) (by as_aux_lemma => kernel_rfl) (by as_aux_lemma => kernel_rfl) (fun _ _ _ h => h) (Or.inl ⟨by rfl, ?y3⟩) hH0 ?r3
            case y3 => (intro w hSw; (try dsimp only at hSw); go_simp; (try with_reducible rfl))
            try simp only [Act.put, List.getElem_toArray, List.getElem_cons_succ, List.getElem_cons_zero, List.setIfInBounds_toArray, List.set_cons_zero, List.set_cons_succ]
            refine' wpAnyH_take (i := 4) (oi := _) (v := ?v4) rfl (by as_aux_lemma => kernel_rfl) (by as_aux_lemma => kernel_rfl) (by as_aux_lemma => kernel_rfl) (fun _ _ _ h => h) (Or.inl ⟨by rfl, ?y4⟩) hH0 ?r4
            case y4 => (intro w hSw; (try dsimp only at hSw); go_simp; (try with_reducible rfl))
            try simp only [Act.put, List.getElem_toArray, List.getElem_cons_succ, List.getElem_cons_zero, List.setIfInBounds_toArray, List.set_cons_zero, List.set_cons_succ]
            refine' wpAnyH_take (i := 5) (oi := _) (v := ?v5) rfl (by as_aux_lemma => kernel_rfl) (by as_aux_lemma => kernel_rfl) (by as_aux_lemma => kernel_rfl) (fun _ _ _ h => h) (Or.inl ⟨by rfl, ?y5⟩) hH0 ?r5
            case y5 => (intro w hSw; (try dsimp only at hSw); go_simp; (try with_reducible rfl))
            try simp only [Act.put, List.getElem_toArray, List.getElem_cons_succ, List.getElem_cons_zero, List.setIfInBounds_toArray, List.set_cons_zero, List.set_cons_succ]
            refine' wpAnyH_take (i := 6) (oi := _) (v := ?v6) rfl (by as_aux_lemma => kernel_rfl) (by as_aux_lemma => kernel_rfl) (by as_aux_lemma => kernel_rfl) (fun _ _ _ h => h) (Or.inl ⟨by rfl, ?y6⟩) hH0 ?r6
            case y6 => (intro w hSw; (try dsimp only at hSw); go_simp; (try with_reducible rfl))
            try simp only [Act.put, List.getElem_toArray, List.getElem_cons_succ, List.getElem_cons_zero, List.setIfInBounds_toArray, List.set_cons_zero, List.set_cons_succ]
            refine wpAnyH_ready (rs := [7]) (by as_aux_lemma => kernel_rfl) (by simp) ?_
            refine AllReadyH.cons (o := _) rfl (fun K hK => ?_) AllReadyH.nil
            go_simp
            refine (HU.out _ (RowS.keepB HRK.out (Below.drew (start _)) HSZ.out)).mono ?_
            rintro e w3 ⟨rfl, hb⟩
            replace hown := OwnS.keep hown (andthen (start _).drew hb)
            replace hbz := andthen hbz (andthen (start _).drew hb)
            refine hK.out _ _ (kL (by first | exact Or.inl rfl | exact Or.inr rfl) hb hH0) (fun hN => ?_)
            clear hK K hH0
            have hH1 := hN
            clear hN
            try simp only [Act.put, List.getElem_toArray, List.getElem_cons_succ, List.getElem_cons_zero, List.setIfInBounds_toArray, List.set_cons_zero, List.set_cons_succ]
            refine wpAnyH_ready (rs := [8]) (by as_aux_lemma => kernel_rfl) (by simp) ?_
            refine AllReadyH.cons (o := _) rfl (fun K hK => ?_) AllReadyH.nil
            go_simp
            refine hK.out _ _ (kL (by first | exact Or.inl rfl | exact Or.inr rfl) (more (start _) _) hH1) (fun hN => ?_)
            clear hK K hH1
            have hH2 := hN
            clear hN
            try simp only [Act.put, List.getElem_toArray, List.getElem_cons_succ, List.getElem_cons_zero, List.setIfInBounds_toArray, List.set_cons_zero, List.set_cons_succ]
            refine wpAnyH_ready (rs := [9]) (by as_aux_lemma => kernel_rfl) (by simp) ?_
            refine AllReadyH.cons (o := _) rfl (fun K hK => ?_) AllReadyH.nil
            refine step_atS (l := done) (k := [LN]) rfl _ _ rfl rfl rfl rfl (one_cell _ _) (hown.alloc _) (Nat.le_trans hbz.size (more (start w3) _).size) HLN.out (by simp) ?_
            intro v9 w9 hown9 hb
            have hb9 := hbz.trans (((Below.refl _ w3).alloc hbz.size _).trans hb)
            refine hK.out _ _ (kL (by first | exact Or.inl rfl | exact Or.inr rfl) hb hH2) (fun hN => ?_)
            clear hK K hH2
            have hH3 := hN
            clear hN
            try simp only [Act.put, List.getElem_toArray, List.getElem_cons_succ, List.getElem_cons_zero, List.setIfInBounds_toArray, List.set_cons_zero, List.set_cons_succ]
            refine' wpAnyH_take (i := 10) (oi := _) (v := ?v7) rfl (by as_aux_lemma => kernel_rfl) (by as_aux_lemma => kernel_rfl) (by as_aux_lemma => kernel_rfl) (fun _ _ _ h => h) (Or.inl ⟨by rfl, ?y7⟩) hH3 ?r7
            case y7 => (intro w hSw; (try dsimp only at hSw); go_simp; (try with_reducible rfl))
            try simp only [Act.put, List.getElem_toArray, List.getElem_cons_succ, List.getElem_cons_zero, List.setIfInBounds_toArray, List.set_cons_zero, List.set_cons_succ]
            refine wpAnyH_done (by as_aux_lemma => kernel_rfl) ?_ _
            have HO9 := hide hown9
            have HB9 := hide hb9
            clear hH3 hown hbz hown9 hb9 hb
            go_wp2_with fail
            go_roundg (m - k)
            case measure => omega
            case rel => exact ⟨_, _, q.drop k, done ++ [LN], by rw [List.length_drop, HM.out], by rw [List.length_drop, HM.out], HRD, HCD, HO9.out, HND, HLD, HB9.out⟩
        · obtain rfl : k = m := by omega
          have HND := hide (HE.out (fun h => absurd h (by rw [HM.out]; omega)))
          clear hkq h0q hp0 hLN hlt
          have hown := HO.out
          have hbz := HBR.out
          go_wp2_with fail
          refine wp_region_held_drew (S := fun W' => W'.cell? ⟨b1, o1, none⟩ = some (.string (str p0)) ∧ b1 < W'.heap.size ∧ b1 < w.heap.size) (by kernel_rfl) ?_ (fun hH0 => ?_)
          · exact kL (Or.inl rfl) (Below.drew (start _)) hS0
          refine' wpAnyH_take (i := 0) (oi := _) (v := ?v20) rfl (by as_aux_lemma => kernel_rfl) (by as_aux_lemma => kernel_rfl) (by as_aux_lemma => kernel_rfl) (fun _ _ _ h => h) (Or.inl ⟨by rfl, ?y20⟩) hH0 ?r20
          case y20 => (intro w hSw; (try dsimp only at hSw); go_simp; (try with_reducible rfl))
          try simp only [Act.put, List.getElem_toArray, List.getElem_cons_zero, List.setIfInBounds_toArray, List.set_cons_zero, List.set_cons_succ]
          refine' wpAnyH_take (i := 1) (oi := _) (v := ?v21) rfl (by as_aux_lemma => kernel_rfl) (by as_aux_lemma => kernel_rfl) (by as_aux_lemma => kernel_rfl) (fun _ _ _ h => h) (Or.inl ⟨by rfl, ?y21⟩) hH0 ?r21
          case y21 => (intro w hSw; (try dsimp only at hSw); go_simp; (try with_reducible rfl))
          try simp only [Act.put, List.getElem_toArray, List.getElem_cons_succ, List.getElem_cons_zero, List.setIfInBounds_toArray, List.set_cons_zero, List.set_cons_succ]
          refine' wpAnyH_take (i := 2) (oi := _) (v := ?v22) rfl (by as_aux_lemma => kernel_rfl) (by as_aux_lemma => kernel_rfl) (by as_aux_lemma => kernel_rfl) (fun _ _ _ h => h) (Or.inl ⟨by rfl, ?y22⟩) hH0 ?r22
          case y22 => (intro w hSw; (try dsimp only at hSw); go_simp; (try with_reducible rfl))
          try simp only [Act.put, List.getElem_toArray, List.getElem_cons_succ, List.getElem_cons_zero, List.setIfInBounds_toArray, List.set_cons_zero, List.set_cons_succ]
          refine' wpAnyH_take (i := 3) (oi := _) (v := ?v23) rfl (by as_aux_lemma => kernel_rfl) (by as_aux_lemma => kernel_rfl) (by as_aux_lemma => kernel_rfl) (fun _ _ _ h => h) (Or.inl ⟨by rfl, ?y23⟩) hH0 ?r23
          case y23 => (intro w hSw; (try dsimp only at hSw); go_simp; (try with_reducible rfl))
          try simp only [Act.put, List.getElem_toArray, List.getElem_cons_succ, List.getElem_cons_zero, List.setIfInBounds_toArray, List.set_cons_zero, List.set_cons_succ]
          refine' wpAnyH_take (i := 4) (oi := _) (v := ?v24) rfl (by as_aux_lemma => kernel_rfl) (by as_aux_lemma => kernel_rfl) (by as_aux_lemma => kernel_rfl) (fun _ _ _ h => h) (Or.inl ⟨by rfl, ?y24⟩) hH0 ?r24
          case y24 => (intro w hSw; (try dsimp only at hSw); go_simp; (try with_reducible rfl))
          try simp only [Act.put, List.getElem_toArray, List.getElem_cons_succ, List.getElem_cons_zero, List.setIfInBounds_toArray, List.set_cons_zero, List.set_cons_succ]
          refine' wpAnyH_take (i := 5) (oi := _) (v := ?v25) rfl (by as_aux_lemma => kernel_rfl) (by as_aux_lemma => kernel_rfl) (by as_aux_lemma => kernel_rfl) (fun _ _ _ h => h) (Or.inl ⟨by rfl, ?y25⟩) hH0 ?r25
          case y25 => (intro w hSw; (try dsimp only at hSw); go_simp; (try with_reducible rfl))
          try simp only [Act.put, List.getElem_toArray, List.getElem_cons_succ, List.getElem_cons_zero, List.setIfInBounds_toArray, List.set_cons_zero, List.set_cons_succ]
          refine' wpAnyH_take (i := 6) (oi := _) (v := ?v26) rfl (by as_aux_lemma => kernel_rfl) (by as_aux_lemma => kernel_rfl) (by as_aux_lemma => kernel_rfl) (fun _ _ _ h => h) (Or.inl ⟨by rfl, ?y26⟩) hH0 ?r26
          case y26 => (intro w hSw; (try dsimp only at hSw); go_simp; (try with_reducible rfl))
          try simp only [Act.put, List.getElem_toArray, List.getElem_cons_succ, List.getElem_cons_zero, List.setIfInBounds_toArray, List.set_cons_zero, List.set_cons_succ]
          refine wpAnyH_ready (rs := [7]) (by as_aux_lemma => kernel_rfl) (by simp) ?_
          refine AllReadyH.cons (o := _) rfl (fun K hK => ?_) AllReadyH.nil
          go_simp
          refine (HU.out _ (RowS.keepB HRK.out (Below.drew (start _)) HSZ.out)).mono ?_
          rintro e w3 ⟨rfl, hb⟩
          replace hown := OwnS.keep hown (andthen (start _).drew hb)
          replace hbz := andthen hbz (andthen (start _).drew hb)
          refine hK.out _ _ (kL (by first | exact Or.inl rfl | exact Or.inr rfl) hb hH0) (fun hN => ?_)
          clear hK K hH0
          have hH1 := hN
          clear hN
          try simp only [Act.put, List.getElem_toArray, List.getElem_cons_succ, List.getElem_cons_zero, List.setIfInBounds_toArray, List.set_cons_zero, List.set_cons_succ]
          refine wpAnyH_ready (rs := [8]) (by as_aux_lemma => kernel_rfl) (by simp) ?_
          refine AllReadyH.cons (o := _) rfl (fun K hK => ?_) AllReadyH.nil
          go_simp
          refine hK.out _ _ (kL (by first | exact Or.inl rfl | exact Or.inr rfl) (more (start _) _) hH1) (fun hN => ?_)
          clear hK K hH1
          have hH2 := hN
          clear hN
          try simp only [Act.put, List.getElem_toArray, List.getElem_cons_succ, List.getElem_cons_zero, List.setIfInBounds_toArray, List.set_cons_zero, List.set_cons_succ]
          refine wpAnyH_ready (rs := [9]) (by as_aux_lemma => kernel_rfl) (by simp) ?_
          refine AllReadyH.cons (o := _) rfl (fun K hK => ?_) AllReadyH.nil
          refine step_atS (l := done) (k := [LN]) rfl _ _ rfl rfl rfl rfl (one_cell _ _) (hown.alloc _) (Nat.le_trans hbz.size (more (start w3) _).size) HLN.out (by simp) ?_
          intro v9 w9 hown9 hb
          have hb9 := hbz.trans (((Below.refl _ w3).alloc hbz.size _).trans hb)
          refine hK.out _ _ (kL (by first | exact Or.inl rfl | exact Or.inr rfl) hb hH2) (fun hN => ?_)
          clear hK K hH2
          have hH3 := hN
          clear hN
          try simp only [Act.put, List.getElem_toArray, List.getElem_cons_succ, List.getElem_cons_zero, List.setIfInBounds_toArray, List.set_cons_zero, List.set_cons_succ]
          refine' wpAnyH_take (i := 10) (oi := _) (v := ?v27) rfl (by as_aux_lemma => kernel_rfl) (by as_aux_lemma => kernel_rfl) (by as_aux_lemma => kernel_rfl) (fun _ _ _ h => h) (Or.inl ⟨by rfl, ?y27⟩) hH3 ?r27
          case y27 => (intro w hSw; (try dsimp only at hSw); go_simp; (try with_reducible rfl))
          try simp only [Act.put, List.getElem_toArray, List.getElem_cons_succ, List.getElem_cons_zero, List.setIfInBounds_toArray, List.set_cons_zero, List.set_cons_succ]
          refine wpAnyH_done (by as_aux_lemma => kernel_rfl) ?_ _
          have HO9 := hide hown9
          have HB9 := hide hb9
          clear hH3 hown hbz hown9 hb9 hb
          have hz0 : q.drop k = [] := List.drop_eq_nil_of_le (by rw [HM.out]; exact Nat.le_refl _)
          rw [hz0] at HND HLD
          have HNZ := hide HND.out
          have HLZ := hide HLD.out
          clear HND HLD hz0
          go_wp2_with fail
          all_goals
            go_roundg 0
            case measure => omega
            case rel => exact ⟨_, _, [], done ++ [LN], rfl, rfl, hide (RowS.nil _ _), hide (Nat.zero_le _), HO9.out, HNZ, HLZ, HB9.out⟩

set_option maxHeartbeats 400000 in
theorem unfold_any (s : ByteArray) (w : World) (he : Env w) (hs : s.size ≤ 100000) :
    Calls Tryd.prog 5 #[.string s] w (GivesS w (unfoldE s.data.toList)) := by
  have HS := hide (splitEnds_any s w he (by omega))
  have hl1 := split_len s.data.toList
  have hl2 := fin_len (Lib.split s.data.toList crlf)
  have hl3 := split_flat_len s.data.toList
  have hl4 := fin_flat (Lib.split s.data.toList crlf)
  rw [len_of] at hl1 hl3
  have HL : Hid ((fin (Lib.split s.data.toList crlf)).length ≤ 200000 ∧ (fin (Lib.split s.data.toList crlf)).flatten.length ≤ 200000) := hide ⟨by omega, by omega⟩
  have HE : Hid (unfoldE s.data.toList = grp (fin (Lib.split s.data.toList crlf))) := hide (by unfold unfoldE; rw [lines_grp])
  rw [HE.out]
  generalize fin (Lib.split s.data.toList crlf) = ps at *
  clear hl1 hl2 hl3 hl4 he hs HE
  go_enter Tryd.func5, Tryd.ntmps5
  go_wp2_with fail
  refine (HS.out).mono ?_
  rintro e w1 ⟨A, cap, rfl, hrow, hcap, hb1⟩
  have HB1 := hide hb1
  have HLN := hide (lines_any A _ cap ps w1 hrow rfl hcap HL.out.1 HL.out.2)
  clear hrow hcap hb1
  go_wp2_with fail
  refine (HLN.out).mono ?_
  rintro e w2 ⟨v, rfl, hown, hb2⟩
  have HO := hide (OwnS.low hown HB1.out.size)
  have HB2 := hide (andthen HB1.out hb2)
  clear hown hb2
  go_wp2_with fail
  go_ret
  exact ⟨v, rfl, HO.out, HB2.out⟩

end Go.Proofs.YtojhajlhbhkddaaDoor

/- ScW; ScX; ScY of the recipes, what is needed of them. -/
import Derived.Lib.OthersKept
import Derived.Laws.OwnMore
import Derived.Maps.AppendAt
import Derived.Deep.RegionHeld3
import Derived.Test.YtlmdceeeahnkcaaGreatDoorZQ5
import Derived.Test.YtlmdceeeahnkcaaGreatDoorZQ2
namespace Go.Proofs.YtlmdceeeahnkcaaGreatDoor
open Go.RowKit Rul Rt Go.Sort Sc

/-- what a writer's steps leave as it was: all below B, and all blocks but its own and rows of texts. -/
structure FW (B X : Nat) (w w' : World) : Prop where
  below : Below B w w'
  oth : Lib.OthersKept 9 (some X) w w'
theorem FW.refl (B X : Nat) (w : World) : FW B X w w := ⟨Below.refl _ _, Lib.OthersKept.refl _ _ _⟩
theorem FW.trans {B X : Nat} {a b c : World} (h : FW B X a b) (k : FW B X b c) : FW B X a c := ⟨h.below.trans k.below, h.oth.trans k.oth⟩
theorem FW.of {B X : Nat} {w w' : World} (h : Below w.heap.size w w') (hB : B ≤ w.heap.size) : FW B X w w' :=
  ⟨h.mono hB, fun k o hk _ _ => by
    have hlt : k < w.heap.size := (Array.getElem?_eq_some_iff.1 hk).1
    rw [h.block k hlt]; exact hk⟩
theorem FW.alloc {B X : Nat} {a w : World} (h : FW B X a w) (hB : B ≤ w.heap.size) (o : Obj) : FW B X a (w.alloc o) := h.trans (FW.of (more (start w) o) hB)
theorem FW.drew {B X : Nat} {a w : World} (h : FW B X a w) (hB : B ≤ w.heap.size) : FW B X a w.drew := h.trans (FW.of (start w).drew hB)
theorem FW.size {B X : Nat} {a w : World} (h : FW B X a w) : a.heap.size ≤ w.heap.size := h.below.size
/-- a block that is neither. -/
theorem FW.cell {B X : Nat} {a w : World} (h : FW B X a w) {k : Nat} {c : Array Value} {e : TypeId} {z : Nat × Nat} (hk : a.heap[k]? = some (.cells c e z)) (hX : k ≠ X) (he : e ≠ 9) (j : Nat) : w.cell? ⟨k, j, none⟩ = a.cell? ⟨k, j, none⟩ := by
  have h1 := h.oth k _ hk (fun e => hX (Option.some.inj e)) (fun c' fz e1 => by cases e1; exact he rfl)
  unfold World.cell?
  simp only [h1, hk]
/-- the writer. -/
structure Wr (B X : Nat) (w : World) (l : List Tx) : Prop where
  env : EnvB B w
  le : B ≤ X
  lt : X < w.heap.size
  row : ∃ v, w.cell? ⟨X, 0, none⟩ = some v ∧ OwnS w (X + 1) v l
  free : w.frozen? ⟨X, 0, none⟩ = false
theorem Wr.keep {B X : Nat} {w w' : World} {l : List Tx} (h : Wr B X w l) (hb : Below w.heap.size w w') : Wr B X w' l := by
  obtain ⟨v, h1, h2⟩ := h.row
  exact ⟨h.env.on (hb.mono (Nat.le_of_lt (Nat.lt_of_le_of_lt h.le h.lt))), h.le, Nat.lt_of_lt_of_le h.lt hb.size, ⟨v, cell_keep hb h1, OwnS.keep h2 hb⟩, (hb.frozen (p := ⟨X, 0, none⟩) h.lt).trans h.free⟩
theorem Wr.big {B X : Nat} {w : World} {l : List Tx} (h : Wr B X w l) : B ≤ w.heap.size := Nat.le_of_lt (Nat.lt_of_le_of_lt h.le h.lt)

theorem step_atW {ops : Array Oper} {o : Oper} {a : Act} {K : Act → World → Prop} {Q : Exit → Act → World → Prop} {E : Prop} {w : World} {B : Nat} {v : Value} {l k : List Tx} (hgd : o.guard = none) (s x : Operand)
    (ho : o.op = .call { callee := .builtin .append, args := #[s, x], argTypes := #[76, 76] }) (hs : a.eval s = v) {b off m c : Nat} (hx : a.eval x = .slice (some ⟨b, off, none⟩) m c) (hm : m = k.length)
    (hrow : ∀ i (h : i < k.length), w.cell? ⟨b, off + i, none⟩ = some (.string (str k[i])))
    (hown : OwnS w B v l) (hB : B ≤ w.heap.size) (hn : l.length ≤ 1000000) (hk : k.length ≤ 1000000)
    (h : ∀ v' w', OwnS w' B v' (l ++ k) → Below B w w' → (∀ X, Lib.OthersKept 9 (some X) w w') → K (a.put o.dst v') w') :
    if Region.wanted o (yielded ops a.tmps) = true then Oper.wp Tryz.prog o a w K Q else E := by
  have hw : Region.wanted o (yielded ops a.tmps) = true := by simp [Region.wanted, hgd]
  rw [if_pos hw]
  subst hm
  obtain ⟨i0, hi, hz0, hz1, hz2⟩ := info_parts string_info
  have hnews : ∀ j u, (cellsS k)[j]? = some u → w.cell? ((⟨b, off, none⟩ : Addr).add j) = some u := by
    intro j u hu
    have hadd : (⟨b, off, none⟩ : Addr).add j = ⟨b, off + j, none⟩ := by unfold Addr.add; split <;> simp_all
    rw [hadd]
    unfold cellsS at hu
    rw [List.getElem?_map, Option.map_eq_some_iff] at hu
    obtain ⟨t, ht, rfl⟩ := hu
    obtain ⟨hj, e⟩ := List.getElem?_eq_some_iff.1 ht
    rw [hrow j hj, e]
  obtain ⟨v', w', hr, h2, h3, _, _⟩ := run_append_own_at (P := Tryz.prog) (w := w) B 76 o.type 9 i0 _ 1 16 Tryz.underlying76 hi hz0 hz1 hz2 rfl (by decide) v l.length (cellsS l) hown ⟨b, off, none⟩ k.length c (cellsS k) (by simp [cellsS]) hnews (by
    intro u hu
    obtain ⟨t, _, rfl⟩ := List.mem_map.1 hu
    rfl) (by unfold maxLen; omega) (by omega) hB
  unfold Oper.wp execOp
  simp only [ho, resolve, invoke, builtin, Sem.run_bind, Sem.run_pure, Result.andThen_ok, List.map_toArray, List.map_cons, List.map_nil, hs, hx, hr]
  refine h v' w' (by rw [OwnS, cellsS_append, List.length_append]; exact h2) ((Below.refl B w).grown h3 hB fun j hj => (hown.lt j hj).1) fun X => ?_
  refine (Lib.OthersKept.refl _ _ w).grown h3 fun g hg => ?_
  rcases hown.2 with ⟨rfl, _⟩ | ⟨g', cap, cur, rfl, _, hc, _⟩
  · cases hg
  · cases hg; exact ⟨_, _, hc⟩
theorem ownS_slice {w : World} {B : Nat} {v : Value} {l : List Tx} (h : OwnS w B v l) : ∃ A n c, v = .slice A n c := by
  obtain ⟨A, c, e, _, _⟩ := OwnS.row h; exact ⟨A, _, c, e⟩
theorem one_cell (w : World) (t : Tx) : ∀ i (h : i < [t].length), (w.alloc (.cells #[.string (str t)] 9)).cell? ⟨w.heap.size, 0 + i, none⟩ = some (.string (str [t][i])) := fun i hi => by
  obtain rfl : i = 0 := by simpa using hi
  rw [World.cell?_alloc_at _ _ _ _ rfl]; rfl
theorem ownS_set {w : World} {B : Nat} {v : Value} {l : List Tx} (h : OwnS w B v l) (g r : Nat) (u : Value) (hg : g < B) : OwnS (w.setCell ⟨g, r, none⟩ u) B v l :=
  have hb := Below.setCell (Below.refl g w) (p := ⟨g, r, none⟩) (Nat.le_refl g) u
  World.ownsRow.kept (row := some g) h ⟨hb.os, hb.tape, hb.output, hb.size, fun i _ hne => Below.heap_setCell w _ u i (fun e => hne (by rw [e]))⟩ (by
    cases hv : v.ownBlock with
    | none => exact .inl rfl
    | some k => right; intro e; injection e with e; have := (World.ownsRow.lt h k hv).1; omega)

theorem wr_step {B X : Nat} {wr w2 w9 : World} {l : List Tx} {t : Tx} {v v9 : Value} {o : Obj} (hw : Wr B X wr l) (h2 : Below wr.heap.size wr w2) (h9 : Below (X + 1) (w2.alloc o) w9) (ho : OwnS w9 (X + 1) v9 (l ++ [t]))
    (hv : w9.cell? ⟨X, 0, none⟩ = some v) (hf : w9.frozen? ⟨X, 0, none⟩ = false) (hot : Lib.OthersKept 9 (some X) (w2.alloc o) w9) :
    Wr B X (w9.setCell ⟨X, 0, none⟩ v9) (l ++ [t]) ∧ FW B X wr (w9.setCell ⟨X, 0, none⟩ v9) := by
  have hX := Nat.lt_of_lt_of_le hw.lt h2.size
  have hB : B ≤ w2.heap.size := Nat.le_trans hw.le (Nat.le_of_lt hX)
  have f1 : FW B X wr (w2.alloc o) := (FW.of h2 hw.big).alloc hB o
  have hle := hw.le
  have f2 : FW B X (w2.alloc o) w9 := ⟨h9.mono (by omega), hot⟩
  have f3 : FW B X w9 (w9.setCell ⟨X, 0, none⟩ v9) := ⟨Below.setCell (Below.refl _ _) (p := ⟨X, 0, none⟩) hle v9, (Lib.OthersKept.refl _ _ _).setCell ⟨X, 0, none⟩ rfl v9⟩
  have f := (f1.trans f2).trans f3
  refine ⟨⟨hw.env.on f.below, hw.le, Nat.lt_of_lt_of_le hw.lt f.size, ⟨v9, World.cell?_setCell_same _ _ _ hv, ownS_set ho X 0 v9 (Nat.lt_succ_self X)⟩, ?_⟩, f⟩
  rw [World.frozen?_setCell]; exact hf
set_option maxRecDepth 100000 in
set_option maxHeartbeats 1600000 in
set_option linter.unusedSimpArgs false in
theorem put_any (B X : Nat) (ns : List Int) (A : Option Addr) (n c : Nat) (l : List Tx) (w : World) (h : Wr B X w l) (hr : ∀ w', FW B X w w' → RowI w' A ns) (hn : n = ns.length) (hi : ∀ x ∈ ns, in64 x) (hsz : ns.length ≤ 20000) (hl : l.length + ns.length ≤ 100000) :
    Calls Tryz.prog 41 #[.pointer (some ⟨X, 0, none⟩), .slice A n c] w (fun e w' => e = .returned (.tuple #[]) ∧ Wr B X w' (l ++ ns.map Lib.itoa) ∧ FW B X w w') := by
  subst hn
  have HR := hide hr
  have HI := hide hi
  have HS := hide hsz
  have HL := hide hl
  have HW := hide h
  have HB := hide h.big
  clear hr hi hl h
  go_enter Tryz.func41, Tryz.ntmps41
  go_wp2_with fail
  go_loopw [8] (fun i wr => ∃ k : Nat, k ≤ ns.length ∧ i = .int .i64 k ∧ Wr B X wr (l ++ (ns.take k).map Lib.itoa) ∧ FW B X w wr) (fun i _ => ns.length - (intOf i).toNat)
  case atStart => exact ⟨0, Nat.zero_le _, rfl, by simpa using HW.out, FW.refl _ _ _⟩
  case round =>
    obtain ⟨k, hk, rfl, hw, hf⟩ := hrel
    have HWr := hide hw
    have HF := hide hf
    clear hw hf
    by_cases hlt : k < ns.length
    · obtain ⟨x, hx⟩ : ∃ x, ns[k] = x := ⟨_, rfl⟩
      have hnn : ns ≠ [] := fun e => by subst e; exact absurd hlt (Nat.not_lt_zero _)
      obtain ⟨b1, o1, rfl, hb1, hc1⟩ := HR.out wr HF.out hnn
      have p1 : wr.cell? ⟨b1, o1 + k, none⟩ = some (.int .i64 x) := by rw [← hx]; exact hc1 k hlt
      have HX := hide (HI.out x (by rw [← hx]; exact List.getElem_mem _))
      have HT := hide (show (ns.take (k + 1)).map Lib.itoa = (ns.take k).map Lib.itoa ++ [Lib.itoa x] by rw [List.take_add_one, List.getElem?_eq_getElem hlt, hx]; simp)
      have hi0 : (0 : Int) ≤ (k : Int) := by omega
      have hi1 : (k : Int) < (ns.length : Int) := by omega
      obtain ⟨v, hv, ho⟩ := HWr.out.row
      have hfr := HWr.out.free
      have HO := hide ho
      have HE := hide HWr.out.env
      have HXL := hide HWr.out.lt
      have HXB := hide HWr.out.le
      have HWB := hide HWr.out.big
      clear hx hnn hc1 ho
      go_wp2_with fail
      refine wp_region_held_drew (S := fun _ => True) (by kernel_rfl) ?_ (fun hH0 => ?_)
      · exact trivial
      refine' wpAnyH_take (i := 0) (oi := _) (v := ?v0) rfl (by as_aux_lemma => kernel_rfl) (by as_aux_lemma => kernel_rfl) (by as_aux_lemma => kernel_rfl) (fun _ _ _ h => h) (Or.inl ⟨by rfl, ?y0⟩) hH0 ?r0
      case y0 => (intro w hSw; (try dsimp only at hSw); go_simp; (try with_reducible rfl))
      try simp only [Act.put, List.getElem_toArray, List.getElem_cons_succ, List.getElem_cons_zero, List.setIfInBounds_toArray, List.set_cons_zero, List.set_cons_succ]
      refine' wpAnyH_take (i := 1) (oi := _) (v := ?v1) rfl (by as_aux_lemma => kernel_rfl) (by as_aux_lemma => kernel_rfl) (by as_aux_lemma => kernel_rfl) (fun _ _ _ h => h) (Or.inl ⟨by rfl, ?y1⟩) hH0 ?r1
      case y1 => (intro w hSw; (try dsimp only at hSw); go_simp; (try with_reducible rfl))
      try simp only [Act.put, List.getElem_toArray, List.getElem_cons_succ, List.getElem_cons_zero, List.setIfInBounds_toArray, List.set_cons_zero, List.set_cons_succ]
      refine' wpAnyH_take (i := 2) (oi := _) (v := ?v2) rfl (by as_aux_lemma => kernel_rfl) (by as_aux_lemma => kernel_rfl) (by as_aux_lemma => kernel_rfl) (fun _ _ _ h => h) (Or.inl ⟨by rfl, ?y2⟩) hH0 ?r2
      case y2 => (intro w hSw; (try dsimp only at hSw); go_simp; (try with_reducible rfl))
      try simp only [Act.put, List.getElem_toArray, List.getElem_cons_succ, List.getElem_cons_zero, List.setIfInBounds_toArray, List.set_cons_zero, List.set_cons_succ]
      refine' wpAnyH_take (i := 3) (oi := _) (v := ?v3) rfl (by as_aux_lemma => kernel_rfl) (by as_aux_lemma => kernel_rfl) (by as_aux_lemma => kernel_rfl) (fun _ _ _ h => h) (Or.inl ⟨by rfl, ?y3⟩) hH0 ?r3
      case y3 => (intro w hSw; (try dsimp only at hSw); go_simp; (try with_reducible rfl))
      try simp only [Act.put, List.getElem_toArray, List.getElem_cons_succ, List.getElem_cons_zero, List.setIfInBounds_toArray, List.set_cons_zero, List.set_cons_succ]
      refine' wpAnyH_take (i := 5) (oi := _) (v := ?v4) rfl (by as_aux_lemma => kernel_rfl) (by as_aux_lemma => kernel_rfl) (by as_aux_lemma => kernel_rfl) (fun _ _ _ h => h) (Or.inl ⟨by rfl, ?y4⟩) hH0 ?r4
      case y4 => (intro w hSw; (try dsimp only at hSw); go_simp; (try with_reducible rfl))
      try simp only [Act.put, List.getElem_toArray, List.getElem_cons_succ, List.getElem_cons_zero, List.setIfInBounds_toArray, List.set_cons_zero, List.set_cons_succ]
      refine wpAnyH_ready (rs := [4, 6]) (by as_aux_lemma => kernel_rfl) (by simp) ?_
      refine AllReadyH.cons (o := _) rfl (fun K hK => ?_) (AllReadyH.cons (o := _) rfl (fun K hK => ?_) AllReadyH.nil)
      · go_simp
        refine hK.out _ _ (trivial) (fun hN => ?_)
        clear hK K hH0
        have hH1 := hN
        clear hN
        try simp only [Act.put, List.getElem_toArray, List.getElem_cons_succ, List.getElem_cons_zero, List.setIfInBounds_toArray, List.set_cons_zero, List.set_cons_succ]
        refine wpAnyH_ready (rs := [6]) (by as_aux_lemma => kernel_rfl) (by simp) ?_
        refine AllReadyH.cons (o := _) rfl (fun K hK => ?_) AllReadyH.nil
        go_simp
        refine (itoa_all x _ HX.out (HE.out.env.below (B := wr.heap.size) (Below.drew (start _)) (Nat.le_refl _)).tab).mono ?_
        rintro e w2 ⟨rfl, hb⟩
        have hb2 : Below wr.heap.size wr w2 := (Below.drew (start _)).trans hb
        have hv2 := cell_keep hb2 hv
        have hfr2 := (hb2.frozen (p := ⟨X, 0, none⟩) HXL.out).trans hfr
        have HO2 := hide (OwnS.keep HO.out hb2)
        have HB2 := hide hb2
        clear hb2
        refine hK.out _ _ (trivial) (fun hN => ?_)
        clear hK K hH1
        have hH2 := hN
        clear hN
        try simp only [Act.put, List.getElem_toArray, List.getElem_cons_succ, List.getElem_cons_zero, List.setIfInBounds_toArray, List.set_cons_zero, List.set_cons_succ]
        refine wpAnyH_ready (rs := [7]) (by as_aux_lemma => kernel_rfl) (by simp) ?_
        refine AllReadyH.cons (o := _) rfl (fun K hK => ?_) AllReadyH.nil
        go_simp
        have hv3 : (w2.alloc (.cells #[.string (str (Lib.itoa x))] 9)).cell? ⟨X, 0, none⟩ = some v := cell_keep (more (start _) _) hv2
        have hfr3 := ((more (start w2) (.cells #[.string (str (Lib.itoa x))] 9)).frozen (p := ⟨X, 0, none⟩) (Nat.lt_of_lt_of_le HXL.out HB2.out.size)).trans hfr2
        refine hK.out _ _ (trivial) (fun hN => ?_)
        clear hK K hH2
        have hH3 := hN
        clear hN
        try simp only [Act.put, List.getElem_toArray, List.getElem_cons_succ, List.getElem_cons_zero, List.setIfInBounds_toArray, List.set_cons_zero, List.set_cons_succ]
        refine wpAnyH_ready (rs := [8]) (by as_aux_lemma => kernel_rfl) (by simp) ?_
        refine AllReadyH.cons (o := _) rfl (fun K hK => ?_) AllReadyH.nil
        refine step_atW (l := l ++ (ns.take k).map Lib.itoa) (k := [Lib.itoa x]) rfl _ _ rfl rfl rfl rfl (one_cell _ _) (HO2.out.alloc _) (Nat.le_trans (Nat.succ_le_of_lt (Nat.lt_of_lt_of_le HXL.out HB2.out.size)) (more (start w2) _).size) (by rw [List.length_append, List.length_map, List.length_take]; have := HL.out; omega) (by simp) ?_
        intro v9 w9 hown9 hb hot9
        obtain ⟨A9, n9, c9, rfl⟩ := ownS_slice hown9
        have hv9 := (hb.cell (p := ⟨X, 0, none⟩) (Nat.lt_succ_self X)).trans hv3
        have hfr9 := (hb.frozen (p := ⟨X, 0, none⟩) (Nat.lt_succ_self X)).trans hfr3
        have HO9 := hide hown9
        have HT9 := hide hot9
        have HB9 := hide hb
        clear hown9 hot9
        refine hK.out _ _ (trivial) (fun hN => ?_)
        clear hK K hH3
        have hH4 := hN
        clear hN
        try simp only [Act.put, List.getElem_toArray, List.getElem_cons_succ, List.getElem_cons_zero, List.setIfInBounds_toArray, List.set_cons_zero, List.set_cons_succ]
        refine' wpAnyH_take (i := 9) (oi := _) (v := ?v5) rfl (by as_aux_lemma => kernel_rfl) (by as_aux_lemma => kernel_rfl) (by as_aux_lemma => kernel_rfl) (fun _ _ _ h => h) (Or.inl ⟨by rfl, ?y5⟩) hH4 ?r5
        case y5 => (intro w hSw; (try dsimp only at hSw); go_simp; (try with_reducible rfl))
        try simp only [Act.put, List.getElem_toArray, List.getElem_cons_succ, List.getElem_cons_zero, List.setIfInBounds_toArray, List.set_cons_zero, List.set_cons_succ]
        refine' wpAnyH_take (i := 10) (oi := _) (v := ?v6) rfl (by as_aux_lemma => kernel_rfl) (by as_aux_lemma => kernel_rfl) (by as_aux_lemma => kernel_rfl) (fun _ _ _ h => h) (Or.inl ⟨by rfl, ?y6⟩) hH4 ?r6
        case y6 => (intro w hSw; (try dsimp only at hSw); go_simp; (try with_reducible rfl))
        try simp only [Act.put, List.getElem_toArray, List.getElem_cons_succ, List.getElem_cons_zero, List.setIfInBounds_toArray, List.set_cons_zero, List.set_cons_succ]
        refine wpAnyH_ready (rs := [11]) (by as_aux_lemma => kernel_rfl) (by simp) ?_
        refine AllReadyH.cons (o := _) rfl (fun K hK => ?_) AllReadyH.nil
        go_simp
        refine hK.out _ _ (trivial) (fun hN => ?_)
        clear hK K hH4
        have hH5 := hN
        clear hN
        try simp only [Act.put, List.getElem_toArray, List.getElem_cons_succ, List.getElem_cons_zero, List.setIfInBounds_toArray, List.set_cons_zero, List.set_cons_succ]
        refine wpAnyH_done (by as_aux_lemma => kernel_rfl) ?_ _
        have HN := hide (wr_step HWr.out HB2.out HB9.out HO9.out hv9 hfr9 (HT9.out X))
        clear hv hfr hv2 hfr2 hv3 hfr3 hv9 hfr9 hb HO HO2 HB2 HO9 HT9 HB9
        go_wp2_with fail
        go_roundw
        case rel => exact ⟨k + 1, by omega, by go_num, by rw [HT.out, ← List.append_assoc]; exact HN.out.1, HF.out.trans HN.out.2⟩
        case measure => simp [intOf]; omega
      · go_simp
        refine (itoa_all x _ HX.out (HE.out.env.below (B := wr.heap.size) (Below.drew (start _)) (Nat.le_refl _)).tab).mono ?_
        rintro e w2 ⟨rfl, hb⟩
        have hb2 : Below wr.heap.size wr w2 := (Below.drew (start _)).trans hb
        have hv2 := cell_keep hb2 hv
        have hfr2 := (hb2.frozen (p := ⟨X, 0, none⟩) HXL.out).trans hfr
        have HO2 := hide (OwnS.keep HO.out hb2)
        have HB2 := hide hb2
        clear hb2
        refine hK.out _ _ (trivial) (fun hN => ?_)
        clear hK K hH0
        have hH1 := hN
        clear hN
        try simp only [Act.put, List.getElem_toArray, List.getElem_cons_succ, List.getElem_cons_zero, List.setIfInBounds_toArray, List.set_cons_zero, List.set_cons_succ]
        refine wpAnyH_ready (rs := [4, 7]) (by as_aux_lemma => kernel_rfl) (by simp) ?_
        refine AllReadyH.cons (o := _) rfl (fun K hK => ?_) (AllReadyH.cons (o := _) rfl (fun K hK => ?_) AllReadyH.nil)
        · go_simp
          refine hK.out _ _ (trivial) (fun hN => ?_)
          clear hK K hH1
          have hH2 := hN
          clear hN
          try simp only [Act.put, List.getElem_toArray, List.getElem_cons_succ, List.getElem_cons_zero, List.setIfInBounds_toArray, List.set_cons_zero, List.set_cons_succ]
          refine wpAnyH_ready (rs := [7]) (by as_aux_lemma => kernel_rfl) (by simp) ?_
          refine AllReadyH.cons (o := _) rfl (fun K hK => ?_) AllReadyH.nil
          go_simp
          have hv3 : (w2.alloc (.cells #[.string (str (Lib.itoa x))] 9)).cell? ⟨X, 0, none⟩ = some v := cell_keep (more (start _) _) hv2
          have hfr3 := ((more (start w2) (.cells #[.string (str (Lib.itoa x))] 9)).frozen (p := ⟨X, 0, none⟩) (Nat.lt_of_lt_of_le HXL.out HB2.out.size)).trans hfr2
          refine hK.out _ _ (trivial) (fun hN => ?_)
          clear hK K hH2
          have hH3 := hN
          clear hN
          try simp only [Act.put, List.getElem_toArray, List.getElem_cons_succ, List.getElem_cons_zero, List.setIfInBounds_toArray, List.set_cons_zero, List.set_cons_succ]
          refine wpAnyH_ready (rs := [8]) (by as_aux_lemma => kernel_rfl) (by simp) ?_
          refine AllReadyH.cons (o := _) rfl (fun K hK => ?_) AllReadyH.nil
          refine step_atW (l := l ++ (ns.take k).map Lib.itoa) (k := [Lib.itoa x]) rfl _ _ rfl rfl rfl rfl (one_cell _ _) (HO2.out.alloc _) (Nat.le_trans (Nat.succ_le_of_lt (Nat.lt_of_lt_of_le HXL.out HB2.out.size)) (more (start w2) _).size) (by rw [List.length_append, List.length_map, List.length_take]; have := HL.out; omega) (by simp) ?_
          intro v9 w9 hown9 hb hot9
          obtain ⟨A9, n9, c9, rfl⟩ := ownS_slice hown9
          have hv9 := (hb.cell (p := ⟨X, 0, none⟩) (Nat.lt_succ_self X)).trans hv3
          have hfr9 := (hb.frozen (p := ⟨X, 0, none⟩) (Nat.lt_succ_self X)).trans hfr3
          have HO9 := hide hown9
          have HT9 := hide hot9
          have HB9 := hide hb
          clear hown9 hot9
          refine hK.out _ _ (trivial) (fun hN => ?_)
          clear hK K hH3
          have hH4 := hN
          clear hN
          try simp only [Act.put, List.getElem_toArray, List.getElem_cons_succ, List.getElem_cons_zero, List.setIfInBounds_toArray, List.set_cons_zero, List.set_cons_succ]
          refine' wpAnyH_take (i := 9) (oi := _) (v := ?v7) rfl (by as_aux_lemma => kernel_rfl) (by as_aux_lemma => kernel_rfl) (by as_aux_lemma => kernel_rfl) (fun _ _ _ h => h) (Or.inl ⟨by rfl, ?y7⟩) hH4 ?r7
          case y7 => (intro w hSw; (try dsimp only at hSw); go_simp; (try with_reducible rfl))
          try simp only [Act.put, List.getElem_toArray, List.getElem_cons_succ, List.getElem_cons_zero, List.setIfInBounds_toArray, List.set_cons_zero, List.set_cons_succ]
          refine' wpAnyH_take (i := 10) (oi := _) (v := ?v8) rfl (by as_aux_lemma => kernel_rfl) (by as_aux_lemma => kernel_rfl) (by as_aux_lemma => kernel_rfl) (fun _ _ _ h => h) (Or.inl ⟨by rfl, ?y8⟩) hH4 ?r8
          case y8 => (intro w hSw; (try dsimp only at hSw); go_simp; (try with_reducible rfl))
          try simp only [Act.put, List.getElem_toArray, List.getElem_cons_succ, List.getElem_cons_zero, List.setIfInBounds_toArray, List.set_cons_zero, List.set_cons_succ]
          refine wpAnyH_ready (rs := [11]) (by as_aux_lemma => kernel_rfl) (by simp) ?_
          refine AllReadyH.cons (o := _) rfl (fun K hK => ?_) AllReadyH.nil
          go_simp
          refine hK.out _ _ (trivial) (fun hN => ?_)
          clear hK K hH4
          have hH5 := hN
          clear hN
          try simp only [Act.put, List.getElem_toArray, List.getElem_cons_succ, List.getElem_cons_zero, List.setIfInBounds_toArray, List.set_cons_zero, List.set_cons_succ]
          refine wpAnyH_done (by as_aux_lemma => kernel_rfl) ?_ _
          have HN := hide (wr_step HWr.out HB2.out HB9.out HO9.out hv9 hfr9 (HT9.out X))
          clear hv hfr hv2 hfr2 hv3 hfr3 hv9 hfr9 hb HO HO2 HB2 HO9 HT9 HB9
          go_wp2_with fail
          go_roundw
          case rel => exact ⟨k + 1, by omega, by go_num, by rw [HT.out, ← List.append_assoc]; exact HN.out.1, HF.out.trans HN.out.2⟩
          case measure => simp [intOf]; omega
        · go_simp
          have hv3 : (w2.alloc (.cells #[.string (str (Lib.itoa x))] 9)).cell? ⟨X, 0, none⟩ = some v := cell_keep (more (start _) _) hv2
          have hfr3 := ((more (start w2) (.cells #[.string (str (Lib.itoa x))] 9)).frozen (p := ⟨X, 0, none⟩) (Nat.lt_of_lt_of_le HXL.out HB2.out.size)).trans hfr2
          refine hK.out _ _ (trivial) (fun hN => ?_)
          clear hK K hH1
          have hH2 := hN
          clear hN
          try simp only [Act.put, List.getElem_toArray, List.getElem_cons_succ, List.getElem_cons_zero, List.setIfInBounds_toArray, List.set_cons_zero, List.set_cons_succ]
          refine wpAnyH_ready (rs := [4]) (by as_aux_lemma => kernel_rfl) (by simp) ?_
          refine AllReadyH.cons (o := _) rfl (fun K hK => ?_) AllReadyH.nil
          go_simp
          refine hK.out _ _ (trivial) (fun hN => ?_)
          clear hK K hH2
          have hH3 := hN
          clear hN
          try simp only [Act.put, List.getElem_toArray, List.getElem_cons_succ, List.getElem_cons_zero, List.setIfInBounds_toArray, List.set_cons_zero, List.set_cons_succ]
          refine wpAnyH_ready (rs := [8]) (by as_aux_lemma => kernel_rfl) (by simp) ?_
          refine AllReadyH.cons (o := _) rfl (fun K hK => ?_) AllReadyH.nil
          refine step_atW (l := l ++ (ns.take k).map Lib.itoa) (k := [Lib.itoa x]) rfl _ _ rfl rfl rfl rfl (one_cell _ _) (HO2.out.alloc _) (Nat.le_trans (Nat.succ_le_of_lt (Nat.lt_of_lt_of_le HXL.out HB2.out.size)) (more (start w2) _).size) (by rw [List.length_append, List.length_map, List.length_take]; have := HL.out; omega) (by simp) ?_
          intro v9 w9 hown9 hb hot9
          obtain ⟨A9, n9, c9, rfl⟩ := ownS_slice hown9
          have hv9 := (hb.cell (p := ⟨X, 0, none⟩) (Nat.lt_succ_self X)).trans hv3
          have hfr9 := (hb.frozen (p := ⟨X, 0, none⟩) (Nat.lt_succ_self X)).trans hfr3
          have HO9 := hide hown9
          have HT9 := hide hot9
          have HB9 := hide hb
          clear hown9 hot9
          refine hK.out _ _ (trivial) (fun hN => ?_)
          clear hK K hH3
          have hH4 := hN
          clear hN
          try simp only [Act.put, List.getElem_toArray, List.getElem_cons_succ, List.getElem_cons_zero, List.setIfInBounds_toArray, List.set_cons_zero, List.set_cons_succ]
          refine' wpAnyH_take (i := 9) (oi := _) (v := ?v9) rfl (by as_aux_lemma => kernel_rfl) (by as_aux_lemma => kernel_rfl) (by as_aux_lemma => kernel_rfl) (fun _ _ _ h => h) (Or.inl ⟨by rfl, ?y9⟩) hH4 ?r9
          case y9 => (intro w hSw; (try dsimp only at hSw); go_simp; (try with_reducible rfl))
          try simp only [Act.put, List.getElem_toArray, List.getElem_cons_succ, List.getElem_cons_zero, List.setIfInBounds_toArray, List.set_cons_zero, List.set_cons_succ]
          refine' wpAnyH_take (i := 10) (oi := _) (v := ?v10) rfl (by as_aux_lemma => kernel_rfl) (by as_aux_lemma => kernel_rfl) (by as_aux_lemma => kernel_rfl) (fun _ _ _ h => h) (Or.inl ⟨by rfl, ?y10⟩) hH4 ?r10
          case y10 => (intro w hSw; (try dsimp only at hSw); go_simp; (try with_reducible rfl))
          try simp only [Act.put, List.getElem_toArray, List.getElem_cons_succ, List.getElem_cons_zero, List.setIfInBounds_toArray, List.set_cons_zero, List.set_cons_succ]
          refine wpAnyH_ready (rs := [11]) (by as_aux_lemma => kernel_rfl) (by simp) ?_
          refine AllReadyH.cons (o := _) rfl (fun K hK => ?_) AllReadyH.nil
          go_simp
          refine hK.out _ _ (trivial) (fun hN => ?_)
          clear hK K hH4
          have hH5 := hN
          clear hN
          try simp only [Act.put, List.getElem_toArray, List.getElem_cons_succ, List.getElem_cons_zero, List.setIfInBounds_toArray, List.set_cons_zero, List.set_cons_succ]
          refine wpAnyH_done (by as_aux_lemma => kernel_rfl) ?_ _
          have HN := hide (wr_step HWr.out HB2.out HB9.out HO9.out hv9 hfr9 (HT9.out X))
          clear hv hfr hv2 hfr2 hv3 hfr3 hv9 hfr9 hb HO HO2 HB2 HO9 HT9 HB9
          go_wp2_with fail
          go_roundw
          case rel => exact ⟨k + 1, by omega, by go_num, by rw [HT.out, ← List.append_assoc]; exact HN.out.1, HF.out.trans HN.out.2⟩
          case measure => simp [intOf]; omega
    · obtain rfl : k = ns.length := by omega
      have HZ := hide HWr.out
      rw [List.take_length] at HZ
      go_wp2_with fail
      go_end0
      exact ⟨rfl, HZ.out, HF.out⟩
end Go.Proofs.YtlmdceeeahnkcaaGreatDoor
namespace Go.Proofs.YtlmdceeeahnkcaaGreatDoor
open Go.RowKit Rul Rt Go.Sort Sc De Cl

theorem Wr.alloc {B X : Nat} {w : World} {l : List Tx} (h : Wr B X w l) (o : Obj) : Wr B X (w.alloc o) l := h.keep (more (start w) o)
/-- numbers are written, all else is as it was. -/
def Puts (B X : Nat) (w : World) (l : List Tx) (ns : List Int) (e : Ending) (w' : World) : Prop := e = .returned (.tuple #[]) ∧ Wr B X w' (l ++ ns.map Lib.itoa) ∧ FW B X w w'
theorem heap_new (w : World) (o : Obj) : (w.alloc o).heap[w.heap.size]? = some o := by show (w.heap.push o)[w.heap.size]? = _; simp
theorem put_new (B X : Nat) (ns : List Int) (k : Nat) (l : List Tx) (w : World) (cs : Array Value) (h : Wr B X w l) (hcs : cs = (cellsI ns).toArray) (hk : k = ns.length) (hi : Fit ns) (hsz : ns.length ≤ 100) (hl : l.length ≤ 50000) {N : Nat} (hN : w.heap.size = N) :
    Calls Tryz.prog 41 #[.pointer (some ⟨X, 0, none⟩), .slice (some ⟨N, 0, none⟩) k k] (w.alloc (.cells cs 3)) (Puts B X w l ns) := by
  subst hcs
  subst hN
  have hX := h.lt
  refine (put_any B X ns (some ⟨w.heap.size, 0, none⟩) k k l _ (h.alloc _) (fun w' hf hn => ⟨w.heap.size, 0, rfl, Nat.lt_of_lt_of_le (by simp) hf.size, fun i hi => ?_⟩) hk hi (by omega) (by omega)).mono ?_
  · rw [hf.cell (k := w.heap.size) (heap_new w _) (by omega) (by decide) _, Nat.zero_add, World.cell?_alloc_at _ _ _ _ rfl]
    simp [cellsI, hi]
  · rintro e w' ⟨rfl, h1, h2⟩
    exact ⟨rfl, h1, ((FW.refl B X w).alloc h.big _).trans h2⟩
set_option maxRecDepth 100000 in
set_option maxHeartbeats 800000 in
theorem wlist_any (B X : Nat) (ns : List Int) (A : Option Addr) (n c : Nat) (l : List Tx) (w : World) (h : Wr B X w l) (hr : ∀ w', FW B X w w' → RowI w' A ns) (hn : n = ns.length) (hi : Fit ns) (hsz : ns.length ≤ 1000) (hl : l.length ≤ 40000) :
    Calls Tryz.prog 64 #[.pointer (some ⟨X, 0, none⟩), .slice A n c] w (Puts B X w l (seqN oneI ns)) := by
  subst hn
  have HP := hide (put_new B X [(ns.length : Int)] 1 l w #[.int .i64 (ns.length : Int)] h rfl rfl (fit_cons.2 ⟨by unfold in64; omega, fit_nil⟩) (by simp) (by omega) rfl)
  have HQ := hide (fun w1 h1 (hf : FW B X w w1) => put_any B X ns A ns.length c (l ++ [(ns.length : Int)].map Lib.itoa) w1 h1 (fun w' h2 => hr w' (hf.trans h2)) rfl hi (by omega) (by simp; omega))
  have HE := hide (show l ++ [(ns.length : Int)].map Lib.itoa ++ ns.map Lib.itoa = l ++ (seqN oneI ns).map Lib.itoa by unfold seqN; rw [one_flat]; simp)
  clear h hr hi hsz hl
  go_enter Tryz.func64, Tryz.ntmps64
  go_wp2_with fail
  refine HP.out.mono ?_
  rintro e w1 ⟨rfl, h1, f1⟩
  have H1 := hide h1
  have F1 := hide f1
  clear h1 f1
  go_wp2_with fail
  refine (HQ.out w1 H1.out F1.out).mono ?_
  rintro e w2 ⟨rfl, h2, f2⟩
  have H2 := hide h2
  have F2 := hide f2
  clear h2 f2
  go_wp2_with fail
  go_end0
  exact ⟨rfl, HE.out ▸ H2.out, F1.out.trans F2.out⟩
theorem seq_snoc {α : Type} (f : α → List Int) (n : Int) (l : List Tx) (s : List α) (k : Nat) (h : k < s.length) :
    l ++ (n :: (s.take (k + 1)).flatMap f).map Lib.itoa = l ++ (n :: (s.take k).flatMap f).map Lib.itoa ++ (f s[k]).map Lib.itoa := by
  rw [List.take_add_one, List.getElem?_eq_getElem h, Option.toList_some, List.flatMap_append, List.flatMap_singleton]
  simp
theorem seq_room {α : Type} (f : α → List Int) (m : Nat) (hf : ∀ x, (f x).length ≤ m) (n : Int) (l : List Tx) (s : List α) (k : Nat) : (l ++ (n :: (s.take k).flatMap f).map Lib.itoa).length ≤ l.length + 1 + s.length * m := by
  have : ∀ t : List α, (t.flatMap f).length ≤ t.length * m := fun t => by
    induction t with
    | nil => simp
    | cons x t ih => have := hf x; rw [List.flatMap_cons, List.length_append, List.length_cons, Nat.succ_mul]; omega
  have h1 := this (s.take k)
  have h2 : (s.take k).length ≤ s.length := by rw [List.length_take]; omega
  have h3 := Nat.mul_le_mul_right m h2
  rw [List.length_append, List.length_map, List.length_cons]; omega
set_option maxRecDepth 100000 in
set_option maxHeartbeats 800000 in
theorem wtext_any (B X : Nat) (s : Tx) (l : List Tx) (w : World) (h : Wr B X w l) (hsz : s.length ≤ 1000) (hl : l.length ≤ 40000) :
    Calls Tryz.prog 63 #[.pointer (some ⟨X, 0, none⟩), .string (str s)] w (Puts B X w l (seqN bt s)) := by
  have hz : (str s).size = s.length := str_size s
  have HZ := hide hz
  have HSZ := hide hsz
  have HL := hide hl
  have HP := hide (put_new B X [((str s).size : Int)] 1 l w #[.int .i64 ((str s).size : Int)] h rfl rfl (fit_cons.2 ⟨by unfold in64; omega, fit_nil⟩) (by simp) (by omega) rfl)
  clear h hz hsz hl
  have hle : (str s).size ≤ 1000 := by have := HZ.out; have := HSZ.out; omega
  go_enter Tryz.func63, Tryz.ntmps63
  go_wp2_with fail
  refine HP.out.mono ?_
  rintro e w1 ⟨rfl, h1, f1⟩
  have H1 := hide h1
  have F1 := hide f1
  clear h1 f1
  go_wp2_with fail
  go_loopw [12] (fun i wr => ∃ k : Nat, k ≤ (str s).size ∧ i = .int .i64 k ∧ Wr B X wr (l ++ ((s.length : Int) :: (s.take k).flatMap bt).map Lib.itoa) ∧ FW B X w wr) (fun i _ => (str s).size - (intOf i).toNat)
  case atStart => exact ⟨0, Nat.zero_le _, rfl, by have := H1.out; rw [HZ.out] at this; simpa using this, F1.out⟩
  case round =>
    obtain ⟨k, hk, rfl, hw, hf⟩ := hrel
    have HW := hide hw
    have HF := hide hf
    clear hw hf
    by_cases hlt : k < (str s).size
    · have hlt1 : (k : Int) < ((str s).size : Int) := by omega
      have hk0 : (0 : Int) ≤ (k : Int) := by omega
      have hkl : k < s.length := by have := HZ.out; omega
      obtain ⟨c, hc⟩ : ∃ c, (str s)[k]'hlt = c := ⟨_, rfl⟩
      have hcl : s[k] = c := by rw [← hc, str_at s k hlt hkl]
      have hcc := c.toNat_lt
      have hwr : wrap64 ((c.toNat : Nat) : Int) = ((c.toNat : Nat) : Int) := IntWalk.wrap64_in _ (by omega)
      have HQ := hide (fun w0 h0 => put_new B X (bt c) 1 (l ++ ((s.length : Int) :: (s.take k).flatMap bt).map Lib.itoa) w0 #[.int .i64 ((c.toNat : Nat) : Int)] h0 rfl rfl (fit_cons.2 ⟨by unfold in64; omega, fit_nil⟩) (by simp [bt]) (by have := seq_room bt 1 (fun _ => Nat.le_refl _) (s.length : Int) l s k; have := HL.out; have := HSZ.out; omega) rfl)
      have HN := hide (seq_snoc bt (s.length : Int) l s k hkl)
      rw [hcl] at HN
      clear hcl hcc
      go_wp2_with fail
      refine (HQ.out wr HW.out).mono ?_
      rintro e w2 ⟨rfl, h2, f2⟩
      have H2 := hide h2
      have F2 := hide f2
      clear h2 f2
      go_wp2_with fail
      go_roundw
      case rel => exact ⟨k + 1, by omega, by go_num, HN.out ▸ H2.out, HF.out.trans F2.out⟩
      case measure => simp [intOf]; omega
    · obtain rfl : k = (str s).size := by omega
      have HW2 := hide HW.out
      rw [List.take_of_length_le (by have := HZ.out; omega)] at HW2
      go_wp2_with fail
      go_end0
      exact ⟨rfl, HW2.out, HF.out⟩
set_option maxRecDepth 100000 in
set_option maxHeartbeats 800000 in
theorem wid_any (B X : Nat) (a b : Int) (l : List Tx) (w : World) (h : Wr B X w l) (hi : Fit (idN (a, b))) (hl : l.length ≤ 40000) :
    Calls Tryz.prog 42 #[.pointer (some ⟨X, 0, none⟩), .agg #[.int .i64 a, .int .i64 b]] w (Puts B X w l (idN (a, b))) := by
  have HP := hide (fun w0 h0 => put_new B X (idN (a, b)) 2 l w0 #[.int .i64 a, .int .i64 b] h0 (by simp [cellsI, idN]) rfl hi (by simp [idN]) (by omega) (N := w.heap.size + 1))
  have HW := hide h
  have HB := hide h.big
  clear h hi hl
  go_enter Tryz.func42, Tryz.ntmps42
  go_wp2_with fail
  refine (HP.out _ (HW.out.alloc _) (by simp)).mono ?_
  rintro e w2 ⟨rfl, h2, f2⟩
  have H2 := hide h2
  have F2 := hide f2
  clear h2 f2
  go_wp2_with fail
  go_end0
  exact ⟨rfl, H2.out, ((FW.refl B X w).alloc HB.out _).trans F2.out⟩
end Go.Proofs.YtlmdceeeahnkcaaGreatDoor
namespace Go.Proofs.YtlmdceeeahnkcaaGreatDoor
open Go.RowKit Rul Rt Go.Sort Sc De Cl

set_option maxRecDepth 100000 in
set_option maxHeartbeats 1600000 in
theorem wwd_any (B X : Nat) (s : List Wd) (A : Option Addr) (n cp : Nat) (l : List Tx) (w : World) (h : Wr B X w l) (hr : ∀ w', FW B X w w' → RowD w' A s) (hn : n = s.length) (hi : Fit (seqN wdI s)) (hsz : s.length ≤ 1000) (hl : l.length ≤ 30000) :
    Calls Tryz.prog 94 #[.pointer (some ⟨X, 0, none⟩), .slice A n cp] w (Puts B X w l (seqN wdI s)) := by
  subst hn
  have HR := hide hr
  have HI := hide (fit_flat (fit_cons.1 hi).2)
  have HSZ := hide hsz
  have HL := hide hl
  have HP := hide (put_new B X [(s.length : Int)] 1 l w #[.int .i64 (s.length : Int)] h rfl rfl (fit_cons.2 ⟨by unfold in64; omega, fit_nil⟩) (by simp) (by omega) rfl)
  clear h hr hi hl
  go_enter Tryz.func94, Tryz.ntmps94
  go_wp2_with fail
  refine HP.out.mono ?_
  rintro e w1 ⟨rfl, h1, f1⟩
  have H1 := hide h1
  have F1 := hide f1
  clear h1 f1
  go_wp2_with fail
  go_loopw [13] (fun i wr => ∃ k : Nat, k ≤ s.length ∧ i = .int .i64 k ∧ Wr B X wr (l ++ ((s.length : Int) :: (s.take k).flatMap wdI).map Lib.itoa) ∧ FW B X w wr) (fun i _ => s.length - (intOf i).toNat)
  case atStart => exact ⟨0, Nat.zero_le _, rfl, by simpa using H1.out, F1.out⟩
  case round =>
    obtain ⟨k, hk, rfl, hw, hf⟩ := hrel
    have HW := hide hw
    have HF := hide hf
    clear hw hf
    by_cases hlt : k < s.length
    · have hi0 : (0 : Int) ≤ (k : Int) := by omega
      have hi1 : (k : Int) < (s.length : Int) := by omega
      obtain ⟨x, hx⟩ : ∃ x, s[k] = x := ⟨_, rfl⟩
      have hnn : s ≠ [] := fun e => by subst e; exact absurd hlt (Nat.not_lt_zero _)
      obtain ⟨b1, o1, rfl, hb1, hc1⟩ := HR.out wr HF.out hnn
      have hcx := hc1 k hlt
      have HXI := HI.out s[k] (List.getElem_mem _)
      have HN := hide (seq_snoc wdI (s.length : Int) l s k hlt)
      rw [hx] at hcx HXI HN
      obtain ⟨a, b⟩ := x
      obtain ⟨p1, p2⟩ := hcx
      have HQ := hide (fun w0 h0 => put_new B X [a, b] 2 (l ++ ((s.length : Int) :: (s.take k).flatMap wdI).map Lib.itoa) w0 #[.int .i64 a, .int .i64 b] h0 (by simp [cellsI]) rfl HXI (by simp) (by have := seq_room wdI 2 (fun _ => Nat.le_refl _) (s.length : Int) l s k; have := HL.out; have := HSZ.out; omega) (N := wr.heap.size + 1))
      have HWB := hide HW.out.big
      clear hx hnn hc1 HXI
      go_wp2_with fail
      refine (HQ.out _ (HW.out.alloc _) (by simp)).mono ?_
      rintro e w2 ⟨rfl, h2, f2⟩
      have H2 := hide h2
      have F2 := hide f2
      clear h2 f2
      go_wp2_with fail
      go_roundw
      case rel => exact ⟨k + 1, by omega, by go_num, HN.out ▸ H2.out, (HF.out.alloc HWB.out _).trans F2.out⟩
      case measure => simp [intOf]; omega
    · obtain rfl : k = s.length := by omega
      have HW2 := hide HW.out
      rw [List.take_length] at HW2
      go_wp2_with fail
      go_end0
      exact ⟨rfl, HW2.out, HF.out⟩

set_option maxRecDepth 100000 in
set_option maxHeartbeats 1600000 in
theorem wcl_any (B X : Nat) (s : List C) (A : Option Addr) (n cp : Nat) (l : List Tx) (w : World) (h : Wr B X w l) (hr : ∀ w', FW B X w w' → S2.RowC w' A s) (hn : n = s.length) (hi : Fit (seqN clI s)) (hsz : s.length ≤ 1000) (hl : l.length ≤ 30000) :
    Calls Tryz.prog 44 #[.pointer (some ⟨X, 0, none⟩), .slice A n cp] w (Puts B X w l (seqN clI s)) := by
  subst hn
  have HR := hide hr
  have HI := hide (fit_flat (fit_cons.1 hi).2)
  have HSZ := hide hsz
  have HL := hide hl
  have HP := hide (put_new B X [(s.length : Int)] 1 l w #[.int .i64 (s.length : Int)] h rfl rfl (fit_cons.2 ⟨by unfold in64; omega, fit_nil⟩) (by simp) (by omega) rfl)
  clear h hr hi hl
  go_enter Tryz.func44, Tryz.ntmps44
  go_wp2_with fail
  refine HP.out.mono ?_
  rintro e w1 ⟨rfl, h1, f1⟩
  have H1 := hide h1
  have F1 := hide f1
  clear h1 f1
  go_wp2_with fail
  go_loopw [13] (fun i wr => ∃ k : Nat, k ≤ s.length ∧ i = .int .i64 k ∧ Wr B X wr (l ++ ((s.length : Int) :: (s.take k).flatMap clI).map Lib.itoa) ∧ FW B X w wr) (fun i _ => s.length - (intOf i).toNat)
  case atStart => exact ⟨0, Nat.zero_le _, rfl, by simpa using H1.out, F1.out⟩
  case round =>
    obtain ⟨k, hk, rfl, hw, hf⟩ := hrel
    have HW := hide hw
    have HF := hide hf
    clear hw hf
    by_cases hlt : k < s.length
    · have hi0 : (0 : Int) ≤ (k : Int) := by omega
      have hi1 : (k : Int) < (s.length : Int) := by omega
      obtain ⟨x, hx⟩ : ∃ x, s[k] = x := ⟨_, rfl⟩
      have hnn : s ≠ [] := fun e => by subst e; exact absurd hlt (Nat.not_lt_zero _)
      obtain ⟨b1, o1, rfl, hb1, hc1⟩ := HR.out wr HF.out hnn
      have hcx := hc1 k hlt
      have HXI := HI.out s[k] (List.getElem_mem _)
      have HN := hide (seq_snoc clI (s.length : Int) l s k hlt)
      rw [hx] at hcx HXI HN
      obtain ⟨a, b, c⟩ := x
      obtain ⟨p1, p2, p3⟩ := hcx
      have HQ := hide (fun w0 h0 => put_new B X [a, b, c] 3 (l ++ ((s.length : Int) :: (s.take k).flatMap clI).map Lib.itoa) w0 #[.int .i64 a, .int .i64 b, .int .i64 c] h0 (by simp [cellsI]) rfl HXI (by simp) (by have := seq_room clI 3 (fun _ => Nat.le_refl _) (s.length : Int) l s k; have := HL.out; have := HSZ.out; omega) (N := wr.heap.size + 1))
      have HWB := hide HW.out.big
      clear hx hnn hc1 HXI
      go_wp2_with fail
      refine (HQ.out _ (HW.out.alloc _) (by simp)).mono ?_
      rintro e w2 ⟨rfl, h2, f2⟩
      have H2 := hide h2
      have F2 := hide f2
      clear h2 f2
      go_wp2_with fail
      go_roundw
      case rel => exact ⟨k + 1, by omega, by go_num, HN.out ▸ H2.out, (HF.out.alloc HWB.out _).trans F2.out⟩
      case measure => simp [intOf]; omega
    · obtain rfl : k = s.length := by omega
      have HW2 := hide HW.out
      rw [List.take_length] at HW2
      go_wp2_with fail
      go_end0
      exact ⟨rfl, HW2.out, HF.out⟩
end Go.Proofs.YtlmdceeeahnkcaaGreatDoor

/- SpanRows walked. -/
import Derived.Test.YtncciofckfbcaaaSpRowsA
import Derived.Deep.DeepCutAuto
namespace Go.Proofs.Ytncciofckfbcaaa
open Go.RowKit Spn Go.Sort

/-- a row's cells at a known place. -/
def Cs (w : World) (b off : Nat) (l : List Sp) : Prop := ∀ i (h : i < l.length), w.cell? ⟨b, off + i * 2, none⟩ = some (.int .i64 l[i].1) ∧ w.cell? ⟨b, off + i * 2 + 1, none⟩ = some (.int .i64 l[i].2)
theorem cs_drop {w : World} {b off : Nat} {l : List Sp} (k : Nat) (h : Cs w b off l) : Cs w b (off + k * 2) (l.drop k) := by
  intro i hi
  rw [List.length_drop] at hi
  have h1 := h (k + i) (by omega)
  rw [show off + (k + i) * 2 = off + k * 2 + i * 2 by omega] at h1
  rw [List.getElem_drop]; exact h1
theorem cs_take {w : World} {b off : Nat} {l : List Sp} (k : Nat) (h : Cs w b off l) : Cs w b off (l.take k) := by
  intro i hi
  rw [List.length_take] at hi
  rw [List.getElem_take]; exact h i (by omega)
theorem Cs.keep {W W1 : World} {B b off : Nat} {l : List Sp} (h : Cs W b off l) (hb : Below B W W1) (hlt : b < B) : Cs W1 b off l := fun i hi => ⟨(hb.cell (p := ⟨b, _, none⟩) hlt).trans (h i hi).1, (hb.cell (p := ⟨b, _, none⟩) hlt).trans (h i hi).2⟩
theorem blk_of {B : Nat} {w W : World} (x y : Int) (_ : Below B w W) : ∀ i (h : i < [(x, y)].length), (W.alloc (.cells #[.int .i64 x, .int .i64 y] 23)).cell? ⟨W.heap.size, 0 + i * 2, none⟩ = some (.int .i64 ([(x, y)])[i].1) ∧ (W.alloc (.cells #[.int .i64 x, .int .i64 y] 23)).cell? ⟨W.heap.size, 0 + i * 2 + 1, none⟩ = some (.int .i64 ([(x, y)])[i].2) := by
  intro i hi
  obtain rfl : i = 0 := by simpa using hi
  refine ⟨?_, ?_⟩ <;> (rw [World.cell?_alloc_at _ _ _ _ rfl]; rfl)
theorem blk_lt {B : Nat} {w W : World} (o : Obj) (_ : Below B w W) : W.heap.size < (W.alloc o).heap.size := by simp
theorem rows_keep {w W W1 : World} {B b off k : Nat} {x y : Int} {l : List Sp} (hb : Below B W W1) (h : W.cell? ⟨b, off + k * 2, none⟩ = some (.int .i64 x) ∧ W.cell? ⟨b, off + k * 2 + 1, none⟩ = some (.int .i64 y) ∧ Cs W b off l ∧ Below w.heap.size w W) (hB : w.heap.size ≤ B := by assumption) (hlt : b < w.heap.size := by assumption) :
    W1.cell? ⟨b, off + k * 2, none⟩ = some (.int .i64 x) ∧ W1.cell? ⟨b, off + k * 2 + 1, none⟩ = some (.int .i64 y) ∧ Cs W1 b off l ∧ Below w.heap.size w W1 :=
  ⟨(hb.cell (p := ⟨b, _, none⟩) (Nat.lt_of_lt_of_le hlt hB)).trans h.1, (hb.cell (p := ⟨b, _, none⟩) (Nat.lt_of_lt_of_le hlt hB)).trans h.2.1, h.2.2.1.keep hb (Nat.lt_of_lt_of_le hlt hB), h.2.2.2.trans (hb.mono hB)⟩
/-- what an event leaves: all below the base, and one block. -/
def Ev (B X : Nat) (W W1 : World) : Prop := Below B W W1 ∧ W.heap.size ≤ W1.heap.size ∧ ∀ j u, W.cell? ⟨X, j, none⟩ = some u → W1.cell? ⟨X, j, none⟩ = some u
theorem ev_full {B X : Nat} {W W1 : World} (hb : Below W.heap.size W W1) (hX : X < W.heap.size) (hB : B ≤ W.heap.size) : Ev B X W W1 := ⟨hb.mono hB, hb.size, fun _ _ h => (hb.cell (p := ⟨X, _, none⟩) hX).trans h⟩
theorem ev_kept {B X : Nat} {v : Value} {W W1 : World} (hb : Below B W W1) (hk : Kept v W W1) (hg : ∀ g, v.ownBlock = some g → g ≠ X) : Ev B X W W1 := ⟨hb, hb.size, fun _ _ h => hk _ _ h fun e => hg _ e.symm rfl⟩
theorem own_ne {X : Nat} {v v' : Value} {W : World} (hat : v'.ownBlock = v.ownBlock ∨ v'.ownBlock = some W.heap.size) (hg : ∀ g, v.ownBlock = some g → g ≠ X) (hX : X < W.heap.size) : ∀ g, v'.ownBlock = some g → g ≠ X := by
  intro g e
  rcases hat with h | h
  · exact hg g (h.symm.trans e)
  · rw [h] at e; cases e; omega
theorem cut_keep {w1 W W1 : World} {X b off q : Nat} {x y f t : Int} (hb : Ev w1.heap.size X W W1) (h : W.cell? ⟨b, off + q * 2, none⟩ = some (.int .i64 x) ∧ W.cell? ⟨b, off + q * 2 + 1, none⟩ = some (.int .i64 y) ∧ W.cell? ⟨X, 0, none⟩ = some (.int .i64 f) ∧ W.cell? ⟨X, 1, none⟩ = some (.int .i64 t) ∧ X < W.heap.size ∧ Below w1.heap.size w1 W) (hlt : b < w1.heap.size := by assumption) :
    W1.cell? ⟨b, off + q * 2, none⟩ = some (.int .i64 x) ∧ W1.cell? ⟨b, off + q * 2 + 1, none⟩ = some (.int .i64 y) ∧ W1.cell? ⟨X, 0, none⟩ = some (.int .i64 f) ∧ W1.cell? ⟨X, 1, none⟩ = some (.int .i64 t) ∧ X < W1.heap.size ∧ Below w1.heap.size w1 W1 :=
  ⟨(hb.1.cell (p := ⟨b, _, none⟩) hlt).trans h.1, (hb.1.cell (p := ⟨b, _, none⟩) hlt).trans h.2.1, hb.2.2 _ _ h.2.2.1, hb.2.2 _ _ h.2.2.2.1, Nat.lt_of_lt_of_le h.2.2.2.2.1 hb.2.1, h.2.2.2.2.2.trans hb.1⟩
theorem cut_keepB {w1 W : World} {X b off q : Nat} {x y f t : Int} (o : Obj) (h : W.cell? ⟨b, off + q * 2, none⟩ = some (.int .i64 x) ∧ W.cell? ⟨b, off + q * 2 + 1, none⟩ = some (.int .i64 y) ∧ W.cell? ⟨X, 0, none⟩ = some (.int .i64 f) ∧ W.cell? ⟨X, 1, none⟩ = some (.int .i64 t) ∧ X < W.heap.size ∧ Below w1.heap.size w1 W) (hlt : b < w1.heap.size := by assumption) :
    (W.alloc o).cell? ⟨b, off + q * 2, none⟩ = some (.int .i64 x) ∧ (W.alloc o).cell? ⟨b, off + q * 2 + 1, none⟩ = some (.int .i64 y) ∧ (W.alloc o).cell? ⟨X, 0, none⟩ = some (.int .i64 f) ∧ (W.alloc o).cell? ⟨X, 1, none⟩ = some (.int .i64 t) ∧ X < (W.alloc o).heap.size ∧ Below w1.heap.size w1 (W.alloc o) :=
  cut_keep (ev_full (more (start _) _) h.2.2.2.2.1 h.2.2.2.2.2.size) h hlt
theorem Cs.row {w : World} {b off : Nat} {l : List Sp} (h : Cs w b off l) (hb : b < w.heap.size) : Row w (some ⟨b, off, none⟩) l := fun _ => ⟨b, off, rfl, hb, h⟩

set_option linter.unusedSimpArgs false in
set_option maxRecDepth 100000 in
set_option maxHeartbeats 4000000 in
theorem rows_main (b off NL c k : Nat) (t m : Int) (l RL CUT C : List Sp) (w : World) (hb : b < w.heap.size) (hcs : Cs w b off l) (hNL : l.length = NL) (h1 : 1 ≤ NL) (h20 : NL ≤ 20) (hc : NL ≤ c) (hcm : c ≤ maxLen) (ht0 : 0 ≤ t) (ht1 : t ≤ 255) (hm0 : 0 ≤ m) (hm1 : m ≤ 65535)
    (hk : t % (NL : Int) = (k : Int)) (hkl : k < l.length) (hRL : l.drop k ++ l.take k ++ [(l[k].1, l[k].2)] = RL) (hRLn : RL.length ≤ 21) (hCUT : cutL l (m, m + 10) = CUT) (hCUTn : CUT.length ≤ 60) (hC : canon l = C) (hCn : C.length ≤ 20) (hC1 : canon RL = C) (hC2 : canon CUT = C) (hC3 : canon C = C) :
    Calls Try.prog 5 #[.slice (some ⟨b, off, none⟩) NL c, .int .u8 t, .int .u16 m] w fun e w' => e = .returned (.bool true) ∧ Below w.heap.size w w' := by
  have HK := hide hk
  have HNL := hide hNL
  have HRL := hide hRL
  have HCUT := hide hCUT
  have HC := hide hC
  have HC1 := hide hC1
  have HC2 := hide hC2
  have HC3 := hide hC3
  have hkN : k < NL := by omega
  have hck : ¬ c = k := by omega
  have hkNL : k ≤ NL := by omega
  have hkc : k ≤ c := by omega
  have hc0 : ¬ c = 0 := by omega
  unfold maxLen at hcm
  have f1 : decide (20 < (NL : Int)) = false := decide_eq_false (by omega)
  have f2 : ((NL : Int) == 0) = false := by rw [beq_eq_false_iff_ne]; omega
  have f3 : ¬ (20 < (NL : Int)) := by omega
  have f4 : ¬ ((NL : Int) = 0) := by omega
  clear hk hRL hNL hCUT hC hC1 hC2 hC3
  go_enter Try.func5, Try.ntmps5
  go_wp2_with fail
  refine (known_any _).mono ?_
  rintro e w1 ⟨rfl, hb1⟩
  replace hcs := hcs.keep hb1 hb
  go_wp2_with fail
  rw [HK.out]
  go_upto_region 7 with (fail)
  go_cut [8] (fun s wx => Own wx w.heap.size s (l.drop k ++ l.take k ++ [(l[k].1, l[k].2)]) ∧ Cs wx b off l ∧ Below w.heap.size w wx)
  case first =>
    have hS :  w1.cell? ⟨b, off + k * 2, none⟩ = some (.int .i64 l[k].1) ∧ w1.cell? ⟨b, off + k * 2 + 1, none⟩ = some (.int .i64 l[k].2) ∧ Cs w1 b off l ∧ Below w.heap.size w w1 := ⟨(hcs k hkl).1, (hcs k hkl).2, hcs, hb1⟩
    have hs1 := hb1.size
    clear hcs hb1
    try simp only [List.append]
    refine wp_region_held_drew (S := (fun w' => w'.cell? ⟨b, off + k * 2, none⟩ = some (.int .i64 l[k].1) ∧ w'.cell? ⟨b, off + k * 2 + 1, none⟩ = some (.int .i64 l[k].2) ∧ Cs w' b off l ∧ Below w.heap.size w w')) (by kernel_rfl) ?_ (fun hH0 => ?_)
    · exact rows_keep (Below.drew (start _)) hS
    refine' wpAnyH_take (i := 0) (oi := _) (v := ?v0) rfl (by as_aux_lemma => kernel_rfl) (by as_aux_lemma => kernel_rfl) (by as_aux_lemma => kernel_rfl) (fun _ _ _ h => h) (Or.inl ⟨by rfl, ?y0⟩) hH0 ?r0
    case y0 => (intro w hSw; (try dsimp only at hSw); go_simp; (try with_reducible rfl))
    try simp only [Act.put, List.getElem_toArray, List.getElem_cons_succ, List.getElem_cons_zero, List.setIfInBounds_toArray, List.set_cons_zero, List.set_cons_succ]
    refine' wpAnyH_take (i := 1) (oi := _) (v := ?v1) rfl (by as_aux_lemma => kernel_rfl) (by as_aux_lemma => kernel_rfl) (by as_aux_lemma => kernel_rfl) (fun _ _ _ h => h) (Or.inl ⟨by rfl, ?y1⟩) hH0 ?r1
    case y1 => (intro w hSw; (try dsimp only at hSw); go_simp; (try with_reducible rfl))
    try simp only [Act.put, List.getElem_toArray, List.getElem_cons_succ, List.getElem_cons_zero, List.setIfInBounds_toArray, List.set_cons_zero, List.set_cons_succ]
    refine' wpAnyH_take (i := 2) (oi := _) (v := ?v2) rfl (by as_aux_lemma => kernel_rfl) (by as_aux_lemma => kernel_rfl) (by as_aux_lemma => kernel_rfl) (fun _ _ _ h => h) (Or.inl ⟨by rfl, ?y2⟩) hH0 ?r2
    case y2 => (intro w hSw; (try dsimp only at hSw); go_simp; (try with_reducible rfl))
    try simp only [Act.put, List.getElem_toArray, List.getElem_cons_succ, List.getElem_cons_zero, List.setIfInBounds_toArray, List.set_cons_zero, List.set_cons_succ]
    refine' wpAnyH_take (i := 4) (oi := _) (v := ?v3) rfl (by as_aux_lemma => kernel_rfl) (by as_aux_lemma => kernel_rfl) (by as_aux_lemma => kernel_rfl) (fun _ _ _ h => h) (Or.inl ⟨by rfl, ?y3⟩) hH0 ?r3
    case y3 => (intro w hSw; (try dsimp only at hSw); go_simp; (try with_reducible rfl))
    try simp only [Act.put, List.getElem_toArray, List.getElem_cons_succ, List.getElem_cons_zero, List.setIfInBounds_toArray, List.set_cons_zero, List.set_cons_succ]
    refine' wpAnyH_take (i := 5) (oi := _) (v := ?v4) rfl (by as_aux_lemma => kernel_rfl) (by as_aux_lemma => kernel_rfl) (by as_aux_lemma => kernel_rfl) (fun _ _ _ h => h) (Or.inl ⟨by rfl, ?y4⟩) hH0 ?r4
    case y4 => (intro w hSw; (try dsimp only at hSw); go_simp; (try with_reducible rfl))
    try simp only [Act.put, List.getElem_toArray, List.getElem_cons_succ, List.getElem_cons_zero, List.setIfInBounds_toArray, List.set_cons_zero, List.set_cons_succ]
    refine' wpAnyH_take (i := 6) (oi := _) (v := ?v5) rfl (by as_aux_lemma => kernel_rfl) (by as_aux_lemma => kernel_rfl) (by as_aux_lemma => kernel_rfl) (fun _ _ _ h => h) (Or.inl ⟨by rfl, ?y5⟩) hH0 ?r5
    case y5 => (intro w hSw; (try dsimp only at hSw); go_simp; (try with_reducible rfl))
    try simp only [Act.put, List.getElem_toArray, List.getElem_cons_succ, List.getElem_cons_zero, List.setIfInBounds_toArray, List.set_cons_zero, List.set_cons_succ]
    refine' wpAnyH_take (i := 8) (oi := _) (v := ?v6) rfl (by as_aux_lemma => kernel_rfl) (by as_aux_lemma => kernel_rfl) (by as_aux_lemma => kernel_rfl) (fun _ _ _ h => h) (Or.inl ⟨by rfl, ?y6⟩) hH0 ?r6
    case y6 => (intro w hSw; (try dsimp only at hSw); go_simp; (try with_reducible rfl))
    try simp only [Act.put, List.getElem_toArray, List.getElem_cons_succ, List.getElem_cons_zero, List.setIfInBounds_toArray, List.set_cons_zero, List.set_cons_succ]
    refine' wpAnyH_take (i := 9) (oi := _) (v := ?v7) rfl (by as_aux_lemma => kernel_rfl) (by as_aux_lemma => kernel_rfl) (by as_aux_lemma => kernel_rfl) (fun _ _ _ h => h) (Or.inl ⟨by rfl, ?y7⟩) hH0 ?r7
    case y7 => (intro w hSw; (try dsimp only at hSw); go_simp; (try with_reducible rfl))
    try simp only [Act.put, List.getElem_toArray, List.getElem_cons_succ, List.getElem_cons_zero, List.setIfInBounds_toArray, List.set_cons_zero, List.set_cons_succ]
    refine' wpAnyH_take (i := 10) (oi := _) (v := ?v8) rfl (by as_aux_lemma => kernel_rfl) (by as_aux_lemma => kernel_rfl) (by as_aux_lemma => kernel_rfl) (fun _ _ _ h => h) (Or.inl ⟨by rfl, ?y8⟩) hH0 ?r8
    case y8 => (intro w hSw; (try dsimp only at hSw); go_simp; (try with_reducible rfl))
    try simp only [Act.put, List.getElem_toArray, List.getElem_cons_succ, List.getElem_cons_zero, List.setIfInBounds_toArray, List.set_cons_zero, List.set_cons_succ]
    refine' wpAnyH_take (i := 11) (oi := _) (v := ?v9) rfl (by as_aux_lemma => kernel_rfl) (by as_aux_lemma => kernel_rfl) (by as_aux_lemma => kernel_rfl) (fun _ _ _ h => h) (Or.inl ⟨by rfl, ?y9⟩) hH0 ?r9
    case y9 => (intro w hSw; (try dsimp only at hSw); go_simp; (try with_reducible rfl))
    try simp only [Act.put, List.getElem_toArray, List.getElem_cons_succ, List.getElem_cons_zero, List.setIfInBounds_toArray, List.set_cons_zero, List.set_cons_succ]
    refine wpAnyH_ready (rs := [3, 12]) (by as_aux_lemma => kernel_rfl) (by simp) ?_
    refine AllReadyH.cons (o := _) rfl (fun K hK => ?_) (AllReadyH.cons (o := _) rfl (fun K hK => ?_) AllReadyH.nil)
    · have hsz3 := hH0.2.2.2.size
      refine step_at (l := []) (k := l.drop k) (v := .slice none 0 0) rfl _ _ rfl rfl rfl (by rw [List.length_drop, HNL.out]) (cs_drop k hH0.2.2.1) (World.ownsRow_nil _ _ _ _) (Nat.le_refl _) (by simp) (by rw [List.length_drop, HNL.out]; omega) ?_
      intro v3 w3 hown3 hb hkept _
      try replace hblk := Kept.row hkept (by intro g hg; cases hg) hblk
      try have hg3 := fun g e => Nat.ne_of_gt (Nat.lt_of_lt_of_le hXlt (hown3.lt g e).1)
      rw [List.nil_append] at hown3
      have hle := hb.size
      clear hkept
      refine hK.out _ _ (rows_keep hb hH0) (fun hN => ?_)
      clear hK K hH0
      have hH1 := hN
      clear hN
      try simp only [Act.put, List.getElem_toArray, List.getElem_cons_succ, List.getElem_cons_zero, List.setIfInBounds_toArray, List.set_cons_zero, List.set_cons_succ]
      refine wpAnyH_ready (rs := [7, 12]) (by as_aux_lemma => kernel_rfl) (by simp) ?_
      refine AllReadyH.cons (o := _) rfl (fun K hK => ?_) (AllReadyH.cons (o := _) rfl (fun K hK => ?_) AllReadyH.nil)
      · refine step_at (l := l.drop k) (k := l.take k) rfl _ _ rfl rfl rfl (by rw [List.length_take, HNL.out]; omega) (cs_take k hH1.2.2.1) hown3 hle (by rw [List.length_drop, HNL.out]; omega) (by rw [List.length_take, HNL.out]; omega) ?_
        intro v7 w7 hown7 hb hkept _
        try replace hblk := Kept.row hkept hg3 hblk
        replace hle := Nat.le_trans hle hb.size
        clear hkept
        refine hK.out _ _ (rows_keep hb hH1) (fun hN => ?_)
        clear hK K hH1
        have hH2 := hN
        clear hN
        try simp only [Act.put, List.getElem_toArray, List.getElem_cons_succ, List.getElem_cons_zero, List.setIfInBounds_toArray, List.set_cons_zero, List.set_cons_succ]
        refine wpAnyH_ready (rs := [12]) (by as_aux_lemma => kernel_rfl) (by simp) ?_
        refine AllReadyH.cons (o := _) rfl (fun K hK => ?_) AllReadyH.nil
        go_simp
        have hsz12 := hH2.2.2.2.size
        have hblk := blk_of l[k].1 l[k].2 hH2.2.2.2
        have hXlt := blk_lt (.cells #[.int .i64 l[k].1, .int .i64 l[k].2] 23) hH2.2.2.2
        try have hg3 := fun g e => Nat.ne_of_lt (hown3.lt g e).2
        try replace hown3 := World.ownsRow.alloc hown3 (.cells #[.int .i64 l[k].1, .int .i64 l[k].2] 23)
        try replace hown7 := World.ownsRow.alloc hown7 (.cells #[.int .i64 l[k].1, .int .i64 l[k].2] 23)
        try replace hle := Nat.le_trans hle (Nat.le_of_lt hXlt)
        refine hK.out _ _ (rows_keep (more (start _) _) hH2) (fun hN => ?_)
        clear hK K hH2
        have hH3 := hN
        clear hN
        try simp only [Act.put, List.getElem_toArray, List.getElem_cons_succ, List.getElem_cons_zero, List.setIfInBounds_toArray, List.set_cons_zero, List.set_cons_succ]
        refine wpAnyH_ready (rs := [13]) (by as_aux_lemma => kernel_rfl) (by simp) ?_
        refine AllReadyH.cons (o := _) rfl (fun K hK => ?_) AllReadyH.nil
        refine step_at (l := l.drop k ++ l.take k) (k := [(l[k].1, l[k].2)]) rfl _ _ rfl rfl rfl rfl hblk hown7 hle (by rw [List.length_append, List.length_take, List.length_drop, HNL.out]; omega) (by simp) ?_
        intro v13 w13 hown13 hb _ _
        refine hK.out _ _ (rows_keep hb hH3) (fun hN => ?_)
        clear hK K hH3
        have hH4 := hN
        clear hN
        try simp only [Act.put, List.getElem_toArray, List.getElem_cons_succ, List.getElem_cons_zero, List.setIfInBounds_toArray, List.set_cons_zero, List.set_cons_succ]
        refine' wpAnyH_take (i := 14) (oi := _) (v := ?v10) rfl (by as_aux_lemma => kernel_rfl) (by as_aux_lemma => kernel_rfl) (by as_aux_lemma => kernel_rfl) (fun _ _ _ h => h) (Or.inl ⟨by rfl, ?y10⟩) hH4 ?r10
        case y10 => (intro w hSw; (try dsimp only at hSw); go_simp; (try with_reducible rfl))
        try simp only [Act.put, List.getElem_toArray, List.getElem_cons_succ, List.getElem_cons_zero, List.setIfInBounds_toArray, List.set_cons_zero, List.set_cons_succ]
        refine wpAnyH_done (by as_aux_lemma => kernel_rfl) ?_ _
        go_wp2_with fail
        go_meet
        exact ⟨hown13.low hsz3, hH4.2.2⟩
      · go_simp
        have hsz12 := hH1.2.2.2.size
        have hblk := blk_of l[k].1 l[k].2 hH1.2.2.2
        have hXlt := blk_lt (.cells #[.int .i64 l[k].1, .int .i64 l[k].2] 23) hH1.2.2.2
        try have hg3 := fun g e => Nat.ne_of_lt (hown3.lt g e).2
        try replace hown3 := World.ownsRow.alloc hown3 (.cells #[.int .i64 l[k].1, .int .i64 l[k].2] 23)
        try replace hown7 := World.ownsRow.alloc hown7 (.cells #[.int .i64 l[k].1, .int .i64 l[k].2] 23)
        try replace hle := Nat.le_trans hle (Nat.le_of_lt hXlt)
        refine hK.out _ _ (rows_keep (more (start _) _) hH1) (fun hN => ?_)
        clear hK K hH1
        have hH2 := hN
        clear hN
        try simp only [Act.put, List.getElem_toArray, List.getElem_cons_succ, List.getElem_cons_zero, List.setIfInBounds_toArray, List.set_cons_zero, List.set_cons_succ]
        refine wpAnyH_ready (rs := [7]) (by as_aux_lemma => kernel_rfl) (by simp) ?_
        refine AllReadyH.cons (o := _) rfl (fun K hK => ?_) AllReadyH.nil
        refine step_at (l := l.drop k) (k := l.take k) rfl _ _ rfl rfl rfl (by rw [List.length_take, HNL.out]; omega) (cs_take k hH2.2.2.1) hown3 hle (by rw [List.length_drop, HNL.out]; omega) (by rw [List.length_take, HNL.out]; omega) ?_
        intro v7 w7 hown7 hb hkept _
        try replace hblk := Kept.row hkept hg3 hblk
        replace hle := Nat.le_trans hle hb.size
        clear hkept
        refine hK.out _ _ (rows_keep hb hH2) (fun hN => ?_)
        clear hK K hH2
        have hH3 := hN
        clear hN
        try simp only [Act.put, List.getElem_toArray, List.getElem_cons_succ, List.getElem_cons_zero, List.setIfInBounds_toArray, List.set_cons_zero, List.set_cons_succ]
        refine wpAnyH_ready (rs := [13]) (by as_aux_lemma => kernel_rfl) (by simp) ?_
        refine AllReadyH.cons (o := _) rfl (fun K hK => ?_) AllReadyH.nil
        refine step_at (l := l.drop k ++ l.take k) (k := [(l[k].1, l[k].2)]) rfl _ _ rfl rfl rfl rfl hblk hown7 hle (by rw [List.length_append, List.length_take, List.length_drop, HNL.out]; omega) (by simp) ?_
        intro v13 w13 hown13 hb _ _
        refine hK.out _ _ (rows_keep hb hH3) (fun hN => ?_)
        clear hK K hH3
        have hH4 := hN
        clear hN
        try simp only [Act.put, List.getElem_toArray, List.getElem_cons_succ, List.getElem_cons_zero, List.setIfInBounds_toArray, List.set_cons_zero, List.set_cons_succ]
        refine' wpAnyH_take (i := 14) (oi := _) (v := ?v11) rfl (by as_aux_lemma => kernel_rfl) (by as_aux_lemma => kernel_rfl) (by as_aux_lemma => kernel_rfl) (fun _ _ _ h => h) (Or.inl ⟨by rfl, ?y11⟩) hH4 ?r11
        case y11 => (intro w hSw; (try dsimp only at hSw); go_simp; (try with_reducible rfl))
        try simp only [Act.put, List.getElem_toArray, List.getElem_cons_succ, List.getElem_cons_zero, List.setIfInBounds_toArray, List.set_cons_zero, List.set_cons_succ]
        refine wpAnyH_done (by as_aux_lemma => kernel_rfl) ?_ _
        go_wp2_with fail
        go_meet
        exact ⟨hown13.low hsz3, hH4.2.2⟩
    · go_simp
      have hsz12 := hH0.2.2.2.size
      have hblk := blk_of l[k].1 l[k].2 hH0.2.2.2
      have hXlt := blk_lt (.cells #[.int .i64 l[k].1, .int .i64 l[k].2] 23) hH0.2.2.2
      try have hg3 := fun g e => Nat.ne_of_lt (hown3.lt g e).2
      try replace hown3 := World.ownsRow.alloc hown3 (.cells #[.int .i64 l[k].1, .int .i64 l[k].2] 23)
      try replace hown7 := World.ownsRow.alloc hown7 (.cells #[.int .i64 l[k].1, .int .i64 l[k].2] 23)
      try replace hle := Nat.le_trans hle (Nat.le_of_lt hXlt)
      refine hK.out _ _ (rows_keep (more (start _) _) hH0) (fun hN => ?_)
      clear hK K hH0
      have hH1 := hN
      clear hN
      try simp only [Act.put, List.getElem_toArray, List.getElem_cons_succ, List.getElem_cons_zero, List.setIfInBounds_toArray, List.set_cons_zero, List.set_cons_succ]
      refine wpAnyH_ready (rs := [3]) (by as_aux_lemma => kernel_rfl) (by simp) ?_
      refine AllReadyH.cons (o := _) rfl (fun K hK => ?_) AllReadyH.nil
      have hsz3 := hH1.2.2.2.size
      refine step_at (l := []) (k := l.drop k) (v := .slice none 0 0) rfl _ _ rfl rfl rfl (by rw [List.length_drop, HNL.out]) (cs_drop k hH1.2.2.1) (World.ownsRow_nil _ _ _ _) (Nat.le_refl _) (by simp) (by rw [List.length_drop, HNL.out]; omega) ?_
      intro v3 w3 hown3 hb hkept _
      try replace hblk := Kept.row hkept (by intro g hg; cases hg) hblk
      try have hg3 := fun g e => Nat.ne_of_gt (Nat.lt_of_lt_of_le hXlt (hown3.lt g e).1)
      rw [List.nil_append] at hown3
      have hle := hb.size
      clear hkept
      refine hK.out _ _ (rows_keep hb hH1) (fun hN => ?_)
      clear hK K hH1
      have hH2 := hN
      clear hN
      try simp only [Act.put, List.getElem_toArray, List.getElem_cons_succ, List.getElem_cons_zero, List.setIfInBounds_toArray, List.set_cons_zero, List.set_cons_succ]
      refine wpAnyH_ready (rs := [7]) (by as_aux_lemma => kernel_rfl) (by simp) ?_
      refine AllReadyH.cons (o := _) rfl (fun K hK => ?_) AllReadyH.nil
      refine step_at (l := l.drop k) (k := l.take k) rfl _ _ rfl rfl rfl (by rw [List.length_take, HNL.out]; omega) (cs_take k hH2.2.2.1) hown3 hle (by rw [List.length_drop, HNL.out]; omega) (by rw [List.length_take, HNL.out]; omega) ?_
      intro v7 w7 hown7 hb hkept _
      try replace hblk := Kept.row hkept hg3 hblk
      replace hle := Nat.le_trans hle hb.size
      clear hkept
      refine hK.out _ _ (rows_keep hb hH2) (fun hN => ?_)
      clear hK K hH2
      have hH3 := hN
      clear hN
      try simp only [Act.put, List.getElem_toArray, List.getElem_cons_succ, List.getElem_cons_zero, List.setIfInBounds_toArray, List.set_cons_zero, List.set_cons_succ]
      refine wpAnyH_ready (rs := [13]) (by as_aux_lemma => kernel_rfl) (by simp) ?_
      refine AllReadyH.cons (o := _) rfl (fun K hK => ?_) AllReadyH.nil
      refine step_at (l := l.drop k ++ l.take k) (k := [(l[k].1, l[k].2)]) rfl _ _ rfl rfl rfl rfl hblk hown7 hle (by rw [List.length_append, List.length_take, List.length_drop, HNL.out]; omega) (by simp) ?_
      intro v13 w13 hown13 hb _ _
      refine hK.out _ _ (rows_keep hb hH3) (fun hN => ?_)
      clear hK K hH3
      have hH4 := hN
      clear hN
      try simp only [Act.put, List.getElem_toArray, List.getElem_cons_succ, List.getElem_cons_zero, List.setIfInBounds_toArray, List.set_cons_zero, List.set_cons_succ]
      refine' wpAnyH_take (i := 14) (oi := _) (v := ?v12) rfl (by as_aux_lemma => kernel_rfl) (by as_aux_lemma => kernel_rfl) (by as_aux_lemma => kernel_rfl) (fun _ _ _ h => h) (Or.inl ⟨by rfl, ?y12⟩) hH4 ?r12
      case y12 => (intro w hSw; (try dsimp only at hSw); go_simp; (try with_reducible rfl))
      try simp only [Act.put, List.getElem_toArray, List.getElem_cons_succ, List.getElem_cons_zero, List.setIfInBounds_toArray, List.set_cons_zero, List.set_cons_succ]
      refine wpAnyH_done (by as_aux_lemma => kernel_rfl) ?_ _
      go_wp2_with fail
      go_meet
      exact ⟨hown13.low hsz3, hH4.2.2⟩

  case rest =>
    obtain ⟨hown0, hcs, hbw⟩ := hcut
    rw [HRL.out] at hown0
    obtain ⟨A1, c1, rfl, hr1⟩ := Own.row hown0
    have hbc : b < wc.heap.size := Nat.lt_of_lt_of_le hb hbw.size
    clear hown0
    go_wp2_with fail
    go_loopw [9, 10] (fun v i wr => ∃ q : Nat, q ≤ NL ∧ i = .int .i64 (q : Int) ∧ Own wr wc.heap.size v (cutL (l.take q) (m, m + 10)) ∧ Below wc.heap.size wc wr) (fun _ i _ => NL - (intOf i).toNat)
    case atStart => exact ⟨0, Nat.zero_le _, rfl, World.ownsRow_nil _ _ _ _, start _⟩
    case round =>
      obtain ⟨q, hq, rfl, hown, hbq⟩ := hrel
      by_cases hlt : q < NL
      · have hql : q < l.length := by have := HNL.out; omega
        have hcq := hcs.keep hbq hbc
        obtain ⟨x1, x2⟩ := hcq q hql
        clear hcq
        obtain ⟨MX, MY, hM⟩ : ∃ x y, meet (l[q].1, l[q].2) (m, m + 10) = (x, y) := ⟨_, _, rfl⟩
        obtain ⟨MD, hMD⟩ : ∃ D, minus (l[q].1, l[q].2) (m, m + 10) = D := ⟨_, rfl⟩
        have hMDn : MD.length ≤ 2 := by rw [← hMD]; exact minus_len _ _
        have hCT := cutL_take l (m, m + 10) q hql
        rw [show meet l[q] (m, m + 10) = (MX, MY) from hM, show minus l[q] (m, m + 10) = MD from hMD] at hCT
        have HM := hide hM
        have HMD := hide hMD
        have HCT := hide hCT
        have hcl : (cutL (l.take q) (m, m + 10)).length ≤ 60 := by
          have h3 := cutL_len (l.take q) (m, m + 10)
          rw [List.length_take] at h3
          omega
        have hlt2 : (q : Int) < (NL : Int) := by omega
        clear hM hMD hCT
        have hX := box_new wr m (m + 10)
        have hgX := fun g e => Nat.ne_of_lt (hown.lt g e).2
        have hownW := World.ownsRow.alloc hown (.cells #[.int .i64 m, .int .i64 (m + 10)] 23)
        have hbW := more hbq (.cells #[.int .i64 m, .int .i64 (m + 10)] 23)
        go_wp2_with fail
        replace hown := hownW
        clear hownW hbq x1 x2
        have hcq := hcs.keep hbW hbc
        obtain ⟨x1, x2⟩ := hcq q hql
        clear hcq
        generalize wr.alloc (.cells #[.int .i64 m, .int .i64 (m + 10)] 23) = W at *
        generalize wr.heap.size = X at *
        have hS :  W.cell? ⟨b, off + q * 2, none⟩ = some (.int .i64 l[q].1) ∧ W.cell? ⟨b, off + q * 2 + 1, none⟩ = some (.int .i64 l[q].2) ∧ W.cell? ⟨X, 0, none⟩ = some (.int .i64 m) ∧ W.cell? ⟨X, 1, none⟩ = some (.int .i64 (m + 10)) ∧ X < W.heap.size ∧ Below wc.heap.size wc W := ⟨x1, x2, hX.c0, hX.c1, hX.lt, hbW⟩
        clear x1 x2 hX hbW
        try simp only [List.append]
        refine wp_region_held_drew (S := (fun w' => w'.cell? ⟨b, off + q * 2, none⟩ = some (.int .i64 l[q].1) ∧ w'.cell? ⟨b, off + q * 2 + 1, none⟩ = some (.int .i64 l[q].2) ∧ w'.cell? ⟨X, 0, none⟩ = some (.int .i64 m) ∧ w'.cell? ⟨X, 1, none⟩ = some (.int .i64 (m + 10)) ∧ X < w'.heap.size ∧ Below wc.heap.size wc w')) (by kernel_rfl) ?_ (fun hH0 => ?_)
        · exact cut_keep (ev_full (Below.drew (start _)) hS.2.2.2.2.1 hS.2.2.2.2.2.size) hS
        refine' wpAnyH_take (i := 0) (oi := _) (v := ?v500) rfl (by as_aux_lemma => kernel_rfl) (by as_aux_lemma => kernel_rfl) (by as_aux_lemma => kernel_rfl) (fun _ _ _ h => h) (Or.inl ⟨by rfl, ?y500⟩) hH0 ?r500
        case y500 => (intro w hSw; (try dsimp only at hSw); go_simp; (try with_reducible rfl))
        try simp only [Act.put, List.getElem_toArray, List.getElem_cons_succ, List.getElem_cons_zero, List.setIfInBounds_toArray, List.set_cons_zero, List.set_cons_succ]
        refine' wpAnyH_take (i := 1) (oi := _) (v := ?v501) rfl (by as_aux_lemma => kernel_rfl) (by as_aux_lemma => kernel_rfl) (by as_aux_lemma => kernel_rfl) (fun _ _ _ h => h) (Or.inl ⟨by rfl, ?y501⟩) hH0 ?r501
        case y501 => (intro w hSw; (try dsimp only at hSw); go_simp; (try with_reducible rfl))
        try simp only [Act.put, List.getElem_toArray, List.getElem_cons_succ, List.getElem_cons_zero, List.setIfInBounds_toArray, List.set_cons_zero, List.set_cons_succ]
        refine' wpAnyH_take (i := 2) (oi := _) (v := ?v502) rfl (by as_aux_lemma => kernel_rfl) (by as_aux_lemma => kernel_rfl) (by as_aux_lemma => kernel_rfl) (fun _ _ _ h => h) (Or.inl ⟨by rfl, ?y502⟩) hH0 ?r502
        case y502 => (intro w hSw; (try dsimp only at hSw); go_simp; (try with_reducible rfl))
        try simp only [Act.put, List.getElem_toArray, List.getElem_cons_succ, List.getElem_cons_zero, List.setIfInBounds_toArray, List.set_cons_zero, List.set_cons_succ]
        refine' wpAnyH_take (i := 3) (oi := _) (v := ?v503) rfl (by as_aux_lemma => kernel_rfl) (by as_aux_lemma => kernel_rfl) (by as_aux_lemma => kernel_rfl) (fun _ _ _ h => h) (Or.inl ⟨by rfl, ?y503⟩) hH0 ?r503
        case y503 => (intro w hSw; (try dsimp only at hSw); go_simp; (try with_reducible rfl))
        try simp only [Act.put, List.getElem_toArray, List.getElem_cons_succ, List.getElem_cons_zero, List.setIfInBounds_toArray, List.set_cons_zero, List.set_cons_succ]
        refine' wpAnyH_take (i := 4) (oi := _) (v := ?v504) rfl (by as_aux_lemma => kernel_rfl) (by as_aux_lemma => kernel_rfl) (by as_aux_lemma => kernel_rfl) (fun _ _ _ h => h) (Or.inl ⟨by rfl, ?y504⟩) hH0 ?r504
        case y504 => (intro w hSw; (try dsimp only at hSw); go_simp; (try with_reducible rfl))
        try simp only [Act.put, List.getElem_toArray, List.getElem_cons_succ, List.getElem_cons_zero, List.setIfInBounds_toArray, List.set_cons_zero, List.set_cons_succ]
        refine' wpAnyH_take (i := 5) (oi := _) (v := ?v505) rfl (by as_aux_lemma => kernel_rfl) (by as_aux_lemma => kernel_rfl) (by as_aux_lemma => kernel_rfl) (fun _ _ _ h => h) (Or.inl ⟨by rfl, ?y505⟩) hH0 ?r505
        case y505 => (intro w hSw; (try dsimp only at hSw); go_simp; (try with_reducible rfl))
        try simp only [Act.put, List.getElem_toArray, List.getElem_cons_succ, List.getElem_cons_zero, List.setIfInBounds_toArray, List.set_cons_zero, List.set_cons_succ]
        refine' wpAnyH_take (i := 9) (oi := _) (v := ?v506) rfl (by as_aux_lemma => kernel_rfl) (by as_aux_lemma => kernel_rfl) (by as_aux_lemma => kernel_rfl) (fun _ _ _ h => h) (Or.inl ⟨by rfl, ?y506⟩) hH0 ?r506
        case y506 => (intro w hSw; (try dsimp only at hSw); go_simp; (try with_reducible rfl))
        try simp only [Act.put, List.getElem_toArray, List.getElem_cons_succ, List.getElem_cons_zero, List.setIfInBounds_toArray, List.set_cons_zero, List.set_cons_succ]
        refine' wpAnyH_take (i := 10) (oi := _) (v := ?v507) rfl (by as_aux_lemma => kernel_rfl) (by as_aux_lemma => kernel_rfl) (by as_aux_lemma => kernel_rfl) (fun _ _ _ h => h) (Or.inl ⟨by rfl, ?y507⟩) hH0 ?r507
        case y507 => (intro w hSw; (try dsimp only at hSw); go_simp; (try with_reducible rfl))
        try simp only [Act.put, List.getElem_toArray, List.getElem_cons_succ, List.getElem_cons_zero, List.setIfInBounds_toArray, List.set_cons_zero, List.set_cons_succ]
        refine' wpAnyH_take (i := 11) (oi := _) (v := ?v508) rfl (by as_aux_lemma => kernel_rfl) (by as_aux_lemma => kernel_rfl) (by as_aux_lemma => kernel_rfl) (fun _ _ _ h => h) (Or.inl ⟨by rfl, ?y508⟩) hH0 ?r508
        case y508 => (intro w hSw; (try dsimp only at hSw); go_simp; (try with_reducible rfl))
        try simp only [Act.put, List.getElem_toArray, List.getElem_cons_succ, List.getElem_cons_zero, List.setIfInBounds_toArray, List.set_cons_zero, List.set_cons_succ]
        refine' wpAnyH_take (i := 12) (oi := _) (v := ?v509) rfl (by as_aux_lemma => kernel_rfl) (by as_aux_lemma => kernel_rfl) (by as_aux_lemma => kernel_rfl) (fun _ _ _ h => h) (Or.inl ⟨by rfl, ?y509⟩) hH0 ?r509
        case y509 => (intro w hSw; (try dsimp only at hSw); go_simp; (try with_reducible rfl))
        try simp only [Act.put, List.getElem_toArray, List.getElem_cons_succ, List.getElem_cons_zero, List.setIfInBounds_toArray, List.set_cons_zero, List.set_cons_succ]
        refine' wpAnyH_take (i := 13) (oi := _) (v := ?v510) rfl (by as_aux_lemma => kernel_rfl) (by as_aux_lemma => kernel_rfl) (by as_aux_lemma => kernel_rfl) (fun _ _ _ h => h) (Or.inl ⟨by rfl, ?y510⟩) hH0 ?r510
        case y510 => (intro w hSw; (try dsimp only at hSw); go_simp; (try with_reducible rfl))
        try simp only [Act.put, List.getElem_toArray, List.getElem_cons_succ, List.getElem_cons_zero, List.setIfInBounds_toArray, List.set_cons_zero, List.set_cons_succ]
        refine wpAnyH_ready (rs := [6]) (by as_aux_lemma => kernel_rfl) (by simp) ?_
        refine AllReadyH.cons (o := _) rfl (fun K hK => ?_) AllReadyH.nil
        go_simp
        refine (meet_is l[q].1 l[q].2 m (m + 10) MX MY _ HM.out).mono ?_
        rintro e w2 ⟨rfl, hb2⟩
        have hb := ev_full hb2 hH0.2.2.2.2.1 hH0.2.2.2.2.2.size
        have hown1 := Own.keep (Own.drew hown) hb2
        refine hK.out _ _ (cut_keep hb hH0) (fun hN => ?_)
        clear hK K hH0
        have hH1 := hN
        clear hN
        try simp only [Act.put, List.getElem_toArray, List.getElem_cons_succ, List.getElem_cons_zero, List.setIfInBounds_toArray, List.set_cons_zero, List.set_cons_succ]
        refine wpAnyH_ready (rs := [7]) (by as_aux_lemma => kernel_rfl) (by simp) ?_
        refine AllReadyH.cons (o := _) rfl (fun K hK => ?_) AllReadyH.nil
        go_simp
        have hblk := blk_of MX MY hH1.2.2.2.2.2
        have hown2 := World.ownsRow.alloc hown1 (.cells #[.int .i64 MX, .int .i64 MY] 23)
        refine hK.out _ _ (cut_keepB _ hH1) (fun hN => ?_)
        clear hK K hH1
        have hH2 := hN
        clear hN
        try simp only [Act.put, List.getElem_toArray, List.getElem_cons_succ, List.getElem_cons_zero, List.setIfInBounds_toArray, List.set_cons_zero, List.set_cons_succ]
        refine wpAnyH_ready (rs := [8]) (by as_aux_lemma => kernel_rfl) (by simp) ?_
        refine AllReadyH.cons (o := _) rfl (fun K hK => ?_) AllReadyH.nil
        refine step_at (l := cutL (l.take q) (m, m + 10)) (k := [(MX, MY)]) rfl _ _ rfl rfl rfl rfl hblk hown2 hH2.2.2.2.2.2.size (by omega) (by simp) ?_
        intro v8 w8 hown8 hb8 hk8 hat8
        have hb := ev_kept hb8 hk8 hgX
        have hg8 := own_ne hat8 hgX hH2.2.2.2.2.1
        refine hK.out _ _ (cut_keep hb hH2) (fun hN => ?_)
        clear hK K hH2
        have hH3 := hN
        clear hN
        try simp only [Act.put, List.getElem_toArray, List.getElem_cons_succ, List.getElem_cons_zero, List.setIfInBounds_toArray, List.set_cons_zero, List.set_cons_succ]
        refine wpAnyH_ready (rs := [14]) (by as_aux_lemma => kernel_rfl) (by simp) ?_
        refine AllReadyH.cons (o := _) rfl (fun K hK => ?_) AllReadyH.nil
        go_simp
        refine (minus_is l[q].1 l[q].2 m (m + 10) MD _ HMD.out).mono ?_
        rintro e w14 ⟨y, rfl, hown14, hb14⟩
        have hb := ev_full hb14 hH3.2.2.2.2.1 hH3.2.2.2.2.2.size
        have hown9 := Own.keep hown8 hb14
        refine hK.out _ _ (cut_keep hb hH3) (fun hN => ?_)
        clear hK K hH3
        have hH4 := hN
        clear hN
        try simp only [Act.put, List.getElem_toArray, List.getElem_cons_succ, List.getElem_cons_zero, List.setIfInBounds_toArray, List.set_cons_zero, List.set_cons_succ]
        refine wpAnyH_ready (rs := [15]) (by as_aux_lemma => kernel_rfl) (by simp) ?_
        refine AllReadyH.cons (o := _) rfl (fun K hK => ?_) AllReadyH.nil
        refine step_own (l := cutL (l.take q) (m, m + 10) ++ [(MX, MY)]) (k := MD) rfl _ _ rfl rfl rfl hown14 hown9 hH4.2.2.2.2.2.size (by simp only [List.length_append, List.length_cons, List.length_nil]; omega) (by omega) ?_
        intro v15 w15 hown15 hb15 hk15 hat15
        have hb := ev_kept hb15 hk15 hg8
        refine hK.out _ _ (cut_keep hb hH4) (fun hN => ?_)
        clear hK K hH4
        have hH5 := hN
        clear hN
        try simp only [Act.put, List.getElem_toArray, List.getElem_cons_succ, List.getElem_cons_zero, List.setIfInBounds_toArray, List.set_cons_zero, List.set_cons_succ]
        refine' wpAnyH_take (i := 16) (oi := _) (v := ?v511) rfl (by as_aux_lemma => kernel_rfl) (by as_aux_lemma => kernel_rfl) (by as_aux_lemma => kernel_rfl) (fun _ _ _ h => h) (Or.inl ⟨by rfl, ?y511⟩) hH5 ?r511
        case y511 => (intro w hSw; (try dsimp only at hSw); go_simp; (try with_reducible rfl))
        try simp only [Act.put, List.getElem_toArray, List.getElem_cons_succ, List.getElem_cons_zero, List.setIfInBounds_toArray, List.set_cons_zero, List.set_cons_succ]
        refine wpAnyH_done (by as_aux_lemma => kernel_rfl) ?_ _
        go_wp2_with fail
        go_roundw
        case rel => exact ⟨q + 1, by omega, by go_num, by rw [HCT.out]; exact hown15, hH5.2.2.2.2.2⟩
        case measure => simp [intOf]; omega

      · obtain rfl : q = NL := by omega
        rw [List.take_of_length_le (by rw [HNL.out]; exact Nat.le_refl _), HCUT.out] at hown
        obtain ⟨A2, c2, rfl, hr2⟩ := Own.row hown
        have hrl := (hcs.keep hbq hbc).row (Nat.lt_of_lt_of_le hbc hbq.size)
        replace hr1 := hr1.keep hbq
        have hbz := hbw.trans (hbq.mono hbw.size)
        clear hown hbq hcs
        go_wp2_with fail
        refine (all_is _ _ c l C _ hrl HNL.out.symm (by rw [HNL.out]; omega) HC.out).mono ?_
        rintro e w3 ⟨v3, rfl, hown3, hb3⟩
        obtain ⟨A3, c3, rfl, hr3⟩ := Own.row hown3
        replace hr1 := hr1.keep hb3
        replace hr2 := hr2.keep hb3
        replace hbz := andthen hbz hb3
        clear hown3 hb3 hrl
        go_wp2_with fail
        refine (all_is A1 _ c1 RL C _ hr1 rfl (by omega) HC1.out).mono ?_
        rintro e w4 ⟨v4, rfl, hown4, hb4⟩
        obtain ⟨A4, c4, rfl, hr4⟩ := Own.row hown4
        replace hr2 := hr2.keep hb4
        replace hr3 := hr3.keep hb4
        replace hbz := andthen hbz hb4
        clear hown4 hb4 hr1
        go_wp2_with fail
        refine (R.same_self A4 A3 _ _ _ _ C _ hr4 hr3 rfl rfl (by omega)).mono ?_
        rintro e w5 ⟨rfl, hb5⟩
        replace hr2 := hr2.keep hb5
        replace hr3 := hr3.keep hb5
        replace hbz := andthen hbz hb5
        clear hb5 hr4
        go_wp2_with fail
        refine (all_is A2 _ c2 CUT C _ hr2 rfl (by omega) HC2.out).mono ?_
        rintro e w6 ⟨v6, rfl, hown6, hb6⟩
        obtain ⟨A6, c6, rfl, hr6⟩ := Own.row hown6
        replace hr3 := hr3.keep hb6
        replace hbz := andthen hbz hb6
        clear hown6 hb6 hr2
        go_wp2_with fail
        refine (R.same_self A6 A3 _ _ _ _ C _ hr6 hr3 rfl rfl (by omega)).mono ?_
        rintro e w7 ⟨rfl, hb7⟩
        replace hr3 := hr3.keep hb7
        replace hbz := andthen hbz hb7
        clear hb7 hr6
        go_wp2_with fail
        refine (all_is A3 _ c3 C C _ hr3 rfl (by omega) HC3.out).mono ?_
        rintro e w8 ⟨v8, rfl, hown8, hb8⟩
        obtain ⟨A8, c8, rfl, hr8⟩ := Own.row hown8
        replace hr3 := hr3.keep hb8
        replace hbz := andthen hbz hb8
        clear hown8 hb8
        go_wp2_with fail
        refine (R.same_self A8 A3 _ _ _ _ C _ hr8 hr3 rfl rfl (by omega)).mono ?_
        rintro e w9 ⟨rfl, hb9⟩
        replace hbz := andthen hbz hb9
        go_wp2_with fail
        go_ret
        exact ⟨rfl, hbz⟩

end Go.Proofs.Ytncciofckfbcaaa

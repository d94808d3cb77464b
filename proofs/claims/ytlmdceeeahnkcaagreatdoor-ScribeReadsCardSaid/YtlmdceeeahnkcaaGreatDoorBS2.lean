/- TpD; TpE of the recipes, what is needed of them. -/
import Derived.Laws.AppendOwn
import Derived.OwnWalk
import Derived.LoopTactic
import Derived.Test.YtlmdceeeahnkcaaGreatDoorBS1
namespace Go.Proofs.YtlmdceeeahnkcaaGreatDoor.S2
open Go.RowKit Spn

/-- the cells of a row of spans. -/
def cellsL (l : List Sp) : List Value := l.flatMap fun a => [.int .i64 a.1, .int .i64 a.2]
theorem cellsL_cons (a : Sp) (l : List Sp) : cellsL (a :: l) = .int .i64 a.1 :: .int .i64 a.2 :: cellsL l := rfl
theorem cellsL_append (l k : List Sp) : cellsL (l ++ k) = cellsL l ++ cellsL k := by simp [cellsL]
theorem cellsL_len : ∀ l : List Sp, (cellsL l).length = l.length * 2
  | [] => rfl
  | a :: l => by rw [cellsL_cons, List.length_cons, List.length_cons, cellsL_len l, List.length_cons]; omega
theorem cellsL_get : ∀ (l : List Sp) (i : Nat) (h : i < l.length), (cellsL l)[i * 2]? = some (.int .i64 l[i].1) ∧ (cellsL l)[i * 2 + 1]? = some (.int .i64 l[i].2)
  | [], i, h => absurd h (Nat.not_lt_zero i)
  | a :: l, 0, _ => by simp [cellsL_cons]
  | a :: l, i + 1, h => by
    have hi : i < l.length := by simpa using h
    have := cellsL_get l i hi
    rw [cellsL_cons, show (i + 1) * 2 = i * 2 + 1 + 1 by omega]
    simpa using this
theorem cellsL_one (l : List Sp) : ∀ u ∈ cellsL l, u.oneCell' = true := by
  intro u hu
  obtain ⟨a, _, h⟩ := List.mem_flatMap.1 hu
  simp only [List.mem_cons, List.not_mem_nil, or_false] at h
  rcases h with rfl | rfl <;> rfl

/-- a slice that begins at A reads as the row. -/
def Row (w : World) (A : Option Addr) (l : List Sp) : Prop :=
  l ≠ [] → ∃ b off, A = some ⟨b, off, none⟩ ∧ b < w.heap.size ∧ ∀ i (h : i < l.length),
    w.cell? ⟨b, off + i * 2, none⟩ = some (.int .i64 l[i].1) ∧ w.cell? ⟨b, off + i * 2 + 1, none⟩ = some (.int .i64 l[i].2)
theorem Row.nil (w : World) (A : Option Addr) : Row w A [] := fun h => absurd rfl h
theorem Row.keep {w w1 : World} {A : Option Addr} {l : List Sp} (h : Row w A l) (hb : Below w.heap.size w w1) : Row w1 A l := fun hl => by
  obtain ⟨b, off, e, hlt, hc⟩ := h hl
  exact ⟨b, off, e, Nat.lt_of_lt_of_le hlt hb.size, fun i hi => ⟨(hb.cell (p := ⟨b, _, none⟩) hlt).trans (hc i hi).1, (hb.cell (p := ⟨b, _, none⟩) hlt).trans (hc i hi).2⟩⟩
/-- a call's own slice. -/
abbrev Own (w : World) (B : Nat) (v : Value) (l : List Sp) : Prop := w.ownsRow B 50 2 v l.length (cellsL l)
theorem plus (g j : Nat) : (⟨g, 0, none⟩ : Addr).add j = ⟨g, j, none⟩ := by unfold Addr.add; split <;> simp_all
theorem Own.row {w : World} {B : Nat} {v : Value} {l : List Sp} (h : Own w B v l) : ∃ A cap, v = .slice A l.length cap ∧ Row w A l := by
  have h2 := h.2
  rcases h2 with ⟨rfl, hn⟩ | ⟨g, cap, cur, rfl, hb, hg, hnc, hcm, hcs, htake⟩
  · refine ⟨none, 0, by rw [hn], fun hl => absurd (List.eq_nil_of_length_eq_zero hn) hl⟩
  · refine ⟨some ⟨g, 0, none⟩, cap, rfl, fun _ => ⟨g, 0, rfl, (h.lt g rfl).2, fun i hi => ?_⟩⟩
    have hc := World.ownsRow.cells h (g := g) rfl
    obtain ⟨c1, c2⟩ := cellsL_get l i hi
    have g1 := hc _ _ c1
    have g2 := hc _ _ c2
    rw [plus] at g1 g2
    rw [Nat.zero_add]
    exact ⟨g1, g2⟩
theorem Own.keep {w w1 : World} {B : Nat} {v : Value} {l : List Sp} (h : Own w B v l) (hb : Below w.heap.size w w1) : Own w1 B v l :=
  World.ownsRow.kept (row := none) h ⟨hb.os, hb.tape, hb.output, hb.size, fun i hi _ => hb.block i hi⟩ (by cases v.ownBlock <;> simp)
/-- a call hands back a row of its own and leaves all else. -/
def Gives (W : World) (l : List Sp) (e : Ending) (w : World) : Prop := ∃ v, e = .returned v ∧ Own w W.heap.size v l ∧ Below W.heap.size W w
theorem span_info : (Tryz.prog.info? 50).map (fun i => (i.zero, i.size, i.bytes)) = some (some (.agg #[.int .i64 0, .int .i64 0]), 2, 16) := by kernel_rfl

/-- one span more behind a call's own row. -/
theorem wp_one {ops : Array Oper} {rest : List Oper} {o : Oper} {a : Act} {Q : Exit → Act → World → Prop} {w : World} {B : Nat} {v : Value} {l : List Sp} {p : Sp} (hgd : o.guard = none) (s x : Operand)
    (ho : o.op = .call { callee := .builtin .append, args := #[s, x], argTypes := #[113, 113] }) (hs : a.eval s = v) {N : Nat} (hN : w.heap.size = N) (hx : a.eval x = .slice (some ⟨N, 0, none⟩) 1 1)
    (hown : Own w B v l) (hB : B ≤ w.heap.size) (hn : l.length ≤ 1000000)
    (h : ∀ v' w', Own w' B v' (l ++ [p]) → Below B w w' → wpList Tryz.prog ops Q rest (a.put o.dst v') w') :
    wpList Tryz.prog ops Q (o :: rest) a (w.alloc (.cells #[.int .i64 p.1, .int .i64 p.2] 50)) := by
  subst hN
  obtain ⟨i0, hi, hz0, hz1, hz2⟩ := info_parts span_info
  refine wpList_append_own _ hgd s x 113 ho B 50 i0 _ 2 16 Tryz.underlying113 hi hz0 hz1 hz2 rfl (by decide) v l.length (cellsL l) hs (hown.alloc _) ⟨w.heap.size, 0, none⟩ 1 1 [.int .i64 p.1, .int .i64 p.2] hx rfl ?_ ?_ ?_ ?_ ?_ ?_
  · intro j u hu
    rw [plus, World.cell?_alloc_at _ _ _ _ rfl]
    exact (by simpa using hu)
  · intro u hu
    simp only [List.mem_cons, List.not_mem_nil, or_false] at hu
    rcases hu with rfl | rfl <;> rfl
  · unfold maxLen; omega
  · omega
  · simp only [World.size_alloc]; omega
  · intro v' w' h2 h3 _
    refine h v' w' (by rw [Own, cellsL_append, List.length_append]; exact h2) (((Below.refl B w).alloc hB _).grown h3 (by simp only [World.size_alloc]; omega) fun j hj => (hown.lt j hj).1)

theorem valid_snoc (l : List Sp) (k : Nat) (h : k < l.length) (hb : okB l[k] = true) : valid (l.take (k + 1)) = valid (l.take k) ++ [l[k]] := by
  rw [List.take_succ_eq_append_getElem h]; unfold valid; rw [List.filter_append]; simp [hb]
theorem valid_skip (l : List Sp) (k : Nat) (h : k < l.length) (hb : okB l[k] = false) : valid (l.take (k + 1)) = valid (l.take k) := by
  rw [List.take_succ_eq_append_getElem h]; unfold valid; rw [List.filter_append]; simp [hb]
theorem valid_len (l : List Sp) : (valid l).length ≤ l.length := List.length_filter_le _ _

set_option maxRecDepth 100000 in
set_option maxHeartbeats 1000000 in
theorem valid_some (b off c : Nat) (l : List Sp) (w : World) (hb : b < w.heap.size) (hn : l.length ≤ 1000000)
    (hc : ∀ i (h : i < l.length), w.cell? ⟨b, off + i * 2, none⟩ = some (.int .i64 l[i].1) ∧ w.cell? ⟨b, off + i * 2 + 1, none⟩ = some (.int .i64 l[i].2)) :
    Calls Tryz.prog 167 #[.slice (some ⟨b, off, none⟩) l.length c] w (Gives w (valid l)) := by
  obtain ⟨i0, hi, hz0, hz1, hz2⟩ := info_parts span_info
  have HC := hide hc
  clear hc
  go_enter Tryz.func167, Tryz.ntmps167
  go_wp2_with fail
  go_loopw [3, 8] (fun v i wr => ∃ k : Nat, k ≤ l.length ∧ i = .int .i64 k ∧ Own wr w.heap.size v (valid (l.take k)) ∧ Below w.heap.size w wr) (fun _ i _ => l.length - (intOf i).toNat)
  case atStart => exact ⟨0, Nat.zero_le _, rfl, World.ownsRow_nil _ _ _ _, start _⟩
  case round =>
    obtain ⟨k, hk, rfl, hown, hbw⟩ := hrel
    by_cases hlt : k < l.length
    · obtain ⟨c1, c2⟩ := HC.out k hlt
      obtain ⟨hc, hf⟩ := old hbw
      have hsz := hbw.size
      have hvl := valid_len (l.take k)
      have htl : (l.take k).length ≤ k := List.length_take_le _ _
      cases hok : okB (l[k].1, l[k].2)
      · have HOK := hide hok
        have HV := hide (valid_skip l k hlt hok)
        clear hok
        go_wp2_with fail
        refine (is_at _ _ false _ HOK.out).mono ?_
        rintro e w1 ⟨rfl, hb1⟩
        have hbb := andthen (more (start _) _) hb1
        go_wp2_with fail
        go_roundw
        case rel => exact ⟨k + 1, by omega, by go_num, by rw [HV.out]; exact Own.keep hown hbb, hbw.trans (hbb.mono hsz)⟩
        case measure => simp [intOf]; omega
      · have HOK := hide hok
        have HV := hide (valid_snoc l k hlt hok)
        clear hok
        go_wp2_with fail
        refine (is_at _ _ true _ HOK.out).mono ?_
        rintro e w1 ⟨rfl, hb1⟩
        have hbb := andthen (more (start _) _) hb1
        have hown1 := Own.keep hown hbb
        obtain ⟨hd, he⟩ := old hb1
        have hzz : wr.heap.size < w1.heap.size := by have := hb1.size; simp only [World.size_alloc] at this; omega
        go_wp2_with (at_builtin; refine wp_one (p := l[k]) rfl _ _ rfl rfl rfl rfl hown1 (by omega) (by omega) ?_; intro v2 w2 hown2 hbw2)
        go_roundw
        case rel => exact ⟨k + 1, by omega, by go_num, by rw [HV.out]; exact hown2, (hbw.trans (hbb.mono hsz)).trans hbw2⟩
        case measure => simp [intOf]; omega
    · obtain rfl : k = l.length := by omega
      rw [List.take_length] at hown
      go_wp2_with fail
      go_ret
      exact ⟨_, rfl, hown, hbw⟩

end Go.Proofs.YtlmdceeeahnkcaaGreatDoor.S2
namespace Go.Proofs.YtlmdceeeahnkcaaGreatDoor.S2
open Go.RowKit Spn

set_option maxHeartbeats 400000 in
theorem valid_none (A : Option Addr) (c : Nat) (w : World) : Calls Tryz.prog 167 #[.slice A 0 c] w (Gives w []) := by
  go_enter Tryz.func167, Tryz.ntmps167
  go_wp2_with fail
  refine wp_loop_rounds 1 ?_
  rw [rounds_succ]
  go_wp2_with fail
  go_ret
  exact ⟨_, rfl, World.ownsRow_nil _ _ _ _, start _⟩
theorem valid_any (A : Option Addr) (n c : Nat) (l : List Sp) (w : World) (h : Row w A l) (he : n = l.length) (hn : l.length ≤ 1000000) :
    Calls Tryz.prog 167 #[.slice A n c] w (Gives w (valid l)) := by
  subst he
  by_cases hl : l = []
  · subst hl; exact valid_none A c w
  · obtain ⟨b, off, rfl, hb, hc⟩ := h hl
    exact valid_some b off c l w hb hn hc
theorem Own.low {w : World} {B B' : Nat} {v : Value} {l : List Sp} (h : Own w B' v l) (hB : B ≤ B') : Own w B v l := by
  refine ⟨h.1, ?_⟩
  rcases h.2 with h2 | ⟨g, cap, cur, h1, h2, h3⟩
  · exact Or.inl h2
  · exact Or.inr ⟨g, cap, cur, h1, Nat.le_trans hB h2, h3⟩
theorem Gives.of {W w : World} {B : Nat} {v : Value} {l : List Sp} (h : Own w B v l) (hB : W.heap.size ≤ B) (hw : Below W.heap.size W w) : Gives W l (.returned v) w := ⟨v, rfl, h.low hB, hw⟩

end Go.Proofs.YtlmdceeeahnkcaaGreatDoor.S2

/- TnP; TnQ of the recipes, what is needed of them. -/
import Derived.Laws.OwnMore
import Derived.Test.YtphojcnehgdbmaaBS10
namespace Go.Proofs.Ytphojcnehgdbmaa.S2
open Go.RowKit Spn

/-- block g is a set's. -/
def One (w : World) (g : Nat) : Prop := ∃ u, w.heap[g]? = some (.cells #[u] 69 (0, 0))
theorem One.no {w : World} {g o : Nat} {u : Value} (h : One w g) (ho : 1 ≤ o) (hc : w.cell? ⟨g, o, none⟩ = some u) : False := by
  obtain ⟨v, hv⟩ := h
  rw [cell_of_row w g o _ _ _ hv] at hc
  obtain ⟨k, rfl⟩ : ∃ k, o = k + 1 := ⟨o - 1, by omega⟩
  simp at hc
theorem SetAt.one {w : World} {g : Nat} {l : List Sp} (h : SetAt w g l) : One w g := by
  obtain ⟨p, t, h, _⟩ := h
  exact ⟨_, h⟩
/-- all but block g is as it was. -/
abbrev Chg (g : Nat) (w w' : World) : Prop := w.grownBy w' (some g)
theorem Chg.block {g : Nat} {w w' : World} (h : Chg g w w') {b : Nat} (hb : b < w.heap.size) (hne : b ≠ g) : w'.heap[b]? = w.heap[b]? :=
  World.grownBy.block h b hb fun he => hne (by injection he)
theorem Chg.cell' {g : Nat} {w w' : World} (h : Chg g w w') {b o : Nat} {u : Value} (hne : b ≠ g) (hc : w.cell? ⟨b, o, none⟩ = some u) : w'.cell? ⟨b, o, none⟩ = some u :=
  World.grownBy.cell h hc fun he => hne (by injection he)
theorem Chg.below {g B : Nat} {W w w' : World} (h : Chg g w w') (hb : Below B W w) (hB : B ≤ w.heap.size) (hg : B ≤ g) : Below B W w' := hb.grown h hB fun k hk => by injection hk with hk; omega
theorem Below.chg {g : Nat} {w w1 w2 : World} (hb : Below w.heap.size w w1) (h : Chg g w1 w2) : Chg g w w2 := by
  have hb' : Chg g w w1 := ⟨hb.os, hb.tape, hb.output, hb.size, fun k hk _ => hb.block k hk⟩
  exact hb'.trans h
theorem Tree.other {w w' : World} {g : Nat} (h1 : One w g) (hc : Chg g w w') : ∀ {t : Tr} {p : Option Addr}, Tree w p t → Tree w' p t
  | .nil, _, h => h
  | .node _ _ _, _, ⟨b, pl, pr, e, hn, hl, hr⟩ => by
    have hne : b ≠ g := fun he => by subst he; exact h1.no (Nat.le_refl _) hn.c1
    exact ⟨b, pl, pr, e, ⟨Nat.lt_of_lt_of_le hn.lt hc.size, hc.cell' hne hn.c0, hc.cell' hne hn.c1, hc.cell' hne hn.c2, hc.cell' hne hn.c3, hc.cell' hne hn.c4⟩, Tree.other h1 hc hl, Tree.other h1 hc hr⟩
theorem SetAt.other {w w' : World} {g g' : Nat} {l : List Sp} (h : SetAt w g' l) (h1 : One w g) (hc : Chg g w w') (hne : g' ≠ g) : SetAt w' g' l := by
  have hlt := h.lt
  obtain ⟨p, t, h0, ht, h2⟩ := h
  exact ⟨p, t, (hc.block hlt hne).trans h0, Tree.other h1 hc ht, h2⟩
theorem Own.other {w w' : World} {g B : Nat} {v : Value} {l : List Sp} (h : Own w B v l) (h1 : One w g) (hc : Chg g w w') : Own w' B v l := by
  refine World.ownsRow.kept h hc ?_
  rcases h.2 with ⟨rfl, _⟩ | ⟨k, cap, cur, rfl, _, hk, _⟩
  · exact Or.inl rfl
  · refine Or.inr fun he => ?_
    injection he with he
    change k = g at he
    subst he
    obtain ⟨u, hu⟩ := h1
    rw [hu] at hk
    injection hk with hk
    injection hk with _ hk
    exact absurd hk (by decide)
theorem chg_set (w : World) (g : Nat) (u : Value) : Chg g w (w.setCell ⟨g, 0, none⟩ u) :=
  ⟨rfl, rfl, rfl, by simp [World.setCell], fun k _ hne => by
    rw [Below.heap_setCell]; intro he; exact hne (by rw [he])⟩
theorem set_back {w : World} {g : Nat} {p p' : Option Addr} {t : Tr} {l : List Sp} (h : w.heap[g]? = some (.cells #[.pointer p] 69 (0, 0))) (ht : Tree w p' t) (hr : t.row = l) (hb : t.Bal) (hn : Neat l) :
    SetAt (w.setCell ⟨g, 0, none⟩ (.pointer p')) g l ∧ Chg g w (w.setCell ⟨g, 0, none⟩ (.pointer p')) := by
  have hc := chg_set w g (.pointer p')
  exact ⟨⟨p', t, by simp [World.setCell, Array.getElem?_modify, h], Tree.other ⟨_, h⟩ hc ht, hr, hb, hn⟩, hc⟩
/-- what replace's loop holds. -/
def Fills (W : World) (l : List Sp) (v : Value) (w : World) : Prop := ∃ p t, v = .pointer p ∧ Tree w p t ∧ Of' l t ∧ Below W.heap.size W w

set_option maxRecDepth 100000 in
set_option maxHeartbeats 1600000 in
theorem replace_any (g : Nat) (l : List Sp) (x y : Int) (A : Option Addr) (n c : Nat) (o : List Sp) (w : World) (h : SetAt w g l) (hrow : Row w A o) (hn : n = o.length) (hlen : l.length + o.length ≤ 700000) (hneat : Neat (bef l x ++ o ++ aft l y)) :
    Calls Try.prog 41 #[.pointer (some ⟨g, 0, none⟩), .agg #[.int .i64 x, .int .i64 y], .slice A n c] w fun e w' => e = .returned (.tuple #[]) ∧ SetAt w' g (bef l x ++ o ++ aft l y) ∧ Chg g w w' := by
  subst hn
  have hbx := more (start w) (.cells #[.int .i64 x, .int .i64 y] 52)
  have HNL := hide h.neat
  have HNT := hide hneat
  have hlt := h.lt
  obtain ⟨p, t, hh, ht, hrw, hbal, _⟩ := h
  have HH := hide ((hbx.block g hlt).trans hh)
  have c0 : w.cell? ⟨g, 0, none⟩ = some (.pointer p) := by rw [cell_of_row w g 0 _ _ _ hh]; rfl
  have HS : (w.alloc (.cells #[.int .i64 x, .int .i64 y] 52)).cell? ⟨w.heap.size, 0, none⟩ = some (.int .i64 x) ∧ (w.alloc (.cells #[.int .i64 x, .int .i64 y] 52)).cell? ⟨w.heap.size, 1, none⟩ = some (.int .i64 y) ∧ (w.alloc (.cells #[.int .i64 x, .int .i64 y] 52)).cell? ⟨g, 0, none⟩ = some (.pointer p) :=
    ⟨by rw [World.cell?_alloc_at _ _ _ _ rfl]; rfl, by rw [World.cell?_alloc_at _ _ _ _ rfl]; rfl, cell_keep hbx c0⟩
  subst hrw
  have HT := hide (ht.keep hbx)
  have HBAL := hide hbal
  have HROW := hide (hrow.keep hbx)
  have HBX := hide hbx
  have hbl := bef_len t.row x
  have hal := aft_len t.row y
  have hw0 : g < (w.alloc (.cells #[.int .i64 x, .int .i64 y] 52)).heap.size := Nat.lt_of_lt_of_le hlt hbx.size
  have hX : w.heap.size < (w.alloc (.cells #[.int .i64 x, .int .i64 y] 52)).heap.size := by simp
  clear hneat hh c0 ht hbal hrow hbx hlt
  go_enter Try.func41, Try.ntmps41
  go_wp2_with fail
  go_region_held3 (fun w' => w'.cell? ⟨w.heap.size, 0, none⟩ = some (.int .i64 x) ∧ w'.cell? ⟨w.heap.size, 1, none⟩ = some (.int .i64 y) ∧ w'.cell? ⟨g, 0, none⟩ = some (.pointer p)) (first | exact keep3 (by assumption) (by assumption) | exact keep3 (start _).drew (by assumption)) ((first
    | (go_at_call 57; (with_reducible refine (ending_any t p x _ (HT.out.keep (start _).drew) HBAL.out HNL.out (by omega)).mono ?_); rintro e w1 ⟨p1, t1, rfl, hT1, hR1, hb1⟩)))
  go_wp2_with fail
  go_region_held3 (fun w' => w'.cell? ⟨w.heap.size, 0, none⟩ = some (.int .i64 x) ∧ w'.cell? ⟨w.heap.size, 1, none⟩ = some (.int .i64 y) ∧ w'.cell? ⟨g, 0, none⟩ = some (.pointer p)) (first | exact keep3 (by assumption) (by assumption) | exact keep3 (start _).drew (by assumption)) ((first
    | (go_at_call 58; (with_reducible refine (beginning_any t p y _ (HT.out.keep (andthen (start _).drew (andthen hb1 (start _).drew))) HBAL.out HNL.out (by omega)).mono ?_); rintro e w2 ⟨p2, t2, rfl, hT2, hR2, hb2⟩)))
  have HB2 := hide (andthen (start (w.alloc (.cells #[.int .i64 x, .int .i64 y] 52))).drew (andthen hb1 (andthen (start w1).drew hb2)))
  have HT1 := hide (hT1.keep (andthen (start _).drew hb2))
  have HT2 := hide hT2
  have HR1 := hide hR1
  have HR2 := hide hR2
  have hg2 : g < w2.heap.size := Nat.lt_of_lt_of_le hw0 HB2.out.size
  have HH2 := hide ((HB2.out.block g hw0).trans HH.out)
  have HROW2 := hide (HROW.out.keep HB2.out)
  have HBW := hide (andthen HBX.out HB2.out)
  clear hT1 hT2 hR1 hR2 hb1 hb2 HS hw0 hX HB2 HH HROW HT HBX
  go_wp2_with fail
  go_loopw [6, 26] (fun v i wr => ∃ k : Nat, k ≤ o.length ∧ i = .int .i64 k ∧ Fills w2 (bef t.row x ++ o.take k) v wr) (fun _ i _ => o.length - (intOf i).toNat)
  case atStart => exact ⟨0, Nat.zero_le _, rfl, p1, t1, rfl, HT1.out, by rw [List.take_zero, List.append_nil]; exact HR1.out, start _⟩
  case round =>
    obtain ⟨k, hk, rfl, p4, t4, rfl, hT4, hR4, hbw⟩ := hrel
    have hd4 := of_deep hR4
    have htl : (o.take k).length ≤ k := List.length_take_le _ _
    rw [List.length_append] at hd4
    by_cases hlt : k < o.length
    · obtain ⟨b, off, rfl, hb, hcl⟩ := HROW2.out (by intro h0; rw [h0] at hlt; exact absurd hlt (Nat.not_lt_zero _))
      obtain ⟨d0, d1⟩ := hcl k hlt
      have e0 := (hbw.cell (p := ⟨b, _, none⟩) hb).trans d0
      have e1 := (hbw.cell (p := ⟨b, _, none⟩) hb).trans d1
      have hbb := more (start wr) (.cells #[.int .i64 o[k].1, .int .i64 o[k].2] 52)
      have HBB := hide hbb
      have HT4 := hide (hT4.keep hbb)
      have HR4 := hide hR4
      have HBR := hide hbw
      have hsz := hbw.size
      clear hT4 hR4 hbw hcl d0 d1 hbb
      go_wp2_with fail
      refine (join_any _ p4 none o[k].1 o[k].2 t4 .nil _ HT4.out rfl (of_bal HR4.out) trivial (Nat.le_refl _) (by omega) (by simp only [Tr.deep]; omega)).mono ?_
      rintro e w5 ⟨p5, t5, rfl, hT5, hR5, hb5⟩
      have HT5 := hide hT5
      have HR5 := hide hR5
      have HB5 := hide (andthen HBB.out hb5)
      clear hT5 hR5 hb5
      go_wp2_with fail
      go_roundw
      case rel => exact ⟨k + 1, by omega, by go_num, p5, t5, rfl, HT5.out, ⟨by rw [HR5.out.1, HR4.out.1, List.take_succ_eq_append_getElem hlt, ← List.append_assoc]; rfl, joined_b HR5.out⟩, HBR.out.trans (HB5.out.mono hsz)⟩
      case measure => simp [intOf]; omega
    · obtain rfl : k = o.length := by omega
      rw [List.take_length] at hR4
      have HT4 := hide hT4
      have HR4 := hide hR4
      have HBR := hide hbw
      have hsz := hbw.size
      have HTA := hide (HT2.out.keep hbw)
      clear hT4 hR4 hbw
      go_wp2_with fail
      refine (concat_any p4 p2 t4 t2 _ HT4.out HTA.out (of_bal HR4.out) (of_bal HR2.out) (by rw [HR2.out.1]; exact neat_filter _ _ HNL.out) (by omega) (by rw [HR2.out.1]; omega)).mono ?_
      rintro e w5 ⟨p5, t5, rfl, hT5, hR5, hb5⟩
      have hh5 := ((HBR.out.trans (hb5.mono hsz)).block g hg2).trans HH2.out
      have f0 : w5.cell? ⟨g, 0, none⟩ = some (.pointer p) := by rw [cell_of_row w5 g 0 _ _ _ hh5]; rfl
      have f1 : w5.frozen? ⟨g, 0, none⟩ = false := by simp [World.frozen?, hh5]
      have hfin := hide (set_back hh5 hT5 (l := bef t.row x ++ o ++ aft t.row y) (by rw [hR5.1, HR4.out.1, HR2.out.1]) (of_bal hR5) HNT.out)
      have HBF := hide (andthen HBW.out (HBR.out.trans (hb5.mono hsz)))
      clear hT5 hR5 hb5 hh5
      go_wp2_with fail
      go_end0
      exact ⟨rfl, hfin.out.1, Below.chg HBF.out hfin.out.2⟩
end Go.Proofs.Ytphojcnehgdbmaa.S2
namespace Go.Proofs.Ytphojcnehgdbmaa.S2
open Go.RowKit Spn

theorem run_row {w : World} {B : Nat} {v : Value} {l k : List Sp} (ty : TypeId) {b off c : Nat}
    (hrow : ∀ i (h : i < k.length), w.cell? ⟨b, off + i * 2, none⟩ = some (.int .i64 k[i].1) ∧ w.cell? ⟨b, off + i * 2 + 1, none⟩ = some (.int .i64 k[i].2))
    (hown : Own w B v l) (hB : B ≤ w.heap.size) (hn : l.length ≤ 1000000) (hk : k.length ≤ 1000000) :
    ∃ v' w', (Builtin.append_ #[57, 57] ty #[v, .slice (some ⟨b, off, none⟩) k.length c]).run Try.prog w = .ok v' w' ∧ Own w' B v' (l ++ k) ∧ Goes v w v' w' := by
  obtain ⟨i0, hi, hz0, hz1, hz2⟩ := info_parts span_info
  have hnews : ∀ j u, (cellsL k)[j]? = some u → w.cell? ((⟨b, off, none⟩ : Addr).add j) = some u := by
    intro j u hu
    have hj : j < (cellsL k).length := (List.getElem?_eq_some_iff.1 hu).1
    rw [cellsL_len] at hj
    obtain ⟨c1, c2⟩ := cellsL_get k (j / 2) (by omega)
    obtain ⟨r1, r2⟩ := hrow (j / 2) (by omega)
    have hadd : (⟨b, off, none⟩ : Addr).add j = ⟨b, off + j, none⟩ := by unfold Addr.add; split <;> simp_all
    rw [hadd]
    rcases Nat.mod_two_eq_zero_or_one j with h0 | h0
    · have e : j / 2 * 2 = j := by omega
      rw [e] at c1 r1
      rw [r1, ← c1, hu]
    · have e : j / 2 * 2 + 1 = j := by omega
      rw [e] at c2
      rw [Nat.add_assoc, e] at r2
      rw [r2, ← c2, hu]
  obtain ⟨v', w', hr, h2, h3, _, h5⟩ := run_append_own_at (P := Try.prog) (w := w) B 57 ty 52 i0 _ 2 16 Try.underlying57 hi hz0 hz1 hz2 rfl (by decide) v l.length (cellsL l) hown ⟨b, off, none⟩ k.length c (cellsL k) (cellsL_len k) hnews (cellsL_one k) (by unfold maxLen; omega) (by omega) hB
  refine ⟨v', w', hr, by rw [Own, cellsL_append, List.length_append]; exact h2, h3, ?_⟩
  rcases h5 with h5 | h5
  · exact Or.inl h5
  · exact Or.inr ⟨_, h5, Nat.le_refl _⟩
theorem run_own {w : World} {B B2 : Nat} {v y : Value} {l k : List Sp} (ty : TypeId) (hy : Own w B2 y k)
    (hown : Own w B v l) (hB : B ≤ w.heap.size) (hn : l.length ≤ 1000000) (hk : k.length ≤ 1000000) :
    ∃ v' w', (Builtin.append_ #[57, 57] ty #[v, y]).run Try.prog w = .ok v' w' ∧ Own w' B v' (l ++ k) ∧ Goes v w v' w' := by
  rcases hy.2 with ⟨rfl, hn0⟩ | ⟨g, cap, cur, rfl, _⟩
  · obtain rfl := List.eq_nil_of_length_eq_zero hn0
    obtain ⟨i0, hi, _, _, _⟩ := info_parts span_info
    exact ⟨v, w, run_append_owned_none (P := Try.prog) (w := w) B 57 ty 52 i0 2 Try.underlying57 hi v l.length (cellsL l) hown, by rw [List.append_nil]; exact hown, Goes.refl _ _⟩
  · have hc := World.ownsRow.cells hy (g := g) rfl
    refine run_row ty (b := g) (off := 0) (k := k) (fun i hi => ?_) hown hB hn hk
    obtain ⟨c1, c2⟩ := cellsL_get k i hi
    have g1 := hc _ _ c1
    have g2 := hc _ _ c2
    rw [plus] at g1 g2
    rw [Nat.zero_add]
    exact ⟨g1, g2⟩

/-- inside a drawn region: a row known by its cells. -/
theorem step_at {ops : Array Oper} {o : Oper} {a : Act} {K : Act → World → Prop} {Q : Exit → Act → World → Prop} {E : Prop} {w : World} {B : Nat} {v : Value} {l k : List Sp} (hgd : o.guard = none) (s x : Operand)
    (ho : o.op = .call { callee := .builtin .append, args := #[s, x], argTypes := #[57, 57] }) (hs : a.eval s = v) {b off m c : Nat} (hx : a.eval x = .slice (some ⟨b, off, none⟩) m c) (hm : m = k.length)
    (hrow : ∀ i (h : i < k.length), w.cell? ⟨b, off + i * 2, none⟩ = some (.int .i64 k[i].1) ∧ w.cell? ⟨b, off + i * 2 + 1, none⟩ = some (.int .i64 k[i].2))
    (hown : Own w B v l) (hB : B ≤ w.heap.size) (hn : l.length ≤ 1000000) (hk : k.length ≤ 1000000)
    (h : ∀ v' w', Own w' B v' (l ++ k) → Goes v w v' w' → K (a.put o.dst v') w') :
    if Region.wanted o (yielded ops a.tmps) = true then Oper.wp Try.prog o a w K Q else E := by
  have hw : Region.wanted o (yielded ops a.tmps) = true := by simp [Region.wanted, hgd]
  rw [if_pos hw]
  subst hm
  obtain ⟨v', w', hr, h2, h3⟩ := run_row o.type (c := c) hrow hown hB hn hk
  unfold Oper.wp execOp
  simp only [ho, resolve, invoke, builtin, Sem.run_bind, Sem.run_pure, Result.andThen_ok, List.map_toArray, List.map_cons, List.map_nil, hs, hx, hr]
  exact h v' w' h2 h3
/-- .. another call's own row. -/
theorem step_own {ops : Array Oper} {o : Oper} {a : Act} {K : Act → World → Prop} {Q : Exit → Act → World → Prop} {E : Prop} {w : World} {B B2 : Nat} {v y : Value} {l k : List Sp} (hgd : o.guard = none) (s x : Operand)
    (ho : o.op = .call { callee := .builtin .append, args := #[s, x], argTypes := #[57, 57] }) (hs : a.eval s = v) (hx : a.eval x = y) (hy : Own w B2 y k)
    (hown : Own w B v l) (hB : B ≤ w.heap.size) (hn : l.length ≤ 1000000) (hk : k.length ≤ 1000000)
    (h : ∀ v' w', Own w' B v' (l ++ k) → Goes v w v' w' → K (a.put o.dst v') w') :
    if Region.wanted o (yielded ops a.tmps) = true then Oper.wp Try.prog o a w K Q else E := by
  have hw : Region.wanted o (yielded ops a.tmps) = true := by simp [Region.wanted, hgd]
  rw [if_pos hw]
  obtain ⟨v', w', hr, h2, h3⟩ := run_own o.type hy hown hB hn hk
  unfold Oper.wp execOp
  simp only [ho, resolve, invoke, builtin, Sem.run_bind, Sem.run_pure, Result.andThen_ok, List.map_toArray, List.map_cons, List.map_nil, hs, hx, hr]
  exact h v' w' h2 h3
/-- outside of a drawn region. -/
theorem wp_ownG {ops : Array Oper} {rest : List Oper} {o : Oper} {a : Act} {Q : Exit → Act → World → Prop} {w : World} {B B2 : Nat} {v y : Value} {l k : List Sp} (hgd : o.guard = none) (s x : Operand)
    (ho : o.op = .call { callee := .builtin .append, args := #[s, x], argTypes := #[57, 57] }) (hs : a.eval s = v) (hx : a.eval x = y) (hy : Own w B2 y k)
    (hown : Own w B v l) (hB : B ≤ w.heap.size) (hn : l.length ≤ 1000000) (hk : k.length ≤ 1000000)
    (h : ∀ v' w', Own w' B v' (l ++ k) → Goes v w v' w' → wpList Try.prog ops Q rest (a.put o.dst v') w') :
    wpList Try.prog ops Q (o :: rest) a w := by
  refine wpList_plain hgd fun K hK => ?_
  obtain ⟨v', w', hr, h2, h3⟩ := run_own o.type hy hown hB hn hk
  unfold Oper.wp execOp
  simp only [ho, resolve, invoke, builtin, Sem.run_bind, Sem.run_pure, Result.andThen_ok, List.map_toArray, List.map_cons, List.map_nil, hs, hx, hr]
  exact hK _ _ (h v' w' h2 h3)
theorem Goes.below' {v v' : Value} {B : Nat} {W w w' : World} {l : List Sp} (h : Goes v w v' w') (hown : Own w B v l) (hb : Below B W w) (hB : B ≤ w.heap.size) : Below B W w' :=
  hb.grown h.grown hB fun j hj => (hown.lt j hj).1
end Go.Proofs.Ytphojcnehgdbmaa.S2

/- What the statements of layer 14 ask first: known. -/
import Derived.Test.YtocnobgdlgndjaaGreatDeG
import Derived.Deep.WholeRow
namespace Go.Proofs.YtocnobgdlgndjaaGreat
open Go.RowKit Rul De Cl Go.Sort

theorem store_new {ops : Array Oper} {rest : List Oper} {o : Oper} {a : Act} {w : World} {Q : Exit → Act → World → Prop} (hw : Region.wanted o (yielded ops a.tmps) = true) (ty : TypeId) (x y : Operand) (ho : o.op = .store ty x y) (W : World) (c c' : Array Value) (hW : w = W.alloc (.cells c ty))
    (hx : a.eval x = .pointer (some ⟨W.heap.size, 0, none⟩)) (hy : a.eval y = .agg c') (hi : (Tryz.prog.info? ty).map (·.size) = some c'.size) (hsz : c.size = c'.size) (h1 : c'.all (·.oneCell') = true)
    (h : wpList Tryz.prog ops Q rest (a.put o.dst undef) (W.alloc (.cells c' ty))) : wpList Tryz.prog ops Q (o :: rest) a w :=
  wpList_step fun K hK => by
    subst hW
    rw [if_pos hw]
    unfold Oper.wp execOp
    simp only [ho, hx, hy, Sem.run_bind, Sem.run_pure, Result.andThen_ok, run_storeAt_new W ty c c' hi hsz h1]
    exact hK _ _ h
/-- the chapter's example; nothing. -/
def dK : D := ⟨4, (3, 1), e0, [], 0, 0, b0⟩
def d0 : D := ⟨0, (0, 0), e0, [], 0, 0, b0⟩
def mD : DM := ⟨mZ, none, 0, mZ⟩
theorem dl_K (w : World) : DL w dK mD := ⟨evZ _, S2.RowC.nil _ _, Nat.zero_le _, evZ _⟩
theorem dl_0 (w : World) : DL w d0 mD := ⟨evZ _, S2.RowC.nil _ _, Nat.zero_le _, evZ _⟩
theorem isD_K : isD dK = true := by decide
theorem isD_0 : isD d0 = false := by decide
theorem bk_0 : bkB b0 = false := by decide
set_option maxRecDepth 100000 in
set_option maxHeartbeats 8000000 in
theorem known_any (w : World) : Calls Tryz.prog 7 #[] w (Ans w (.bool true)) := by
  have HB := hide (more (start w) (.cells (dC dK mD).toArray 34))
  have R0 := range_new w (dC dK mD) 34
  have a1 := range_cell R0 1 1 _ rfl rfl
  have a2 := range_cell R0 2 2 _ rfl rfl
  have R := hide R0
  clear R0
  go_enter Tryz.func7, Tryz.ntmps7
  go_wp2_with (first | refine load_deed rfl _ rfl _ _ rfl _ R.out rfl ?_ | refine build_at rfl 34 _ rfl (dC dK mD).toArray (by kernel_rfl) ?_ | refine store_new rfl _ _ _ rfl w _ (dC dK mD).toArray rfl rfl rfl (by kernel_rfl) (by kernel_rfl) (by kernel_rfl) ?_)
  generalize w.alloc (.cells (dC dK mD).toArray 34) = W at *
  refine (dIs_c dK mD true _ (dl_K _) isD_K).mono ?_
  rintro q w1 ⟨rfl, hb⟩
  replace HB := hide (andthen HB.out hb)
  replace R := hide (range_keep R.out hb)
  replace a1 := cell_keepA hb a1
  replace a2 := cell_keepA hb a2
  clear hb
  go_wp2_with (refine build_at rfl 34 _ rfl (dC d0 mD).toArray (by kernel_rfl) ?_)
  refine (dIs_c d0 mD false _ (dl_0 _) isD_0).mono ?_
  rintro q w2 ⟨rfl, hb⟩
  replace HB := hide (andthen HB.out hb)
  replace R := hide (range_keep R.out hb)
  replace a1 := cell_keepA hb a1
  replace a2 := cell_keepA hb a2
  clear hb
  go_wp2_with (refine load_deed rfl _ rfl _ _ rfl _ R.out rfl ?_)
  refine (dSame_any dK dK mD mD true _ (dl_K _) (dl_K _) (sameD_self _)).mono ?_
  rintro q w3 ⟨rfl, hb⟩
  replace HB := hide (andthen HB.out hb)
  replace R := hide (range_keep R.out hb)
  replace a1 := cell_keepA hb a1
  replace a2 := cell_keepA hb a2
  clear hb
  go_wp2_with fail
  refine (did_at (3, 1) true _ (by decide)).mono ?_
  rintro q w4 ⟨rfl, hb⟩
  replace HB := hide (andthen HB.out hb)
  replace R := hide (range_keep R.out hb)
  replace a1 := cell_keepA hb a1
  replace a2 := cell_keepA hb a2
  clear hb
  go_wp2_with fail
  refine (did_at (0, 0) false _ (by decide)).mono ?_
  rintro q w5 ⟨rfl, hb⟩
  replace HB := hide (andthen HB.out hb)
  replace R := hide (range_keep R.out hb)
  replace a1 := cell_keepA hb a1
  replace a2 := cell_keepA hb a2
  clear hb
  go_wp2_with fail
  refine (dbefore_at (1, 3) (3, 1) true _ (by decide)).mono ?_
  rintro q w6 ⟨rfl, hb⟩
  replace HB := hide (andthen HB.out hb)
  replace R := hide (range_keep R.out hb)
  replace a1 := cell_keepA hb a1
  replace a2 := cell_keepA hb a2
  clear hb
  go_wp2_with (refine build_at rfl 32 _ rfl (bkC b0 mZ).toArray (by kernel_rfl) ?_)
  refine (disBk_c b0 mZ false _ (evZ _) bk_0).mono ?_
  rintro q w7 ⟨rfl, hb⟩
  replace HB := hide (andthen HB.out hb)
  replace R := hide (range_keep R.out hb)
  replace a1 := cell_keepA hb a1
  replace a2 := cell_keepA hb a2
  clear hb
  go_wp2_with (refine build_at rfl 32 _ rfl (bkC b0 mZ).toArray (by kernel_rfl) ?_)
  refine (dsameBk_c b0 b0 mZ mZ true _ (evZ _) (evZ _) (sameBk_self _)).mono ?_
  rintro q w8 ⟨rfl, hb⟩
  replace HB := hide (andthen HB.out hb)
  clear hb
  go_wp2_with fail
  go_ret
  exact ⟨rfl, HB.out⟩
end Go.Proofs.YtocnobgdlgndjaaGreat

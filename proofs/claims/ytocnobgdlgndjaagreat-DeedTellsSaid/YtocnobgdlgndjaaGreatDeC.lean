/- Package deed: alike, Same. Written by recipes/de2.py. -/
import Derived.Test.YtocnobgdlgndjaaGreatDeB
namespace Go.Proofs.YtocnobgdlgndjaaGreat
open Go.RowKit Rul De Cl Go.Sort

theorem range_fst {w : World} {b f : Nat} {part post : List Value} (h : w.rangeAt b f (part ++ post)) : w.rangeAt b f part := fun j v hv => h j v (by rw [List.getElem?_append_left (List.getElem?_eq_some_iff.1 hv).1]; exact hv)
theorem sB {w W W1 : World} (hb : Below W.heap.size W W1) (h : Below w.heap.size w W) : Below w.heap.size w W1 := andthen h hb
section
variable {ops : Array Oper} {S : World → Prop} {o : Oper} {a : Act}
theorem yields_deed (hw : Region.wanted o (yielded ops a.tmps) = true) (x : Operand) (ho : o.op = .load 34 x) (b f : Nat) (hx : a.eval x = .pointer (some ⟨b, f, none⟩)) (cs : List Value) (hS : ∀ w, S w → w.rangeAt b f cs) (hl : cs.length = 35) : YieldsIf Tryz.prog ops S o (.agg cs.toArray) a :=
  yieldsIf_load_mid hw _ x ho b f hx cs _ hS Tryz.underlying34 rfl (by rw [hl]; kernel_rfl)
theorem yields_book (hw : Region.wanted o (yielded ops a.tmps) = true) (x : Operand) (ho : o.op = .load 32 x) (b f : Nat) (hx : a.eval x = .pointer (some ⟨b, f, none⟩)) (cs : List Value) (hS : ∀ w, S w → w.rangeAt b f cs) (hl : cs.length = 16) : YieldsIf Tryz.prog ops S o (.agg cs.toArray) a :=
  yieldsIf_load_mid hw _ x ho b f hx cs _ hS Tryz.underlying32 rfl (by rw [hl]; kernel_rfl)
theorem yields_event (hw : Region.wanted o (yielded ops a.tmps) = true) (x : Operand) (ho : o.op = .load 29 x) (b f : Nat) (hx : a.eval x = .pointer (some ⟨b, f, none⟩)) (cs : List Value) (hS : ∀ w, S w → w.rangeAt b f cs) (hl : cs.length = 13) : YieldsIf Tryz.prog ops S o (.agg cs.toArray) a :=
  yieldsIf_load_mid hw _ x ho b f hx cs _ hS Tryz.underlying29 rfl (by rw [hl]; kernel_rfl)
end
set_option linter.unusedSimpArgs false in
set_option maxRecDepth 100000 in
set_option maxHeartbeats 4000000 in
theorem alike_any (X c : Nat) (x y : D) (m n : DM) (b : Bool) (w : World) (hx : w.rangeAt X 0 (dC x m)) (hy : w.rangeAt X 35 (dC y n)) (h : DL w x m) (k : DL w y n) (hb : sameD x y = b) :
    Calls Tryz.prog 24 #[.slice (some ⟨X, 0, none⟩) 2 c] w (Ans w (.bool b)) := by
  have HX := hide h
  have HY := hide k
  have RX := hide hx
  have RY := hide hy
  have HS := hide hb
  have w0 : IntKind.i64.wrap 0 = 0 := rfl
  clear hx hy h k hb
  go_enter Tryz.func24, Tryz.ntmps24
  go_wp2_with fail
  refine wp_loop_rounds 2 ?_
  rw [rounds_succ]
  go_wp2_with fail
  refine wp_region_held_drew (S := fun w' => Below w.heap.size w w') (by kernel_rfl) ?_ (fun hH0 => ?_)
  · exact (start w).drew
  refine' wpAnyH_take (i := 0) (oi := _) (v := ?v0) rfl (by as_aux_lemma => kernel_rfl) (by as_aux_lemma => kernel_rfl) (by as_aux_lemma => kernel_rfl) (fun _ _ _ h => h) (Or.inl ⟨by rfl, ?y0⟩) hH0 ?r0
  case y0 => (intro w hSw; (try dsimp only at hSw); go_simp; (try with_reducible rfl))
  try simp only [Act.put, List.getElem_toArray, List.getElem_cons_succ, List.getElem_cons_zero, List.setIfInBounds_toArray, List.set_cons_zero, List.set_cons_succ]
  refine' wpAnyH_take (i := 1) (oi := _) (v := ?v1) rfl (by as_aux_lemma => kernel_rfl) (by as_aux_lemma => kernel_rfl) (by as_aux_lemma => kernel_rfl) (fun _ _ _ h => h) (Or.inl ⟨by rfl, ?y1⟩) hH0 ?r1
  case y1 => (intro w hSw; (try dsimp only at hSw); go_simp; (try with_reducible rfl))
  try simp only [Act.put, List.getElem_toArray, List.getElem_cons_succ, List.getElem_cons_zero, List.setIfInBounds_toArray, List.set_cons_zero, List.set_cons_succ]
  refine' wpAnyH_take (i := 2) (oi := _) (v := ?v2) rfl (by as_aux_lemma => kernel_rfl) (by as_aux_lemma => kernel_rfl) (by as_aux_lemma => kernel_rfl) (fun _ _ _ h => h) (Or.inl ⟨by rfl, ?y2⟩) hH0 ?r2
  case y2 => (intro w hSw; (try dsimp only at hSw); go_simp; (try with_reducible rfl))
  try simp only [Act.put, List.getElem_toArray, List.getElem_cons_succ, List.getElem_cons_zero, List.setIfInBounds_toArray, List.set_cons_zero, List.set_cons_succ]
  refine' wpAnyH_take (i := 3) (oi := _) (v := ?v3) rfl (by as_aux_lemma => kernel_rfl) (by as_aux_lemma => kernel_rfl) (by as_aux_lemma => kernel_rfl) (fun _ _ _ h => h) (Or.inl ⟨by rfl, ?y3⟩) hH0 ?r3
  case y3 => (intro w hSw; (try dsimp only at hSw); go_simp; (try with_reducible rfl))
  try simp only [Act.put, List.getElem_toArray, List.getElem_cons_succ, List.getElem_cons_zero, List.setIfInBounds_toArray, List.set_cons_zero, List.set_cons_succ]
  refine' wpAnyH_take (i := 4) (oi := _) (v := _) rfl (by as_aux_lemma => kernel_rfl) (by as_aux_lemma => kernel_rfl) (by as_aux_lemma => kernel_rfl) (fun _ _ _ h => h) (yields_deed (by rfl) _ rfl _ _ rfl _ (fun _ hS => range_keep RX.out hS) rfl) hH0 ?_
  try simp only [Act.put, List.getElem_toArray, List.getElem_cons_succ, List.getElem_cons_zero, List.setIfInBounds_toArray, List.set_cons_zero, List.set_cons_succ]
  refine' wpAnyH_take (i := 5) (oi := _) (v := ?v5) rfl (by as_aux_lemma => kernel_rfl) (by as_aux_lemma => kernel_rfl) (by as_aux_lemma => kernel_rfl) (fun _ _ _ h => h) (Or.inl ⟨by rfl, ?y5⟩) hH0 ?r5
  case y5 => (intro w hSw; (try dsimp only at hSw); go_simp; (try with_reducible rfl))
  try simp only [Act.put, List.getElem_toArray, List.getElem_cons_succ, List.getElem_cons_zero, List.setIfInBounds_toArray, List.set_cons_zero, List.set_cons_succ]
  refine' wpAnyH_take (i := 6) (oi := _) (v := ?v6) rfl (by as_aux_lemma => kernel_rfl) (by as_aux_lemma => kernel_rfl) (by as_aux_lemma => kernel_rfl) (fun _ _ _ h => h) (Or.inl ⟨by rfl, ?y6⟩) hH0 ?r6
  case y6 => (intro w hSw; (try dsimp only at hSw); go_simp; (try with_reducible rfl))
  try simp only [Act.put, List.getElem_toArray, List.getElem_cons_succ, List.getElem_cons_zero, List.setIfInBounds_toArray, List.set_cons_zero, List.set_cons_succ]
  refine' wpAnyH_take (i := 7) (oi := _) (v := ?v7) rfl (by as_aux_lemma => kernel_rfl) (by as_aux_lemma => kernel_rfl) (by as_aux_lemma => kernel_rfl) (fun _ _ _ h => h) (Or.inl ⟨by rfl, ?y7⟩) hH0 ?r7
  case y7 => (intro w hSw; (try dsimp only at hSw); go_simp; (try with_reducible rfl))
  try simp only [Act.put, List.getElem_toArray, List.getElem_cons_succ, List.getElem_cons_zero, List.setIfInBounds_toArray, List.set_cons_zero, List.set_cons_succ]
  refine' wpAnyH_take (i := 8) (oi := _) (v := _) rfl (by as_aux_lemma => kernel_rfl) (by as_aux_lemma => kernel_rfl) (by as_aux_lemma => kernel_rfl) (fun _ _ _ h => h) (yields_deed (by rfl) _ rfl _ _ rfl _ (fun _ hS => range_keep RY.out hS) rfl) hH0 ?_
  try simp only [Act.put, List.getElem_toArray, List.getElem_cons_succ, List.getElem_cons_zero, List.setIfInBounds_toArray, List.set_cons_zero, List.set_cons_succ]
  refine wpAnyH_ready (rs := [9]) (by as_aux_lemma => kernel_rfl) (by simp) ?_
  refine AllReadyH.cons (o := _) rfl (fun K hK => ?_) AllReadyH.nil
  go_simp
  refine (dsameD_c _ _ _ _ _ _ (HX.out.keep hH0) (HY.out.keep hH0) HS.out).mono ?_
  rintro _ wz ⟨rfl, hb⟩
  refine hK.out _ _ (sB hb hH0) (fun hN => ?_)
  clear hK K hH0
  have hH1 := hN
  clear hN
  try simp only [Act.put, List.getElem_toArray, List.getElem_cons_succ, List.getElem_cons_zero, List.setIfInBounds_toArray, List.set_cons_zero, List.set_cons_succ]
  refine' wpAnyH_take (i := 10) (oi := _) (v := ?v9) rfl (by as_aux_lemma => kernel_rfl) (by as_aux_lemma => kernel_rfl) (by as_aux_lemma => kernel_rfl) (fun _ _ _ h => h) (Or.inl ⟨by rfl, ?y9⟩) hH1 ?r9
  case y9 => (intro w hSw; (try dsimp only at hSw); go_simp; (try with_reducible rfl))
  try simp only [Act.put, List.getElem_toArray, List.getElem_cons_succ, List.getElem_cons_zero, List.setIfInBounds_toArray, List.set_cons_zero, List.set_cons_succ]
  refine wpAnyH_done (by as_aux_lemma => kernel_rfl) ?_ _
  have HB := hide hH1
  clear hH1
  cases b
  · go_wp2_with fail
    go_ret
    exact ⟨rfl, HB.out⟩
  go_wp2_with fail
  rw [rounds_succ]
  go_wp2_with fail
  go_ret
  exact ⟨rfl, HB.out⟩

/-- two deeds put into a row, and compared. -/
theorem dpair (W : World) (x y : D) (m n : DM) (b : Bool) (h : DL W x m) (k : DL W y n) (hb : sameD x y = b) (N : Nat) (hN : W.heap.size = N) :
    Calls Tryz.prog 24 #[.slice (some ⟨N, 0, none⟩) 2 2] (W.alloc (.cells (dC x m ++ dC y n).toArray 34)) (Ans W (.bool b)) := by
  subst hN
  have G := range_new W (dC x m ++ dC y n) 34
  have hm := more (start W) (.cells (dC x m ++ dC y n).toArray 34)
  refine (alike_any _ 2 x y m n b _ (range_fst G) (range_end G 35 (by rw [dC_len])) (h.keep hm) (k.keep hm) hb).mono ?_
  rintro q w1 ⟨rfl, hb⟩
  exact ⟨rfl, andthen hm hb⟩
set_option maxRecDepth 100000 in
set_option maxHeartbeats 4000000 in
theorem dSame_any (x y : D) (m n : DM) (b : Bool) (w : World) (h : DL w x m) (k : DL w y n) (hb : sameD x y = b) :
    Calls Tryz.prog 12 #[.agg (dC x m).toArray, .agg (dC y n).toArray] w (Ans w (.bool b)) := by
  have HB := hide (dtwo_below w (dC x m) (dC y n) 34 34)
  have R0 := hide (dtwo_fst w (dC x m) (dC y n) 34 34)
  have R1 := hide (dtwo_snd w (dC x m) (dC y n) 34 34)
  have HS := hide hb
  have hsz : (dtwo w (dC x m) (dC y n) 34 34).heap.size = w.heap.size + 1 + 1 := by simp
  have HX := hide (h.keep HB.out)
  have HY := hide (k.keep HB.out)
  clear h k hb
  go_enter Tryz.func12, Tryz.ntmps12
  go_wp2_with (first | refine load_deed rfl _ rfl _ _ rfl _ R0.out rfl ?_ | refine load_deed rfl _ rfl _ _ rfl _ R1.out rfl ?_ | refine two_deeds rfl _ _ rfl _ _ rfl rfl rfl rfl (w.heap.size + 1 + 1) hsz ?_)
  refine (dpair _ x y m n b HX.out HY.out HS.out _ hsz).mono ?_
  rintro q w1 ⟨rfl, hb⟩
  go_wp2_with fail
  go_ret
  exact ⟨rfl, andthen HB.out hb⟩
end Go.Proofs.YtocnobgdlgndjaaGreat

/- Bytes appended to a slate's text, as an operation of a region. By hand. -/
import Derived.Test.YtimhbpfeofdfnaaDoorSlA
namespace Go.Proofs.YtimhbpfeofdfnaaDoor
open Go.RowKit Sl

/-- cells written into a row of which nothing is frozen. -/
theorem run_storeCells_free (P : Program) (g o : Nat) (t : TypeId) (fz : Nat × Nat) : ∀ (vs : List Value) (i : Nat) (cur : Array Value) (w : World), w.heap[g]? = some (.cells cur t fz) → (cur.size ≤ fz.1 ∨ fz.2 = 0) → o + i + vs.length ≤ cur.size → (∀ v ∈ vs, v.oneCell' = true) →
    (storeCells ⟨g, o, none⟩ vs i).run P w = .ok () (w.setRow g (cur.toList.take (o + i) ++ vs ++ cur.toList.drop (o + i + vs.length)).toArray)
  | [], i, cur, w, hg, _, _, _ => by
    simp only [storeCells, List.append_nil, List.length_nil, Nat.add_zero, List.take_append_drop, Array.toArray_toList]
    rw [setRow_self w g cur t fz hg]
    rfl
  | v :: rest, i, cur, w, hg, hfz, hl, h1 => by
    have hi : o + i < cur.size := by simp at hl; omega
    have hadd : (⟨g, o, none⟩ : Addr).add i = ⟨g, o + i, none⟩ := by unfold Addr.add; split <;> simp_all
    have hcell : w.cell? ⟨g, o + i, none⟩ = some cur[o + i] := by simp [World.cell?, hg, hi]
    have hfro : w.frozen? ⟨g, o + i, none⟩ = false := by
      obtain ⟨lo, hi'⟩ := fz
      simp only [World.frozen?, hg, Bool.and_eq_false_iff, decide_eq_false_iff_not]
      rcases hfz with h | h
      · left; simp only at h; omega
      · right; simp only at h; omega
    have hst : (store ((⟨g, o, none⟩ : Addr).add i) v).run P w = .ok () (w.setRow g (cur.setIfInBounds (o + i) v)) := by
      rw [hadd, run_store P w _ v _ (h1 v (by simp)), hcell]
      simp [hfro, setCell_eq_setRow w g (o + i) cur t fz v hg]
    have ih := run_storeCells_free P g o t fz rest (i + 1) (cur.setIfInBounds (o + i) v) (w.setRow g (cur.setIfInBounds (o + i) v)) (setRow_heap w g cur _ t _ hg) (by simpa using hfz) (by simp at hl ⊢; omega) (fun x hx => h1 x (by simp [hx]))
    simp only [storeCells, Sem.run_bind, hst, Result.andThen_ok, ih, setRow_setRow]
    congr 3
    have e := list_seg_step cur.toList (o + i) v rest (by simp at hl ⊢; omega)
    simpa [Array.toList_setIfInBounds, Nat.add_assoc] using e

theorem byte_info : (Tryd.prog.info? 5).map (fun i => (i.zero, i.size, i.bytes)) = some (some (.int .u8 0), 1, 1) := by kernel_rfl
/-- bytes appended to a text. -/
theorem run_append_text {w : World} {g : Nat} {t : Tx} {cap : Nat} (h : TextAt w g t cap) (p : Tx) (ty : TypeId) (hsz : t.length + p.length ≤ 1000000000) :
    ∃ g' cap' w', (Builtin.append_ #[46, 9] ty #[.slice (some ⟨g, 0, none⟩) t.length cap, .string (str p)]).run Tryd.prog w = .ok (.slice (some ⟨g', 0, none⟩) (t ++ p).length cap') w' ∧
      TextAt w' g' (t ++ p) cap' ∧ w.grownBy w' (some g) ∧ (g' = g ∨ g' = w.heap.size) := by
  obtain ⟨i0, hi, hz0, hz1, hz2⟩ := info_parts byte_info
  have hle := h.le
  have hsm := h.small
  obtain ⟨cur, fz, hg, hfz, hcs, htk⟩ := h.row
  have hps : (str p).size = p.length := str_size p
  by_cases hroom : t.length + p.length ≤ cap
  · have hst := run_storeCells_free Tryd.prog g t.length 5 fz (cellsB p) 0 cur w hg (by rw [hcs]; exact hfz) (by rw [cellsB_len]; omega) (by intro u hu; obtain ⟨b, _, rfl⟩ := List.mem_map.1 hu; rfl)
    simp only [Nat.add_zero, cellsB_len] at hst
    have hf := Lib.run_firstCells_string (P := Tryd.prog) w 1 (str p)
    rw [strCells_is, hps] at hf
    have hr : (Builtin.append_ #[46, 9] ty #[.slice (some ⟨g, 0, none⟩) t.length cap, .string (str p)]).run Tryd.prog w = .ok (.slice (some ⟨g, 0, none⟩) (t ++ p).length cap) (w.setRow g (cur.toList.take t.length ++ cellsB p ++ cur.toList.drop (t.length + p.length)).toArray) := by
      simp [Builtin.append_, run_underlying Tryd.underlying46, run_underlying Tryd.underlying9, sizeOf, typeInfo, hi, hz1, Builtin.lenOf, hps, hroom, hf, Addr.add_lit, hst]
    refine ⟨g, cap, _, hr, ⟨by rw [List.length_append]; exact hroom, hsm, _, fz, setRow_heap w g cur _ _ _ hg, hfz, ?_, ?_⟩, ⟨rfl, rfl, rfl, by simp, fun k _ hk => setRow_other w g k _ (fun e => hk (by rw [e]))⟩, Or.inl rfl⟩
    · simp only [List.size_toArray, List.length_append, List.length_take, List.length_drop, Array.length_toList, cellsB_len]
      omega
    · rw [htk, ← cellsB_app, ← cellsB_len (t ++ p)]
      exact List.take_left
  · have holds : ∀ j u, (cellsB t)[j]? = some u → w.cell? ((⟨g, 0, none⟩ : Addr).add j) = some u := by
      intro j u hu
      have hj : j < t.length := by
        have := (List.getElem?_eq_some_iff.1 hu).1
        rwa [cellsB_len] at this
      rw [plus, h.cell j hj, ← hu]; simp [cellsB, hj]
    have hr := Lib.run_append_grow_string (P := Tryd.prog) w 46 9 ty 5 i0 (.int .u8 0) Tryd.underlying46 Tryd.underlying9 hi hz0 ⟨g, 0, none⟩ t.length cap (cellsB t) (by rw [hz1, cellsB_len, Nat.mul_one]) holds (str p) (by rw [hps]; omega) (by rw [hps]; omega) (by rw [hz2, hps]; exact growslice_fits (by omega) (by omega))
    rw [hps, strCells_is] at hr
    have hge := grownCap_ge w (t.length + p.length) cap 5
    have hcm := grownCap_le_maxLen w (t.length + p.length) cap 5 (by unfold maxLen; omega)
    refine ⟨w.heap.size, _, _, by rw [List.length_append]; exact hr, ⟨by rw [List.length_append]; exact hge, hcm, _, (0, 0), heap_alloc_new w.drew _, Or.inr rfl, ?_, ?_⟩, ⟨rfl, rfl, rfl, by simp, fun _ hk _ => heap_alloc_old w.drew _ hk⟩, Or.inr rfl⟩
    · have hz1' : (Value.int IntKind.u8 0).cells.size = 1 := rfl
      simp only [Array.size_append, List.size_toArray, size_zeroCells, hz1', cellsB_len]
      omega
    · simp only [Array.toList_append, List.append_assoc]
      rw [← List.append_assoc, ← cellsB_app, ← cellsB_len (t ++ p)]
      exact List.take_left
theorem step_text {ops : Array Oper} {o : Oper} {a : Act} {K : Act → World → Prop} {Q : Exit → Act → World → Prop} {E : Prop} {w : World} {g cap : Nat} {t p : Tx} {n : Nat} (hgd : o.guard = none) (s x : Operand)
    (ho : o.op = .call { callee := .builtin .append, args := #[s, x], argTypes := #[46, 9] }) (hs : a.eval s = .slice (some ⟨g, 0, none⟩) n cap) (hx : a.eval x = .string (str p)) (hn : n = t.length)
    (ht : TextAt w g t cap) (hsz : t.length + p.length ≤ 1000000000)
    (h : ∀ g' cap' w', TextAt w' g' (t ++ p) cap' → w.grownBy w' (some g) → (g' = g ∨ g' = w.heap.size) → K (a.put o.dst (.slice (some ⟨g', 0, none⟩) (t ++ p).length cap')) w') :
    if Region.wanted o (yielded ops a.tmps) = true then Oper.wp Tryd.prog o a w K Q else E := by
  have hw : Region.wanted o (yielded ops a.tmps) = true := by simp [Region.wanted, hgd]
  rw [if_pos hw]
  subst hn
  obtain ⟨g', cap', w', hr, h2, h3, h4⟩ := run_append_text ht p o.type hsz
  unfold Oper.wp execOp
  simp only [ho, resolve, invoke, builtin, Sem.run_bind, Sem.run_pure, Result.andThen_ok, List.map_toArray, List.map_cons, List.map_nil, hs, hx, hr]
  exact h g' cap' w' h2 h3 h4

end Go.Proofs.YtimhbpfeofdfnaaDoor

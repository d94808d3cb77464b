/- Walks of the document's slate: New, Lines, Limit, Rise. By hand. -/
import Derived.Test.YtimhbpfeofdfnaaDoorSlH
namespace Go.Proofs.YtimhbpfeofdfnaaDoor
open Go.RowKit Sl

/-- how the document writes what is left. -/
def leftR (s : St) : Int := if s.lim = true then (s.left : Int) else -1
structure RefAt (w : World) (Y : Nat) (s : St) : Prop where
  textc : w.cell? ⟨Y, 0, none⟩ = some (.string (str s.t))
  leftc : w.cell? ⟨Y, 1, none⟩ = some (.int .i64 (leftR s))
  offc : w.cell? ⟨Y, 2, none⟩ = some (.bool s.off)
  free : ∀ j, w.frozen? ⟨Y, j, none⟩ = false
theorem RefAt.lt {w : World} {Y : Nat} {s : St} (h : RefAt w Y s) : Y < w.heap.size := block_lt_of_cell h.offc
theorem RefAt.of_block {w w' : World} {Y : Nat} {s : St} (h : RefAt w Y s) (e1 : w'.heap[Y]? = w.heap[Y]?) : RefAt w' Y s := by
  have hc : ∀ j, w'.cell? ⟨Y, j, none⟩ = w.cell? ⟨Y, j, none⟩ := fun j => by unfold World.cell?; simp only [e1]
  have hf : ∀ j, w'.frozen? ⟨Y, j, none⟩ = w.frozen? ⟨Y, j, none⟩ := fun j => by unfold World.frozen?; simp only [e1]
  exact ⟨(hc 0).trans h.textc, (hc 1).trans h.leftc, (hc 2).trans h.offc, fun j => (hf j).trans (h.free j)⟩
theorem RefAt.keep {w w' : World} {Y : Nat} {s : St} (h : RefAt w Y s) (hb : Below w.heap.size w w') : RefAt w' Y s := h.of_block (hb.block Y h.lt)
theorem RefAt.other {w w' : World} {Y X g : Nat} {s : St} (h : RefAt w Y s) (hc : Chg X g w w') (h1 : Y ≠ X) (h2 : Y ≠ g) : RefAt w' Y s := h.of_block (hc.block Y h.lt h1 h2)
theorem RefAt.set {w : World} {Y : Nat} {s : St} (h : RefAt w Y s) (a b c : Value) :
    (((w.setCell ⟨Y, 0, none⟩ a).setCell ⟨Y, 1, none⟩ b).setCell ⟨Y, 2, none⟩ c).cell? ⟨Y, 0, none⟩ = some a ∧ (((w.setCell ⟨Y, 0, none⟩ a).setCell ⟨Y, 1, none⟩ b).setCell ⟨Y, 2, none⟩ c).cell? ⟨Y, 1, none⟩ = some b ∧
    (((w.setCell ⟨Y, 0, none⟩ a).setCell ⟨Y, 1, none⟩ b).setCell ⟨Y, 2, none⟩ c).cell? ⟨Y, 2, none⟩ = some c := by
  refine ⟨?_, ?_, ?_⟩ <;> simp [World.cell?_setCell_other, World.cell?_setCell_same, h.textc, h.leftc, h.offc]
theorem ref_new (w : World) (s : St) (ty : TypeId) : RefAt (w.alloc (.cells #[.string (str s.t), .int .i64 (leftR s), .bool s.off] ty)) w.heap.size s :=
  ⟨by rw [World.cell?_alloc_at _ _ _ _ rfl]; rfl, by rw [World.cell?_alloc_at _ _ _ _ rfl]; rfl, by rw [World.cell?_alloc_at _ _ _ _ rfl]; rfl,
   fun j => by have := World.frozen?_alloc_mark w #[.string (str s.t), .int .i64 (leftR s), .bool s.off] ty 0 0 j; rw [this]; simp⟩

set_option maxRecDepth 100000 in
theorem rNew_any (T : Tx) (w : World) :
    Calls Tryd.prog 9 #[.string (str T)] w (fun e w' => ∃ Y, e = .returned (.pointer (some ⟨Y, 0, none⟩)) ∧ RefAt w' Y (newS T) ∧ w.heap.size ≤ Y ∧ Below w.heap.size w w') := by
  go_enter Tryd.func9, Tryd.ntmps9
  go_wp2_with fail
  go_ret
  exact ⟨w.heap.size, rfl, ref_new w (newS T) _, Nat.le_refl _, more (start w) _⟩

set_option maxRecDepth 100000 in
set_option maxHeartbeats 1000000 in
theorem rLimit_any (Y : Nat) (s : St) (n : Int) (w : World) (h : RefAt w Y s) :
    Calls Tryd.prog 13 #[.pointer (some ⟨Y, 0, none⟩), .int .i64 n] w (fun e w' => e = .returned (.tuple #[]) ∧ RefAt w' Y (limitS s n) ∧ Chg Y Y w w') := by
  have c1 := h.leftc
  have f1 := h.free 1
  have HQ : Hid (∀ v : Int, v = max 0 n → RefAt (w.setCell ⟨Y, 1, none⟩ (.int .i64 v)) Y (limitS s n)) := hide (fun v e => by
    have e2 : leftR (limitS s n) = v := by unfold leftR limitS; simp; omega
    refine ⟨?_, ?_, ?_, fun j => ?_⟩
    · simp [World.cell?_setCell_other, h.textc, limitS]
    · rw [e2]; simp [World.cell?_setCell_same, h.leftc]
    · simp [World.cell?_setCell_other, h.offc, limitS]
    · rw [World.frozen?_setCell]; exact h.free j)
  clear h
  go_enter Tryd.func13, Tryd.ntmps13
  go_wp2_with fail
  all_goals
    go_end0
    exact ⟨rfl, HQ.out _ (by omega), (Chg.refl Y Y w).set 1 _⟩

/-- what is behind the last end, as a piece of the text. -/
theorem rest_piece (t : Tx) (i : Nat) (hi : i ≤ t.length) : (restL (t.take i)).length ≤ i ∧ (t.take i).drop (i - (restL (t.take i)).length) = restL (t.take i) := by
  have h := (cut_spec (t.take i)).1
  have hl : (t.take i).length = i := by simp; omega
  generalize restL (t.take i) = r at *
  generalize flatW (linesL (t.take i)) = f at *
  have h2 : f.length + r.length = i := by rw [← hl, h, List.length_append]
  refine ⟨by omega, ?_⟩
  rw [h, show i - r.length = f.length by omega, List.drop_left]
set_option maxRecDepth 100000 in
set_option maxHeartbeats 1600000 in
theorem rLines_any (Y : Nat) (s : St) (w : World) (h : RefAt w Y s) (hz : s.t.length ≤ 100000) :
    Calls Tryd.prog 21 #[.pointer (some ⟨Y, 0, none⟩)] w (fun e w' => ∃ v, e = .returned v ∧ OwnS w' w.heap.size v (linesL s.t) ∧ Below w.heap.size w w') := by
  have HR := hide h
  obtain ⟨T, hT⟩ : ∃ T, s.t = T := ⟨_, rfl⟩
  rw [hT] at hz ⊢
  have HT := hide hT
  clear h hT
  have hsz := str_size T
  go_enter Tryd.func21, Tryd.ntmps21
  go_wp2_with fail
  go_loopw [3, 4, 5] (fun o f i wr => ∃ k : Nat, k ≤ T.length ∧ i = .int .i64 k ∧ f = .int .i64 ((k - (restL (T.take k)).length : Nat) : Int) ∧ Hid (OwnS wr w.heap.size o (linesL (T.take k))) ∧ Hid (Below w.heap.size w wr)) (fun _ _ i _ => T.length - (intOf i).toNat)
  case atStart => exact ⟨0, Nat.zero_le _, rfl, by simp, hide (ownS_nil _ _), hide (start _)⟩
  case round =>
    obtain ⟨k, hk, rfl, rfl, ho, hb⟩ := hrel
    have c0 := (HR.out.keep hb.out).textc
    rw [HT.out] at c0
    have HP := hide (rest_piece T k hk)
    have HLL := hide (lines_len (T.take k))
    by_cases hlt : k < T.length
    · have hi0 : (0 : Int) ≤ (k : Int) := by omega
      have hi1 : (k : Int) < (T.length : Int) := by omega
      have hi2 : (k : Int) ≤ 100000 := by omega
      have htk : T.take (k + 1) = T.take k ++ [T[k]] := by rw [List.take_add_one, List.getElem?_eq_getElem hlt]; rfl
      obtain ⟨fN, hfN⟩ : ∃ fN, k - (restL (T.take k)).length = fN := ⟨_, rfl⟩
      rw [hfN] at HP ⊢
      have HF := hide hfN
      have hcc : (str T)[k]'(by rw [hsz]; exact hlt) = T[k] := by simp [str, ByteArray.getElem_eq_getElem_data]
      by_cases hc : T[k] = 10
      · have HE := hide (lines_end (T.take k))
        rw [hc] at htk
        rw [← htk] at HE
        have HX := hide (show (str T).extract fN k = str (restL (T.take k)) by rw [ext_str, str_list, HP.out.2])
        have HO := hide ho.out
        have HB := hide hb.out
        have hz1 := hb.out.size
        have hln : (linesL (T.take k)).length ≤ 1000000 := by have := HLL.out; simp at this; omega
        have hf0 : (0 : Int) ≤ (fN : Int) := by omega
        have hf1 : (fN : Int) ≤ (k : Int) := by have := HF.out; omega
        have HLN := hide hln
        have HZ1 := hide hz1
        clear hfN htk hln hz1 ho hb
        rw [hc] at hcc
        go_wp2_with (at_builtin; rw [HX.out]; refine wp_oneS (l := linesL (T.take k)) (p := restL (T.take k)) rfl _ _ rfl rfl rfl rfl HO.out HZ1.out HLN.out ?_; intro v3 w3 hown3 hb3)
        refine ⟨⟨k + 1, by omega, by go_num, ?_, hide (by rw [HE.out.1]; exact hown3), hide (HB.out.trans hb3)⟩, by simp [intOf]; omega⟩
        rw [HE.out.2]; simp
      · have HE := hide (lines_more (T.take k) T[k] hc)
        rw [← htk] at HE
        have hne : (((T[k]).toNat : Int) == 10) = false := by
          rw [beq_eq_false_iff_ne]
          intro e
          exact hc (UInt8.toNat_inj.1 (show (T[k]).toNat = 10 by omega))
        have HO := hide ho.out
        have HB := hide hb.out
        have HLE := hide (show k + 1 - ((restL (T.take k)).length + 1) = fN by have := HF.out; omega)
        clear hfN htk hc ho hb
        go_wp2_with fail
        go_roundw
        case rel =>
          refine ⟨k + 1, by omega, by go_num, ?_, hide (by rw [HE.out.1]; exact HO.out), hide HB.out⟩
          rw [HE.out.2, List.length_append, List.length_singleton, HLE.out]
        case measure => simp [intOf]; omega
    · obtain rfl : k = T.length := by omega
      have HO := hide ho.out
      have HB := hide hb.out
      rw [List.take_length] at HO
      clear ho hb HP HLL
      go_wp2_with fail
      go_ret
      exact ⟨_, rfl, HO.out, HB.out⟩

set_option maxRecDepth 100000 in
set_option maxHeartbeats 1600000 in
theorem rRise_any (Y : Nat) (s : St) (w : World) (h : RefAt w Y s) (hz : s.t.length ≤ 10000000) :
    Calls Tryd.prog 15 #[.pointer (some ⟨Y, 0, none⟩)] w (fun e w' => e = .returned (.tuple #[]) ∧ RefAt w' Y (riseS s) ∧ Chg Y Y w w') := by
  have c0 := h.textc
  have c1 := h.leftc
  have c2 := h.offc
  have f0 := h.free 0
  have f1 := h.free 1
  have f2 := h.free 2
  have HF := hide h.free
  obtain ⟨T, hT⟩ : ∃ T, s.t = T := ⟨_, rfl⟩
  rw [hT] at hz c0
  have HR := hide (show riseS s = ⟨keepL T, false, false, 0⟩ by rw [← hT]; rfl)
  rw [HR.out]
  have hsz := str_size T
  clear h hT HR
  go_enter Tryd.func15, Tryd.ntmps15
  go_wp2_with fail
  obtain ⟨V, hV⟩ : ∃ V, (w.setCell ⟨Y, 2, none⟩ (.bool false)).setCell ⟨Y, 1, none⟩ (.int .i64 (-1)) = V := ⟨_, rfl⟩
  have HFIN : Hid (∀ k, keepL T = T.take k → RefAt (V.setCell ⟨Y, 0, none⟩ (.string (str (T.take k)))) Y ⟨keepL T, false, false, 0⟩) := hide (fun k e => by
    subst hV
    refine ⟨?_, ?_, ?_, fun j => ?_⟩
    · simp [World.cell?_setCell_same, World.cell?_setCell_other, c0, e]
    · simp [World.cell?_setCell_same, World.cell?_setCell_other, c1, leftR]
    · simp [World.cell?_setCell_same, World.cell?_setCell_other, c2]
    · simp only [World.frozen?_setCell]; exact HF.out j)
  have HCH : Hid (∀ k : Tx, Chg Y Y w (V.setCell ⟨Y, 0, none⟩ (.string (str k)))) := hide (fun k => by subst hV; exact (((Chg.refl Y Y w).set 2 _).set 1 _).set 0 _)
  have c0v : V.cell? ⟨Y, 0, none⟩ = some (.string (str T)) := by subst hV; simp [World.cell?_setCell_other, c0]
  have f0v : V.frozen? ⟨Y, 0, none⟩ = false := by subst hV; simp only [World.frozen?_setCell]; exact f0
  rw [hV]
  clear hV c0 c1 c2 f0 f1 f2 HF
  go_loopw [2] (fun i wr => ∃ k : Nat, k ≤ T.length ∧ i = .int .i64 k ∧ Hid (One (T.drop k)) ∧ wr = V) (fun i _ => (intOf i).toNat)
  case atStart => exact ⟨T.length, Nat.le_refl _, by simp, hide (by intro c hc; simp at hc), rfl⟩
  case round =>
    obtain ⟨k, hk, rfl, hq, rfl⟩ := hrel
    rcases k with _ | k
    · have HK := hide (show keepL T = T.take 0 by rw [keep_none T (by have := hq.out; simpa using this)]; rfl)
      have hx : (str T).extract 0 0 = str (T.take 0) := by rw [ext_str, str_list]; rfl
      clear hq
      try simp only [Int.natCast_zero]
      go_wp2_with fail
      go_end0
      exact ⟨rfl, HFIN.out 0 HK.out, HCH.out []⟩
    · have hlt : k < T.length := by omega
      have hcc : (str T)[k]'(by rw [hsz]; exact hlt) = T[k] := by simp [str, ByteArray.getElem_eq_getElem_data]
      have hi0 : (0 : Int) ≤ (k : Int) := by omega
      have hi1 : (k : Int) < (T.length : Int) := by omega
      have hi2 : (0 : Int) < (k : Int) + 1 := by omega
      have hi3 : (k : Int) + 1 - 1 = (k : Int) := by omega
      have hi4 : (k : Int) + 1 ≤ (T.length : Int) := by omega
      try simp only [Int.natCast_add, Int.natCast_one]
      by_cases hc : T[k] = 10
      · have HK := hide (show keepL T = T.take (k + 1) by rw [← keep_take T, keep_last T k hlt hc hq.out])
        have hx : (str T).extract 0 (k + 1) = str (T.take (k + 1)) := by rw [ext_str, str_list]; rfl
        rw [hc] at hcc
        clear hq hc
        go_wp2_with fail
        go_end0
        exact ⟨rfl, HFIN.out _ HK.out, HCH.out _⟩
      · have HO := hide (show One (T.drop k) by
          rw [List.drop_eq_getElem_cons hlt]
          intro x hx
          rcases List.mem_cons.1 hx with rfl | hx
          · exact hc
          · exact hq.out x hx)
        have hne : (((T[k]).toNat : Int) != 10) = true := by
          rw [bne_iff_ne]
          intro e
          exact hc (UInt8.toNat_inj.1 (show (T[k]).toNat = 10 by omega))
        clear hq hc
        go_wp2_with fail
        go_roundw
        case rel => exact ⟨k, by omega, by go_num, HO, trivial⟩
        case measure => simp [intOf]
end Go.Proofs.YtimhbpfeofdfnaaDoor

/- Walks of package slate: Lines. What the walks ask of the world: bytealg.MaxLen's cell holds a number. By hand. -/
import Derived.Test.YtimhbpfeofdfnaaDoorSlG
namespace Go.Proofs.YtimhbpfeofdfnaaDoor
open Go.RowKit Sl

/-- a package-level variable's cell. -/
theorem cell_below {B : Nat} {w w' : World} {b : Nat} {v : Value} (h : w.cell? ⟨b, 0, none⟩ = some v) (hb : Below B w w') (hB : w.heap.size ≤ B) : w'.cell? ⟨b, 0, none⟩ = some v :=
  (hb.cell (p := ⟨b, 0, none⟩) (Nat.lt_of_lt_of_le (block_lt_of_cell h) hB)).trans h
structure Env (w : World) : Prop where
  len : ∃ m : Int, w.cell? ⟨0, 0, none⟩ = some (.int .i64 m)
theorem Env.keep {w w' : World} (h : Env w) (hb : Below w.heap.size w w') : Env w' := by
  obtain ⟨⟨m, h2⟩⟩ := h
  exact ⟨⟨m, cell_below h2 hb (Nat.le_refl _)⟩⟩
theorem split_all (T : Tx) (w : World) (he : Env w) (ht : T.length ≤ 1000000) :
    Calls Tryd.prog 28 #[.string (str T), .string ⟨#[10]⟩] w (PieS w (linesL T ++ [restL T])) := by
  obtain ⟨m, hm⟩ := he.len
  have hz : (str T).size = T.length := str_size T
  refine (Tryd.strings_Split (str T) (str [10]) m w (by omega) hm (by rw [str_size]; decide)).mono ?_
  rintro e w' ⟨rfl, rfl⟩
  have ed := Lib.splitB_data (str [10]) 0 (Lib.countB (str T) (str [10])) (str T)
  have es : Lib.split T [10] = Lib.splitK [10] 0 (Lib.countB (str T) (str [10])) T := by
    unfold Lib.split Lib.countB; rw [str_list, str_list]
  have el := Lib.splitB_all (str [10]) (by rw [str_size]; decide) 0 _ (str T) rfl
  rw [str_list, str_list, ← es, split_is] at ed
  generalize hB : Lib.splitB (str [10]) 0 (Lib.countB (str T) (str [10])) (str T) = B at *
  generalize linesL T ++ [restL T] = L at *
  have hl : B.length = L.length := by rw [← ed, List.length_map]
  rw [el] at hl
  refine ⟨some ⟨w.heap.size, 0, none⟩, _, by rw [hl], fun _ => ⟨w.heap.size, 0, rfl, by simp, fun i hi => ?_⟩, by omega, more (start _) _⟩
  have hi2 : i < B.length := by omega
  have hx : L[i] = B[i].data.toList := by
    have : (B.map (·.data.toList))[i]'(by rw [List.length_map]; exact hi2) = B[i].data.toList := List.getElem_map _
    rw [← this]
    congr 1
    exact ed.symm
  rw [hx, data_str, Nat.zero_add, World.cell?_alloc_at _ _ _ _ rfl]
  simp only [List.getElem?_toArray]
  rw [List.getElem?_map, List.getElem?_eq_getElem hi2]; rfl

theorem lines_len (t : Tx) : (linesL t).length ≤ t.length := by
  have h := (cut_spec t).1
  have h2 : ∀ ls : List Tx, ls.length ≤ (flatW ls).length := by
    intro ls
    induction ls with
    | nil => simp
    | cons l ls ih => rw [flatW_cons]; simp; omega
  have := h2 (linesL t)
  have h3 := congrArg List.length h
  rw [List.length_append] at h3
  omega
set_option maxRecDepth 100000 in
set_option maxHeartbeats 1000000 in
theorem sLines_any (X g : Nat) (s : St) (w : World) (h : SlateAt w X g s) (he : Env w) (hz : s.t.length ≤ 1000000) :
    Calls Tryd.prog 20 #[.pointer (some ⟨X, 0, none⟩)] w (PieS w (linesL s.t)) := by
  have HT := hide (text_any X g s w h)
  have HC := hide (split_all s.t w he hz)
  have hsl := lines_len s.t
  obtain ⟨m, hm⟩ : ∃ m, (linesL s.t).length = m := ⟨_, rfl⟩
  rw [hm] at hsl
  have hi5 : (m : Int) ≤ 1000000 := by omega
  have HM := hide hm
  generalize linesL s.t = l at *
  generalize restL s.t = x at *
  clear h he hz hm hsl
  go_enter Tryd.func20, Tryd.ntmps20
  go_wp2_with fail
  refine HT.out.mono ?_
  rintro e w' ⟨rfl, rfl⟩
  go_wp2_with fail
  refine HC.out.mono ?_
  rintro e w1 ⟨A, cap, rfl, hrow, hcap, hb1⟩
  have hlen : (l ++ [x]).length = m + 1 := by rw [List.length_append, HM.out]; rfl
  rw [hlen] at hcap ⊢
  obtain ⟨b, off, rfl, hbl, hc⟩ := hrow (by simp)
  have HR := hide hrow
  have HB := hide hb1
  have hi1 : (m : Int) + 1 - 1 = (m : Int) := by omega
  have hi3 : (0 : Int) ≤ (m : Int) := by omega
  have hi4 : (m : Int) ≤ (cap : Int) := by omega
  have HCAP := hide hcap
  clear hrow hb1 hc hlen hcap
  go_wp2_with fail
  go_ret
  refine ⟨_, cap, ?_, HR.out.front, by have := HCAP.out; have := HM.out; omega, HB.out⟩
  rw [HM.out]; rfl
end Go.Proofs.YtimhbpfeofdfnaaDoor

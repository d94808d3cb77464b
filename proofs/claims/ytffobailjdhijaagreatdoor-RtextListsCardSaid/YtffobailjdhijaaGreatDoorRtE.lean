/- The library's contracts at texts; what the walks ask of the package-level variables. -/
import Derived.Test.YtffobailjdhijaaGreatDoorRtD
import Derived.Test.YtffobailjdhijaaGreatDoorCivTxt
import Derived.Lib.AtoiErrMem
namespace Go.Proofs.YtffobailjdhijaaGreatDoor
open Go.RowKit Rul Rt Go.Sort

/-- a package-level variable's cell. -/
theorem cell_below {B : Nat} {w w' : World} {b : Nat} {v : Value} (h : w.cell? ⟨b, 0, none⟩ = some v) (hb : Below B w w') (hB : w.heap.size ≤ B) : w'.cell? ⟨b, 0, none⟩ = some v :=
  (hb.cell (p := ⟨b, 0, none⟩) (Nat.lt_of_lt_of_le (block_lt_of_cell h) hB)).trans h
structure Env (w : World) : Prop where
  tab : Tab w
  len : ∃ m : Int, w.cell? ⟨0, 0, none⟩ = some (.int .i64 m)
  syn : ∃ ev, w.cell? ⟨2, 0, none⟩ = some ev ∧ (ev = .nilIface ∨ ∃ te pe, ev = .iface te pe)
  rng : ∃ ev, w.cell? ⟨3, 0, none⟩ = some ev ∧ (ev = .nilIface ∨ ∃ te pe, ev = .iface te pe)
theorem Env.below {B : Nat} {w w' : World} (h : Env w) (hb : Below B w w') (hB : w.heap.size ≤ B) : Env w' := by
  obtain ⟨h1, ⟨m, h2⟩, ⟨e, h3, h4⟩, ⟨f, h5, h6⟩⟩ := h
  exact ⟨h1.below hb hB, ⟨m, cell_below h2 hb hB⟩, ⟨e, cell_below h3 hb hB, h4⟩, ⟨f, cell_below h5 hb hB, h6⟩⟩
theorem Env.keep {w w' : World} (h : Env w) (hb : Below w.heap.size w w') : Env w' := h.below hb (Nat.le_refl _)

theorem itoa_all (n : Int) (w : World) (h : in64 n) (ht : Tab w) : Calls Tryz.prog 32 #[.int .i64 n] w (Ans w (.string (str (Lib.itoa n)))) :=
  (Tryz.strconv_Itoa n h.1 h.2 w ht).mono fun _ _ ⟨he, k, os, hw⟩ => ⟨he, hw ▸ below_growN w k os⟩
theorem join_all (c : UInt8) (s : ByteArray) (hs : s = str [c]) (A : Option Addr) (n cap : Nat) (l : List Tx) (w : World) (hl : RowS w A l) (hn : n = l.length) (hcap : l.length ≤ cap) (hsz : l.length ≤ 1000) (hlen : ∀ p ∈ l, p.length ≤ 100000) :
    Calls Tryz.prog 53 #[.slice A n cap, .string s] w (Ans w (.string (str (joinAt c l)))) := by
  subst hn hs
  by_cases h0 : l = []
  · subst h0
    exact (Tryz.strings_Join_none A cap _ w).mono fun _ _ ⟨he, hw⟩ => ⟨he, hw ▸ start _⟩
  · obtain ⟨b, o, rfl, hb, hc⟩ := hl h0
    have em : (l.map str).map (fun x : ByteArray => x.data.toList) = l := by
      rw [List.map_map]
      have : (fun x : ByteArray => x.data.toList) ∘ str = id := by funext x; simp [str]
      rw [this, List.map_id]
    have ej : Lib.join ((l.map str).map (fun x : ByteArray => x.data.toList)) (str [c]).data.toList = joinAt c l := by rw [em, str_list]; exact join_lib c l
    have hJ : (joinAt c l).length ≤ 140737488355328 := by
      have h1 := join_len c 100000 l hlen
      have h2 : l.length * (100000 + 1) ≤ 1000 * (100000 + 1) := Nat.mul_le_mul_right _ hsz
      omega
    have := Tryz.strings_Join b o cap (l.map str) (str [c]) w (fun j x hx => by
      rw [List.getElem?_map, Option.map_eq_some_iff] at hx
      obtain ⟨t, ht, rfl⟩ := hx
      obtain ⟨hj, e⟩ := List.getElem?_eq_some_iff.1 ht
      rw [hc j hj, e]) hb (by rw [List.length_map]; omega) (by rw [List.length_map]; exact hcap) (by rw [ej]; exact hJ)
    rw [List.length_map, ej] at this
    exact this
theorem data_str (x : ByteArray) : str x.data.toList = x := (str_of x).symm
theorem splitN_all (c : UInt8) (s : ByteArray) (hs : s = str [c]) (n : Nat) (N : Int) (hN : N = (n : Int)) (t : ByteArray) (w : World) (he : Env w) (ht : t.size ≤ 100000) (hn : 1 ≤ n) (hn2 : n ≤ 1000) :
    Calls Tryz.prog 45 #[.string t, .string s, .int .i64 N] w fun e w' => ∃ A cap, e = .returned (.slice A (Lib.splitN t.data.toList [c] n).length cap) ∧ RowS w' A (Lib.splitN t.data.toList [c] n) ∧ Below w.heap.size w w' := by
  subst hs hN
  obtain ⟨m, hm⟩ := he.len
  refine (Tryz.strings_SplitN t (str [c]) n m w (by omega) hm (by rw [str_size]; simp) hn (by omega)).mono ?_
  rintro e w' ⟨rfl, rfl⟩
  have ed := Lib.splitB_data (str [c]) 0 (min n (t.size + 1) - 1) t
  have es : Lib.splitN t.data.toList [c] n = Lib.splitK [c] 0 (min n (t.size + 1) - 1) t.data.toList := by unfold Lib.splitN; rw [len_of]
  rw [str_list, ← es] at ed
  generalize hB : Lib.splitB (str [c]) 0 (min n (t.size + 1) - 1) t = B at *
  have hl : B.length = (Lib.splitN t.data.toList [c] n).length := by rw [← ed, List.length_map]
  refine ⟨some ⟨w.heap.size, 0, none⟩, _, by rw [hl], fun _ => ⟨w.heap.size, 0, rfl, by simp, fun i hi => ?_⟩, more (start _) _⟩
  have hi2 : i < B.length := by rw [hl]; exact hi
  have hx : (Lib.splitN t.data.toList [c] n)[i] = B[i].data.toList := by
    have : (B.map (·.data.toList))[i]'(by rw [List.length_map]; exact hi2) = B[i].data.toList := List.getElem_map _
    rw [← this]
    congr 1
    exact ed.symm
  rw [hx, data_str, Nat.zero_add, World.cell?_alloc_at _ _ _ _ rfl]
  simp only [Lib.cellsOf, List.getElem?_toArray]
  rw [List.getElem?_append_left (by rw [List.length_map]; exact hi2), List.getElem?_map, List.getElem?_eq_getElem hi2]; rfl
theorem cutB_all (c : UInt8) (s : ByteArray) (hs : s = str [c]) (t : ByteArray) (w : World) (he : Env w) (ht : t.size ≤ 100000) :
    Calls Tryz.prog 42 #[.string t, .string s] w (Ans w (.tuple #[.string (str (Lib.cut t.data.toList [c]).1), .string (str (Lib.cut t.data.toList [c]).2.1), .bool (Lib.cut t.data.toList [c]).2.2])) := by
  subst hs
  obtain ⟨m, hm⟩ := he.len
  refine (Tryz.strings_Cut t (str [c]) m w (by omega) hm).mono ?_
  rintro e w' ⟨rfl, n, rfl⟩
  refine ⟨by rw [str_list]; rfl, below_drawn (start _) n⟩
theorem suffix_all (l : Tx) (s : ByteArray) (hs : s = str l) (t : ByteArray) (w : World) (ht : t.size ≤ 100000) :
    Calls Tryz.prog 97 #[.string t, .string s] w (Ans w (.tuple #[.string (str (Lib.trimSuffix t.data.toList l)), .bool (Lib.hasSuffix t.data.toList l)])) := by
  subst hs
  refine (Tryz.strings_CutSuffix t (str l) w (by omega)).mono ?_
  rintro e w' ⟨rfl, rfl⟩
  exact ⟨by rw [str_list]; rfl, start _⟩
/-- Atoi: a number and no error, or an error. -/
def Reads (w : World) (t : Tx) (e : Ending) (w' : World) : Prop := Below w.heap.size w w' ∧ ((∃ n, Lib.atoiAll t = .ok n ∧ in64 n ∧ e = .returned (.tuple #[.int .i64 n, .nilIface])) ∨ ((∀ n, Lib.atoiAll t ≠ .ok n) ∧ ∃ n te pe, e = .returned (.tuple #[.int .i64 n, .iface te (.pointer pe)])))
theorem atoi_all (t : ByteArray) (w : World) (he : Env w) (ht : t.size ≤ 100000) : Calls Tryz.prog 94 #[.string t] w (Reads w t.data.toList) := by
  cases ha : Lib.atoiAll t.data.toList with
  | ok n =>
    refine (Tryz.strconv_Atoi_ok t (by omega) n ha w).mono ?_
    rintro e w' ⟨rfl, hw⟩
    refine ⟨?_, Or.inl ⟨n, ha, Lib.atoiAll_bounds ha, rfl⟩⟩
    rcases hw with rfl | ⟨k, rfl⟩
    · exact start _
    · exact Lib.bytesWorld_below _ _ _
  | range =>
    obtain ⟨ev, h1, h2⟩ := he.rng
    refine (Tryz.strconv_Atoi_range t (by omega) ha ev w h1 h2).mono ?_
    rintro e w' ⟨N, rfl, _, _, hb⟩
    exact ⟨hb, Or.inr ⟨fun n g => (by rw [ha] at g; cases g), _, _, _, rfl⟩⟩
  | _ =>
    obtain ⟨ev, h1, h2⟩ := he.syn
    refine (Tryz.strconv_Atoi_bad t (by omega) (fun n g => by rw [ha] at g; cases g) (fun g => by rw [ha] at g; cases g) ev w h1 h2).mono ?_
    rintro e w' ⟨N, rfl, _, _, hb⟩
    exact ⟨hb, Or.inr ⟨fun n g => (by rw [ha] at g; cases g), _, _, _, rfl⟩⟩

end Go.Proofs.YtffobailjdhijaaGreatDoor

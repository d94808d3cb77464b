/- Walks of package line: Split, Join. -/
import Derived.Test.YtojhajlhbhkddaaDoorLiB
import Derived.Test.YtojhajlhbhkddaaDoorFoD
import Derived.Test.YtojhajlhbhkddaaDoorFoEn
import Derived.Test.YtojhajlhbhkddaaDoorShelg
namespace Go.Proofs.YtojhajlhbhkddaaDoor
open Go.RowKit Rul Rt Fo Li Go.Sort

/-- what Split answers. -/
def splA : Option (Tx × Tx) → Value
  | none => .tuple #[.string (str []), .string (str []), .int .i64 14]
  | some p => .tuple #[.string (str p.1), .string (str p.2), .int .i64 0]
def CutsC (w : World) (p r : Tx) (f : Bool) (e : Ending) (w' : World) : Prop := e = .returned (.tuple #[.string (str p), .string (str r), .bool f]) ∧ Below w.heap.size w w'
theorem cutC_none (T : ByteArray) (w : World) (he : Env w) (ht : T.size ≤ 1000000) (h : Lib.index T.data.toList [58] = -1) :
    Calls Tryd.prog 12 #[.string T, .string (str [58])] w (CutsC w T.data.toList [] false) := by
  obtain ⟨m, hm⟩ := he.len
  refine (Tryd.strings_Cut T (str [58]) m w (by omega) hm).mono ?_
  rintro e w' ⟨rfl, n, rfl⟩
  have e2 : Lib.cut T.data.toList (str [58]).data.toList = (T.data.toList, [], false) := by
    rw [str_list]; unfold Lib.cut; rw [h, if_neg (by decide)]
  rw [e2]
  exact ⟨rfl, below_drawn (start _) n⟩
theorem cutC_some (T : ByteArray) (w : World) (he : Env w) (ht : T.size ≤ 1000000) (i : Nat) (h : Lib.index T.data.toList [58] = (i : Int)) :
    Calls Tryd.prog 12 #[.string T, .string (str [58])] w (CutsC w (T.data.toList.take i) (T.data.toList.drop (i + 1)) true) := by
  obtain ⟨m, hm⟩ := he.len
  refine (Tryd.strings_Cut T (str [58]) m w (by omega) hm).mono ?_
  rintro e w' ⟨rfl, n, rfl⟩
  have e2 : Lib.cut T.data.toList (str [58]).data.toList = (T.data.toList.take i, T.data.toList.drop (i + 1), true) := by
    rw [str_list]; unfold Lib.cut; rw [h, if_pos (by omega)]; rfl
  rw [e2]
  exact ⟨rfl, below_drawn (start _) n⟩
theorem capitals_at (t r : Tx) (w : World) (ht : t.length ≤ 100000) (h : capE t = r) : Calls Tryd.prog 13 #[.string (str t)] w (Ans w (.string (str r))) := by
  have := capitals_any (str t) w (by rw [str_size]; exact ht)
  rw [str_list, h] at this
  exact this
theorem name_is (t : Tx) (b : Bool) (w : World) (ht : t.length ≤ 100000) (h : nameE t = b) : Calls Tryd.prog 8 #[.string (str t)] w (Ans w (.bool b)) :=
  name_at (str t) b w (by rw [str_size]; omega) (by rw [str_list]; exact h)

set_option maxRecDepth 100000 in
set_option maxHeartbeats 400000 in
theorem split_any (s : ByteArray) (w : World) (he : Env w) (hs : s.size ≤ 100000) :
    Calls Tryd.prog 7 #[.string s] w (Ans w (splA (lineE s.data.toList))) := by
  rcases index_byte 58 s.data.toList with ⟨hi, hm⟩ | ⟨i, hi, hlt, hm, hc⟩
  · have HC := hide (cutC_none s w he (by omega) hi)
    have HK := hide (fun w => capitals_at s.data.toList _ w (by rw [len_of]; exact hs) rfl)
    rw [lineE_none _ hm]
    generalize s.data.toList = L at *
    generalize capE L = P at *
    clear hi hm he hs
    unfold splA
    go_enter Tryd.func7, Tryd.ntmps7
    go_wp2_with fail
    refine (HC.out).mono ?_
    rintro e w1 ⟨rfl, b1⟩
    have B1 := hide b1
    clear b1
    go_wp2_with fail
    refine (HK.out _).mono ?_
    rintro e w2 ⟨rfl, b2⟩
    have B2 := hide (andthen B1.out b2)
    clear b2
    go_wp2_with fail
    go_ret3
    exact ⟨rfl, B2.out⟩
  · have HC := hide (cutC_some s w he (by omega) i hi)
    have hl : (s.data.toList.take i).length ≤ 100000 := by rw [List.length_take, len_of]; omega
    obtain ⟨p, hp⟩ : ∃ p, s.data.toList.take i = p := ⟨_, rfl⟩
    obtain ⟨r, hr⟩ : ∃ r, s.data.toList.drop (i + 1) = r := ⟨_, rfl⟩
    rw [hp] at HC hm hl
    rw [hr] at HC
    rw [hp, hr] at hc
    have HK := hide (fun w => capitals_at p _ w hl rfl)
    cases hn : nameE (capE p) with
    | true =>
      rw [lineE_some _ p r hc hm hn]
      have HN := hide (fun w => name_is (capE p) true w (by rw [capE_len]; exact hl) hn)
      generalize capE p = P at *
      clear hi hlt hm hc hp hr hl hn he hs
      unfold splA
      go_enter Tryd.func7, Tryd.ntmps7
      go_wp2_with fail
      refine (HC.out).mono ?_
      rintro e w1 ⟨rfl, b1⟩
      have B1 := hide b1
      clear b1
      go_wp2_with fail
      refine (HK.out _).mono ?_
      rintro e w2 ⟨rfl, b2⟩
      have B2 := hide (andthen B1.out b2)
      clear b2
      go_wp2_with fail
      refine (HN.out _).mono ?_
      rintro e w3 ⟨rfl, b3⟩
      have B3 := hide (andthen B2.out b3)
      clear b3
      go_wp2_with fail
      go_ret3
      exact ⟨rfl, B3.out⟩
    | false =>
      rw [lineE_bad _ p r hc hm hn]
      have HN := hide (fun w => name_is (capE p) false w (by rw [capE_len]; exact hl) hn)
      generalize capE p = P at *
      clear hi hlt hm hc hp hr hl hn he hs
      unfold splA
      go_enter Tryd.func7, Tryd.ntmps7
      go_wp2_with fail
      refine (HC.out).mono ?_
      rintro e w1 ⟨rfl, b1⟩
      have B1 := hide b1
      clear b1
      go_wp2_with fail
      refine (HK.out _).mono ?_
      rintro e w2 ⟨rfl, b2⟩
      have B2 := hide (andthen B1.out b2)
      clear b2
      go_wp2_with fail
      refine (HN.out _).mono ?_
      rintro e w3 ⟨rfl, b3⟩
      have B3 := hide (andthen B2.out b3)
      clear b3
      go_wp2_with fail
      go_ret3
      exact ⟨rfl, B3.out⟩
theorem split_at (s : ByteArray) (o : Option (Tx × Tx)) (w : World) (he : Env w) (hs : s.size ≤ 100000) (h : lineE s.data.toList = o) :
    Calls Tryd.prog 7 #[.string s] w (Ans w (splA o)) := by
  subst h; exact split_any s w he hs

set_option maxRecDepth 100000 in
set_option maxHeartbeats 400000 in
theorem join_line (a b : ByteArray) (w : World) (ha : a.size ≤ 40000) (hb : b.size ≤ 40000) :
    Calls Tryd.prog 6 #[.string a, .string b] w (Ans w (.string (str (foldE (a.data.toList ++ 58 :: b.data.toList))))) := by
  have h1 : (a ++ str [58]).size ≤ 40001 := by rw [ByteArray.size_append, str_size]; simp; omega
  have h2 : (a ++ str [58] ++ b).size ≤ 100000 := by rw [ByteArray.size_append]; omega
  have e : (a ++ str [58] ++ b).data.toList = a.data.toList ++ 58 :: b.data.toList := by
    simp [ByteArray.data_append, str]
  have HF := hide (fold_any (a ++ str [58] ++ b) w h2)
  rw [e] at HF
  generalize foldE (a.data.toList ++ 58 :: b.data.toList) = F at *
  clear e h2
  go_enter Tryd.func6, Tryd.ntmps6
  go_wp2_with fail
  refine (HF.out).mono ?_
  rintro e w1 ⟨rfl, b1⟩
  have B1 := hide b1
  clear b1
  go_wp2_with fail
  go_ret
  exact ⟨rfl, B1.out⟩
theorem join_at (a b : ByteArray) (r : Tx) (w : World) (ha : a.size ≤ 40000) (hb : b.size ≤ 40000) (h : foldE (a.data.toList ++ 58 :: b.data.toList) = r) :
    Calls Tryd.prog 6 #[.string a, .string b] w (Ans w (.string (str r))) := by
  subst h; exact join_line a b w ha hb

end Go.Proofs.YtojhajlhbhkddaaDoor

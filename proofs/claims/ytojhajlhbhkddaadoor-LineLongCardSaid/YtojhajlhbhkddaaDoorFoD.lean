/- Walks of package fold: piecesOf, folded, Fold. -/
import Derived.Test.YtojhajlhbhkddaaDoorRtC
import Derived.Test.YtojhajlhbhkddaaDoorShelf
import Derived.Test.YtojhajlhbhkddaaDoorFoMathB
import Derived.Deep.LoopGhost
namespace Go.Proofs.YtojhajlhbhkddaaDoor
open Go.RowKit Rul Rt Fo Go.Sort

theorem pc_step {S : Tx} {done : List Tx} {t : Tx} {r : Nat} (h : pc 75 S = done ++ pc r t) (hr : r < t.length) (h0 : r ≠ 0) : pc 75 S = (done ++ [t.take r]) ++ pc 74 (t.drop r) := by
  rw [h, pc_more r t hr h0]; simp
theorem pc_stop {S : Tx} {done : List Tx} {t : Tx} {r : Nat} (h : pc 75 S = done ++ pc r t) (hr : t.length ≤ r) : pc 75 S = done ++ [t] := by
  rw [h, pc_all r t hr]

set_option maxRecDepth 100000 in
set_option maxHeartbeats 1000000 in
theorem pieces_any (s : ByteArray) (w : World) (hs : s.size ≤ 100000) :
    Calls Tryd.prog 19 #[.string s] w (GivesS w (pc 75 s.data.toList)) := by
  go_enter Tryd.func19, Tryd.ntmps19
  go_wp2_with fail
  go_loopg [0, 3, 4] s.size (fun g S v r wr => ∃ (T : ByteArray) (room : Nat) (done : List Tx), S = .string T ∧ r = .int .i64 room ∧ T.size = g ∧ OwnS wr w.heap.size v done ∧ Hid (pc 75 s.data.toList = done ++ pc room T.data.toList) ∧ Hid ((room = 75 ∨ room = 74) ∧ done.length + T.size ≤ s.size) ∧ Below w.heap.size w wr)
  case atStart => exact ⟨s, 75, [], rfl, rfl, rfl, ownS_nil _ _, hide rfl, hide ⟨Or.inl rfl, by simp⟩, start _⟩
  case round =>
    obtain ⟨T, room, done, rfl, rfl, hg, hown, HP, HR, hbw⟩ := hrel
    have HO := hide hown
    have HBR := hide hbw
    clear hown hbw
    have hz := HBR.out.size
    have hln : done.length ≤ 1000000 := by have := HR.out.2; omega
    by_cases hlt : room < T.size
    · have hlt1 : (room : Int) < (T.size : Int) := by omega
      have hlt2 : (room : Int) ≤ (T.size : Int) := by omega
      have hr0 : (0 : Int) ≤ (room : Int) := by omega
      have HN := hide (pc_step HP.out (by rw [len_of]; exact hlt) (by have := HR.out.1; omega))
      have HE := hide (ext_str T 0 room)
      have HE2 := hide (ext_end T room)
      have hsz2 : (T.extract room T.size).size < gk ∧ done.length + 1 + (T.extract room T.size).size ≤ s.size := by
        rw [ByteArray.size_extract]; have := HR.out; omega
      have HS2 := hide hsz2
      obtain ⟨X, hX⟩ : ∃ X, T.extract 0 room = X := ⟨_, rfl⟩
      have HX : Hid (X = str (T.data.toList.take room)) := hide (hX ▸ HE.out.trans (by rw [List.drop_zero]))
      obtain ⟨Y, hY⟩ : ∃ Y, T.extract room T.size = Y := ⟨_, rfl⟩
      have HY : Hid (Y.data.toList = T.data.toList.drop room) := hide (by rw [← hY, HE2.out, str_list])
      rw [hY] at HS2
      have hown := HO.out
      clear hlt hsz2 HE HE2 hg
      go_wp2_with (at_builtin; rw [HX.out]; refine wp_oneS (l := done) (p := T.data.toList.take room) rfl _ _ rfl rfl rfl rfl hown hz hln ?_; intro v3 w3 hown3 hb3)
      have HO3 := hide hown3
      have HB3 := hide (HBR.out.trans hb3)
      clear hown hown3 hb3 hz hln
      go_wp2_with fail
      go_roundg Y.size
      case measure => exact HS2.out.1
      case rel => exact ⟨Y, 74, _, rfl, rfl, rfl, HO3.out, by rw [HY.out]; exact HN, hide ⟨Or.inr rfl, by rw [List.length_append]; have := HS2.out.2; simp; omega⟩, HB3.out⟩
    · have hlt1 : ¬ (room : Int) < (T.size : Int) := by omega
      have HF := hide (pc_stop HP.out (by rw [len_of]; omega))
      have HX := hide (str_of T)
      have hown := HO.out
      clear hlt hg
      go_wp2_with (at_builtin; rw [HX.out]; refine wp_oneS (l := done) (p := T.data.toList) rfl _ _ rfl rfl rfl rfl hown hz hln ?_; intro v3 w3 hown3 hb3)
      have HO3 := hide hown3
      have HB3 := hide (HBR.out.trans hb3)
      clear hown hown3 hb3 hz hln
      go_wp2_with fail
      go_ret
      exact ⟨_, rfl, by rw [HF.out]; exact HO3.out, HB3.out⟩

theorem joinS_all (sep : Tx) (s : ByteArray) (hs : s = str sep) (A : Option Addr) (n cap : Nat) (l : List Tx) (w : World) (hl : RowS w A l) (hn : n = l.length) (hcap : l.length ≤ cap) (h0 : l ≠ []) (hsz : l.length ≤ 1000000) (hJ : (Lib.join l sep).length ≤ 100000000) :
    Calls Tryd.prog 26 #[.slice A n cap, .string s] w (Ans w (.string (str (Lib.join l sep)))) := by
  subst hn hs
  obtain ⟨b, o, rfl, hb, hc⟩ := hl h0
  have em : (l.map str).map (fun x : ByteArray => x.data.toList) = l := by
    rw [List.map_map]
    have : (fun x : ByteArray => x.data.toList) ∘ str = id := by funext x; simp [str]
    rw [this, List.map_id]
  have ej : Lib.join ((l.map str).map (fun x : ByteArray => x.data.toList)) (str sep).data.toList = Lib.join l sep := by rw [em, str_list]
  have := Tryd.strings_Join b o cap (l.map str) (str sep) w (fun j x hx => by
    rw [List.getElem?_map, Option.map_eq_some_iff] at hx
    obtain ⟨t, ht, rfl⟩ := hx
    obtain ⟨hj, e⟩ := List.getElem?_eq_some_iff.1 ht
    rw [hc j hj, e]) hb (by rw [List.length_map]; omega) (by rw [List.length_map]; exact hcap) (by rw [ej]; omega)
  rw [List.length_map, ej] at this
  exact this

set_option maxHeartbeats 400000 in
theorem folded_any (A : Option Addr) (n cap : Nat) (l : List Tx) (w : World) (hl : RowS w A l) (hn : n = l.length) (hcap : l.length ≤ cap) (h0 : l ≠ []) (hsz : l.length ≤ 1000000) (hJ : (Lib.join l sepE).length ≤ 100000000) :
    Calls Tryd.prog 18 #[.slice A n cap] w (Ans w (.string (str (Lib.join l sepE)))) := by
  have HJ := hide (joinS_all sepE (str sepE) rfl A n cap l w hl hn hcap h0 hsz hJ)
  clear hl hn hcap h0 hsz hJ
  go_enter Tryd.func18, Tryd.ntmps18
  go_wp2_with fail
  refine (HJ.out).mono ?_
  rintro e w1 ⟨rfl, hb⟩
  go_wp2_with fail
  go_ret
  exact ⟨rfl, hb⟩

set_option maxHeartbeats 400000 in
theorem fold_any (s : ByteArray) (w : World) (hs : s.size ≤ 100000) :
    Calls Tryd.prog 11 #[.string s] w (Ans w (.string (str (foldE s.data.toList)))) := by
  have hl : (pc 75 s.data.toList).length ≤ 1000000 := by have := pc_len _ 75 s.data.toList (Nat.le_refl _); rw [len_of] at this; omega
  have h0 : pc 75 s.data.toList ≠ [] := by rw [pc]; split <;> simp
  have hJ : (Lib.join (pc 75 s.data.toList) sepE).length ≤ 100000000 := by rw [join_pc, foldE_len, len_of]; omega
  have HJ := hide (join_pc s.data.toList)
  have HP := hide (pieces_any s w hs)
  generalize pc 75 s.data.toList = ps at *
  have HL := hide hl
  have H0 := hide h0
  have HN := hide hJ
  clear hl h0 hJ hs
  rw [← HJ.out]
  go_enter Tryd.func11, Tryd.ntmps11
  go_wp2_with fail
  refine (HP.out).mono ?_
  rintro e w1 ⟨v, rfl, hown, hb1⟩
  obtain ⟨A, cap, rfl, hrow, hcap⟩ := OwnS.row hown
  have HB1 := hide hb1
  have HF := hide (folded_any A _ cap ps w1 hrow rfl hcap H0.out HL.out HN.out)
  clear hb1 hown hrow hcap
  go_wp2_with fail
  refine (HF.out).mono ?_
  rintro e w2 ⟨rfl, hb2⟩
  go_wp2_with fail
  go_ret
  exact ⟨rfl, andthen HB1.out hb2⟩

end Go.Proofs.YtojhajlhbhkddaaDoor

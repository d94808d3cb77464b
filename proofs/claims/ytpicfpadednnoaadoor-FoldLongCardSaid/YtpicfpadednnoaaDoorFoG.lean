/- Walks of package fold: Unescape. -/
import Derived.Test.YtpicfpadednnoaaDoorFoB
import Derived.Test.YtpicfpadednnoaaDoorFoE
import Derived.Test.YtpicfpadednnoaaDoorFoF
namespace Go.Proofs.YtpicfpadednnoaaDoor
open Go.RowKit Rul Rt Fo Go.Sort

theorem Bu.keep {w w' : World} {b : Nat} {l : Tx} (h : Bu w b l) (hb : Below w.heap.size w w') : Bu w' b l := by
  have hlt := h.lt
  rcases h with h | h
  · obtain ⟨h1, v, h2, h3, h4⟩ := h
    exact Or.inl ⟨h1, v, (hb.block _ hlt).trans h2, World.ownsRow.kept (row := none) h3 ⟨hb.os, hb.tape, hb.output, hb.size, fun i hi _ => hb.block i hi⟩ (by cases v.ownBlock <;> simp), h4⟩
  · obtain ⟨h1, v, h2, h3, h4⟩ := h
    exact Or.inr ⟨h1, v, (hb.block _ hlt).trans h2, World.ownsRow.kept (row := none) h3 ⟨hb.os, hb.tape, hb.output, hb.size, fun i hi _ => hb.block i hi⟩ (by cases v.ownBlock <;> simp), h4⟩
/-- what Unescape answers. -/
def unA : Option Tx → Value
  | none => .tuple #[.string (str []), .int .i64 14]
  | some t => .tuple #[.string (str t), .int .i64 0]

def Cuts (w : World) (p r : Tx) (f : Bool) (e : Ending) (w' : World) : Prop := e = .returned (.tuple #[.string (str p), .string (str r), .bool f]) ∧ Below w.heap.size w w'
theorem cut_none (T : ByteArray) (w : World) (he : Env w) (ht : T.size ≤ 1000000) (h : Lib.index T.data.toList [92] = -1) :
    Calls Tryd.prog 18 #[.string T, .string (str [92])] w (Cuts w T.data.toList [] false) := by
  obtain ⟨m, hm⟩ := he.len
  refine (Tryd.strings_Cut T (str [92]) m w (by omega) hm).mono ?_
  rintro e w' ⟨rfl, n, rfl⟩
  have e2 : Lib.cut T.data.toList (str [92]).data.toList = (T.data.toList, [], false) := by
    rw [str_list]; unfold Lib.cut; rw [h, if_neg (by decide)]
  rw [e2]
  exact ⟨rfl, below_drawn (start _) n⟩
theorem cut_some (T : ByteArray) (w : World) (he : Env w) (ht : T.size ≤ 1000000) (i : Nat) (h : Lib.index T.data.toList [92] = (i : Int)) :
    Calls Tryd.prog 18 #[.string T, .string (str [92])] w (Cuts w (T.data.toList.take i) (T.data.toList.drop (i + 1)) true) := by
  obtain ⟨m, hm⟩ := he.len
  refine (Tryd.strings_Cut T (str [92]) m w (by omega) hm).mono ?_
  rintro e w' ⟨rfl, n, rfl⟩
  have e2 : Lib.cut T.data.toList (str [92]).data.toList = (T.data.toList.take i, T.data.toList.drop (i + 1), true) := by
    rw [str_list]; unfold Lib.cut; rw [h, if_pos (by omega)]; rfl
  rw [e2]
  exact ⟨rfl, below_drawn (start _) n⟩
theorem any_at (p : Tx) (b : Bool) (w : World) (h : p.any bad = b) (hp : p.length ≤ 1000000) : Calls Tryd.prog 19 #[.string (str p), .string (str need)] w (Ans w (.bool b)) := by
  have := containsAny_any (str p) w (by rw [str_size]; exact hp)
  rw [str_list, h] at this
  exact this
theorem meant_at (r : Tx) (w : World) : Calls Tryd.prog 22 #[.string (str r)] w fun e w' => e = .returned (meanA r) ∧ w = w' := by
  have := meant_any (str r) w
  rw [str_list] at this
  exact this

set_option maxRecDepth 100000 in
set_option maxHeartbeats 400000 in
theorem unescape_any (s : ByteArray) (w : World) (he : Env w) (hs : s.size ≤ 100000) :
    Calls Tryd.prog 9 #[.string s] w (Ans w (unA (unE s.data.toList))) := by
  have HB0 := hide (bu_new w)
  have HW0 : Hid (Below w.heap.size w (w.alloc (.cells #[.pointer none, .slice none 0 0] 39))) := hide (more (start w) _)
  have HEN := hide he
  clear he
  go_enter Tryd.func9, Tryd.ntmps9
  go_wp2_with fail
  go_loopg [0, 5, 6, 7, 8, 9] s.size (fun g S _ _ _ _ _ wr => ∃ (T : ByteArray) (E : Tx), S = .string T ∧ T.size = g ∧ Hid (Bu wr w.heap.size E) ∧ Hid (unE s.data.toList = (unE T.data.toList).map (E ++ ·)) ∧ Hid (E.length + T.size ≤ s.size) ∧ Hid (Below w.heap.size w wr))
  case atStart => exact ⟨s, [], rfl, rfl, HB0, hide (by rw [map_nil]), hide (by simp), HW0⟩
  case round =>
    obtain ⟨T, E, rfl, hg, HB, HU, HL, HW⟩ := hrel
    have hT1 : T.size ≤ 1000000 := by have := HL.out; omega
    have HEV := hide (HEN.out.below HW.out (Nat.le_refl _))
    rcases index_mark T.data.toList with ⟨hi, hm⟩ | ⟨i, hi, hlt, hm, hc⟩
    · have HC := hide (cut_none T wr HEV.out hT1 hi)
      obtain ⟨t, ht⟩ : ∃ t, T.data.toList = t := ⟨_, rfl⟩
      have htl : t.length = T.size := by rw [← ht, len_of]
      rw [ht] at HC HU hm
      cases hb : t.any bad with
      | true =>
        have HF : Hid (unE s.data.toList = none) := hide (unE_stop (t := []) HU.out (by rw [List.append_nil]) hm hb)
        have HA := hide (fun w => any_at t true w hb (by omega))
        clear hm hb ht hi htl hT1 hg
        rw [HF.out]
        go_wp2_with fail
        refine (HC.out).mono ?_
        rintro e w1 ⟨rfl, b1⟩
        have B1 := hide (andthen HW.out b1)
        clear b1
        go_wp2_with fail
        refine (HA.out _).mono ?_
        rintro e w2 ⟨rfl, b2⟩
        have B2 := hide (andthen B1.out b2)
        clear b2
        go_wp2_with fail
        go_ret2
        exact ⟨rfl, B2.out⟩
      | false =>
        have HF : Hid (unE s.data.toList = some (E ++ t)) := hide (unE_done HU.out hm hb)
        have HA := hide (fun w => any_at t false w hb (by omega))
        have HLN : Hid (E.length ≤ 1000000 ∧ (str t).size ≤ 1000000) := hide (by rw [str_size]; have := HL.out; omega)
        clear hm hb ht hi htl hT1 hg
        rw [HF.out]
        go_wp2_with fail
        refine (HC.out).mono ?_
        rintro e w1 ⟨rfl, b1⟩
        have B1 := hide (andthen HW.out b1)
        replace HB := hide (HB.out.keep b1)
        clear b1
        go_wp2_with fail
        refine (HA.out _).mono ?_
        rintro e w2 ⟨rfl, b2⟩
        have B2 := hide (andthen B1.out b2)
        replace HB := hide (HB.out.keep b2)
        clear b2
        go_wp2_with fail
        refine (ws_any _ E (str t) w2 HB.out HLN.out.1 HLN.out.2).mono ?_
        rintro e w3 ⟨rfl, h3, b3⟩
        rw [str_list] at h3
        have H3 := hide h3
        have B3 := hide (B2.out.trans b3)
        clear h3 b3
        go_wp2_with fail
        refine (bstr_any _ _ w3 H3.out).mono ?_
        rintro e w4 ⟨rfl, b4⟩
        have B4 := hide (B3.out.trans b4)
        clear b4
        go_wp2_with fail
        go_ret2
        exact ⟨rfl, B4.out⟩
    · have HC := hide (cut_some T wr HEV.out hT1 i hi)
      obtain ⟨p, hp⟩ : ∃ p, T.data.toList.take i = p := ⟨_, rfl⟩
      obtain ⟨r, hr⟩ : ∃ r, T.data.toList.drop (i + 1) = r := ⟨_, rfl⟩
      have hlp : p.length + r.length + 1 = T.size := by
        rw [← hp, ← hr, List.length_take, List.length_drop]; rw [len_of] at *; omega
      rw [hp, hr] at HC hc
      rw [hp] at hm
      cases hb : p.any bad with
      | true =>
        have HF : Hid (unE s.data.toList = none) := hide (unE_stop HU.out hc hm hb)
        have HA := hide (fun w => any_at p true w hb (by omega))
        clear hm hb hp hr hi hlp hT1 hg hc hlt
        rw [HF.out]
        go_wp2_with fail
        refine (HC.out).mono ?_
        rintro e w1 ⟨rfl, b1⟩
        have B1 := hide (andthen HW.out b1)
        clear b1
        go_wp2_with fail
        refine (HA.out _).mono ?_
        rintro e w2 ⟨rfl, b2⟩
        have B2 := hide (andthen B1.out b2)
        clear b2
        go_wp2_with fail
        go_ret2
        exact ⟨rfl, B2.out⟩
      | false =>
        have HA := hide (fun w => any_at p false w hb (by omega))
        have HLN : Hid (E.length ≤ 1000000 ∧ (str p).size ≤ 1000000) := hide (by rw [str_size]; have := HL.out; omega)
        have HM := hide (fun w => meant_at r w)
        have hodd : (r = [] ∨ ∃ d u, r = d :: u ∧ mean d = none) → unE s.data.toList = none := fun h => unE_odd HU.out hc hm hb h
        have hnext : ∀ d u b, r = d :: u → mean d = some b → unE s.data.toList = (unE u).map (((E ++ p) ++ [b]) ++ ·) := fun d u b h1 h2 => unE_next HU.out (by rw [hc, h1]) hm hb h2
        rcases (by
          cases r with
          | nil => exact Or.inl ⟨Or.inl rfl, rfl⟩
          | cons d u =>
            cases hmd : mean d with
            | none => exact Or.inl ⟨Or.inr ⟨d, u, rfl, hmd⟩, by simp only [meanA, hmd]⟩
            | some b => exact Or.inr ⟨d, u, b, rfl, hmd, by simp only [meanA, hmd]⟩ :
          ((r = [] ∨ ∃ d u, r = d :: u ∧ mean d = none) ∧ meanA r = .tuple #[.int .u8 0, .bool false]) ∨ ∃ d u b, r = d :: u ∧ mean d = some b ∧ meanA r = .tuple #[.int .u8 b.toNat, .bool true]) with ⟨h, hA⟩ | ⟨d, u, b, h1, h2, hA⟩
        · have HF := hide (hodd h)
          rw [hA] at HM
          clear hm hb hp hr hi hlp hT1 hg hc hlt hodd hnext h hA
          rw [HF.out]
          go_wp2_with fail
          refine (HC.out).mono ?_
          rintro e w1 ⟨rfl, b1⟩
          have B1 := hide (andthen HW.out b1)
          replace HB := hide (HB.out.keep b1)
          clear b1
          go_wp2_with fail
          refine (HA.out _).mono ?_
          rintro e w2 ⟨rfl, b2⟩
          have B2 := hide (andthen B1.out b2)
          replace HB := hide (HB.out.keep b2)
          clear b2
          go_wp2_with fail
          refine (ws_any _ E (str p) w2 HB.out HLN.out.1 HLN.out.2).mono ?_
          rintro e w3 ⟨rfl, h3, b3⟩
          have B3 := hide (B2.out.trans b3)
          clear h3 b3
          go_wp2_with fail
          refine (HM.out _).mono ?_
          rintro e w4 ⟨rfl, rfl⟩
          go_wp2_with fail
          go_ret2
          exact ⟨rfl, B3.out⟩
        · have HN := hide (hnext d u b h1 h2)
          subst h1
          rw [hA] at HM
          have HX : Hid ((str (d :: u)).extract 1 (str (d :: u)).size = str u) := hide (by rw [ext_end, str_list]; rfl)
          have hx1 : (1 : Int) ≤ ((str (d :: u)).size : Int) := by rw [str_size, List.length_cons]; omega
          have HMS : Hid (u.length < gk ∧ (((E ++ p) ++ [b]).length + u.length ≤ s.size) ∧ (E ++ p).length ≤ 1000000) := hide (by
            simp only [List.length_append, List.length_cons, List.length_nil] at hlp ⊢
            have := HL.out
            omega)
          obtain ⟨X, hXe⟩ : ∃ X, (str (d :: u)).extract 1 (str (d :: u)).size = X := ⟨_, rfl⟩
          rw [hXe] at HX
          unfold Cuts at HC
          generalize str (d :: u) = R at *
          clear hm hb hp hr hi hlp hT1 hg hc hlt hodd hnext h2 hA
          go_wp2_with fail
          refine (HC.out).mono ?_
          rintro e w1 ⟨rfl, b1⟩
          have B1 := hide (andthen HW.out b1)
          replace HB := hide (HB.out.keep b1)
          clear b1
          go_wp2_with fail
          refine (HA.out _).mono ?_
          rintro e w2 ⟨rfl, b2⟩
          have B2 := hide (andthen B1.out b2)
          replace HB := hide (HB.out.keep b2)
          clear b2
          go_wp2_with fail
          refine (ws_any _ E (str p) w2 HB.out HLN.out.1 HLN.out.2).mono ?_
          rintro e w3 ⟨rfl, h3, b3⟩
          rw [str_list] at h3
          have H3 := hide h3
          have B3 := hide (B2.out.trans b3)
          clear h3 b3
          go_wp2_with fail
          refine (HM.out _).mono ?_
          rintro e w4 ⟨rfl, rfl⟩
          go_wp2_with fail
          refine (wb_any _ (E ++ p) b _ rfl w3 H3.out HMS.out.2.2).mono ?_
          rintro e w5 ⟨rfl, h5, b5⟩
          have H5 := hide h5
          have B5 := hide (B3.out.trans b5)
          clear h5 b5
          go_wp2_with fail
          go_roundg u.length
          case measure => exact HMS.out.1
          case rel => exact ⟨X, _, rfl, by rw [HX.out, str_size], H5, by rw [HX.out, str_list]; exact HN, hide (by rw [HX.out, str_size]; exact HMS.out.2.1), B5⟩

end Go.Proofs.YtpicfpadednnoaaDoor

/- Walks of the document's texts: set. -/
import Derived.Test.YtffobailjdhijaaGreatDoorRtWds
import Derived.Test.YtffobailjdhijaaGreatDoorRtL
import Derived.Test.YtffobailjdhijaaGreatDoorRefF
namespace Go.Proofs.YtffobailjdhijaaGreatDoor
open Go.RowKit Rul Rt Go.Sort

theorem listR_len {α : Type} [DecidableEq α] {lt : α → α → Bool} {f : Tx → Option α} {t : Tx} {l : List α} (h : listR lt f t = some l) : l.length ≤ t.length + 1 := by
  have h1 := insAll_len _ _ _ h
  have h2 := cutAt_len 44 t
  rw [List.length_nil] at h1; omega
theorem grown_more {w w1 w2 : World} {b : Nat} (h : w.grownBy w1 (some b)) (hb : Below w1.heap.size w1 w2) : w.grownBy w2 (some b) := h.trans (grown_below hb)
theorem grown_put {w w1 : World} {b i : Nat} {y : Value} (h : w.grownBy w1 (some b)) : w.grownBy (w1.setCell ⟨b, i, none⟩ y) (some b) := h.trans (grown_set (start w1))
/-- which frequency's word it is, of the first ones. -/
def FrAt (t : Tx) (j : Nat) (f : Bool) (k : Nat) : Prop := (f = false ∧ ∀ i, i + 1 < j → freqWs.getD i [] ≠ t) ∨ (f = true ∧ k < 4 ∧ freqWs.getD k [] = t)
theorem FrAt.no {t : Tx} {k : Nat} (h : FrAt t 5 false k) : ixOf freqWs t = none := by
  rcases h with ⟨_, h⟩ | ⟨h, _⟩
  · cases hx : ixOf freqWs t with
    | none => rfl
    | some i =>
      have h1 := ixOf_some hx
      have h2 : i < 4 := (List.getElem?_eq_some_iff.1 h1).1
      exact absurd (by rw [List.getD_eq_getElem?_getD, h1]; rfl) (h i (by omega))
  · cases h
theorem FrAt.yes {t : Tx} {k : Nat} (h : FrAt t 5 true k) : ixOf freqWs t = some k := by
  rcases h with ⟨h, _⟩ | ⟨_, h4, rfl⟩
  · cases h
  · have : ∀ k : Nat, k < 4 → ixOf freqWs (freqWs.getD k []) = some k := by decide
    exact this k h4
def frSet (r : T) (f : Bool) (k : Nat) : T := if f then { r with fr := ((k + 1 : Nat) : Int) } else r

set_option maxRecDepth 100000 in
set_option maxHeartbeats 1000000 in
theorem set_0 (t : Tx) (b : Nat) (v : Value) (r : T) (D M Y : Option Addr) (dn dc mn mc yn yc : Nat) (w : World) (h : RuleAt w b v r D dn dc M mn mc Y yn yc) (hv : ∀ g, v.ownBlock = some g → g < w.heap.size) (ht : t.length ≤ 900) :
    Calls Tryz.prog 24 #[.pointer (some ⟨b, 0, none⟩), .string (str nFREQ), .string (str t)] w (Takes w b v r (Rt.valOf unU rdR nFREQ t)) := by
  rw [rval_0]
  obtain ⟨X, hX⟩ : ∃ X, nFREQ = X := ⟨_, rfl⟩
  have e0 : (X == [70, 82, 69, 81]) = true := by rw [← hX]; decide
  have q1 := str_tl X
  have hts : (str t).size ≤ 900 := by rw [str_size]; exact ht
  have htl : (str t).data.toList = t := str_list t
  have H := hide h
  have HV := hide hv
  rw [hX]
  clear h hv hX ht
  go_enter Tryz.func24, Tryz.ntmps24
  go_wp2_with fail
  go_loopw [7, 8] (fun ok i wr => ∃ (j : Nat) (f : Bool) (k : Nat), 1 ≤ j ∧ j ≤ 5 ∧ i = .int .i64 j ∧ ok = .bool f ∧ RuleAt wr b v (frSet r f k) D dn dc M mn mc Y yn yc ∧ w.grownBy wr (some b) ∧ Hid (FrAt t j f k)) (fun _ i _ => 5 - (intOf i).toNat)
  case atStart => exact ⟨1, false, 0, Nat.le_refl _, by omega, rfl, rfl, H.out, grown_below (start _), hide (Or.inl ⟨rfl, fun i h => absurd h (by omega)⟩)⟩
  case round =>
    obtain ⟨j, f, k, hj1, hj, rfl, rfl, hru, hg, HA⟩ := hrel
    have HU := hide hru
    have HG := hide hg
    clear hru hg
    by_cases hlt : j < 5
    · have HC := hide (fun w => rfreq_any (j : Int) w (by omega) (by omega))
      have hi0 : (j : Int) ≤ 4 := by omega
      have hfq : freqT (j : Int) = freqWs.getD (j - 1) [] := by unfold freqT; rw [Int.toNat_natCast]
      rw [hfq] at HC
      clear hfq
      by_cases hq : freqWs.getD (j - 1) [] = t
      · have HN : Hid (FrAt t (j + 1) true (j - 1)) := hide (Or.inr ⟨rfl, by omega, hq⟩)
        have q2 : (freqWs.getD (j - 1) [] == t) = true := by rw [tx_eq]; exact decide_eq_true hq
        have hjj : (((j - 1 + 1 : Nat)) : Int) = (j : Int) := by omega
        generalize freqWs.getD (j - 1) [] = F at *
        have q3 := str_tl F
        have q4 := str_tl t
        clear hq
        go_wp2_with fail
        refine (HC.out _).mono ?_
        rintro e w2 ⟨rfl, hb⟩
        have hu := HU.out.keep hb
        have ck := hu.c0
        have fk := hu.f0
        have HW := hide (hu.set_fr (j : Int))
        have HGG := hide (grown_put (i := 0) (y := .int .i64 (j : Int)) (grown_more HG.out hb))
        have HEQ : Hid ({ frSet r f k with fr := (j : Int) } = frSet r true (j - 1)) := hide (by unfold frSet; rw [hjj]; cases f <;> rfl)
        rw [HEQ.out] at HW
        clear hu hb hjj
        go_wp2_with fail
        go_roundw
        case rel => exact ⟨j + 1, true, j - 1, by omega, by omega, by go_num, rfl, HW.out, HGG.out, HN⟩
        case measure => simp [intOf]; omega
      · have HN : Hid (FrAt t (j + 1) f k) := hide (by
          rcases HA.out with ⟨h1, h2⟩ | h
          · refine Or.inl ⟨h1, fun i hi => ?_⟩
            rcases Nat.lt_or_ge (i + 1) j with g | g
            · exact h2 i g
            · obtain rfl : i = j - 1 := by omega
              exact hq
          · exact Or.inr h)
        have q2 : (freqWs.getD (j - 1) [] == t) = false := by rw [tx_eq]; exact decide_eq_false hq
        generalize freqWs.getD (j - 1) [] = F at *
        have q3 := str_tl F
        have q4 := str_tl t
        clear hq
        go_wp2_with fail
        refine (HC.out _).mono ?_
        rintro e w2 ⟨rfl, hb⟩
        have HW := hide (HU.out.keep hb)
        have HGG := hide (grown_more HG.out hb)
        clear hb
        go_wp2_with fail
        go_roundw
        case rel => exact ⟨j + 1, f, k, by omega, by omega, by go_num, rfl, HW.out, HGG.out, HN⟩
        case measure => simp [intOf]; omega
    · obtain rfl : j = 5 := by omega
      cases f with
      | false =>
        have HX := hide HA.out.no
        go_wp2_with fail
        go_ret
        rw [HX.out]
        exact ⟨HG.out, rfl⟩
      | true =>
        have HX := hide HA.out.yes
        go_wp2_with fail
        go_ret
        rw [HX.out]
        exact ⟨HG.out, rfl, _, _, _, _, _, _, _, _, _, HU.out⟩

set_option maxRecDepth 100000 in
set_option maxHeartbeats 1000000 in
theorem set_1 (t : Tx) (b : Nat) (v : Value) (r : T) (D M Y : Option Addr) (dn dc mn mc yn yc : Nat) (w : World) (h : RuleAt w b v r D dn dc M mn mc Y yn yc) (hv : ∀ g, v.ownBlock = some g → g < w.heap.size) (ht : t.length ≤ 900) :
    Calls Tryz.prog 24 #[.pointer (some ⟨b, 0, none⟩), .string (str nINTERVAL), .string (str t)] w (Takes w b v r (Rt.valOf unU rdR nINTERVAL t)) := by
  rw [rval_1]
  obtain ⟨X, hX⟩ : ∃ X, nINTERVAL = X := ⟨_, rfl⟩
  have e0 : (X == [70, 82, 69, 81]) = false := by rw [← hX]; decide
  have e1 : (X == [73, 78, 84, 69, 82, 86, 65, 76]) = true := by rw [← hX]; decide
  have q1 := str_tl X
  have hts : (str t).size ≤ 900 := by rw [str_size]; exact ht
  have htl : (str t).data.toList = t := str_list t
  have H := hide h
  have HV := hide hv
  rw [hX]
  clear h hv hX ht
  have HD := hide (fun w => rDec_any (str t) false w (by omega))
  rw [htl] at HD
  have ck := H.out.c1
  have fk := H.out.f1
  cases hd : decR t false with
  | none =>
    rw [decA_none hd] at HD
    have HO : Hid ((rdR.pos t).map Rt.Part.ev = none) := hide (by show (posOf (decR · false) t).map _ = none; unfold posOf; simp only [hd]; rfl)
    have ck2 : (w.setCell ⟨b, 1, none⟩ (.int .i64 0)).cell? ⟨b, 1, none⟩ = some (.int .i64 0) := set_st ck
    clear hd
    go_enter Tryz.func24, Tryz.ntmps24
    go_wp2_with fail
    refine (HD.out _).mono ?_
    rintro e w1 ⟨rfl, rfl⟩
    go_wp2_with fail
    go_ret
    rw [HO.out]
    exact ⟨grown_set (start _), rfl⟩
  | some n =>
    rw [decA_some hd] at HD
    have ck2 : (w.setCell ⟨b, 1, none⟩ (.int .i64 n)).cell? ⟨b, 1, none⟩ = some (.int .i64 n) := set_st ck
    by_cases hp : 0 < n
    · have HO : Hid ((rdR.pos t).map Rt.Part.ev = some (Rt.Part.ev n)) := hide (by show (posOf (decR · false) t).map _ = _; unfold posOf; simp only [hd]; rw [if_pos hp]; rfl)
      have q2 : decide (0 < n) = true := decide_eq_true hp
      clear hd
      go_enter Tryz.func24, Tryz.ntmps24
      go_wp2_with fail
      refine (HD.out _).mono ?_
      rintro e w1 ⟨rfl, rfl⟩
      go_wp2_with fail
      go_ret
      rw [HO.out]
      exact ⟨grown_set (start _), rfl, _, _, _, _, _, _, _, _, _, H.out.set_ev n⟩
    · have HO : Hid ((rdR.pos t).map Rt.Part.ev = none) := hide (by show (posOf (decR · false) t).map _ = none; unfold posOf; simp only [hd]; rw [if_neg hp]; rfl)
      have q2 : decide (0 < n) = false := decide_eq_false hp
      clear hd
      go_enter Tryz.func24, Tryz.ntmps24
      go_wp2_with fail
      refine (HD.out _).mono ?_
      rintro e w1 ⟨rfl, rfl⟩
      go_wp2_with fail
      go_ret
      rw [HO.out]
      exact ⟨grown_set (start _), rfl⟩

set_option maxRecDepth 100000 in
set_option maxHeartbeats 1000000 in
theorem set_2 (t : Tx) (b : Nat) (v : Value) (r : T) (D M Y : Option Addr) (dn dc mn mc yn yc : Nat) (w : World) (h : RuleAt w b v r D dn dc M mn mc Y yn yc) (hv : ∀ g, v.ownBlock = some g → g < w.heap.size) (ht : t.length ≤ 900) :
    Calls Tryz.prog 24 #[.pointer (some ⟨b, 0, none⟩), .string (str nCOUNT), .string (str t)] w (Takes w b v r (Rt.valOf unU rdR nCOUNT t)) := by
  rw [rval_2]
  obtain ⟨X, hX⟩ : ∃ X, nCOUNT = X := ⟨_, rfl⟩
  have e0 : (X == [70, 82, 69, 81]) = false := by rw [← hX]; decide
  have e1 : (X == [73, 78, 84, 69, 82, 86, 65, 76]) = false := by rw [← hX]; decide
  have e2 : (X == [67, 79, 85, 78, 84]) = true := by rw [← hX]; decide
  have q1 := str_tl X
  have hts : (str t).size ≤ 900 := by rw [str_size]; exact ht
  have htl : (str t).data.toList = t := str_list t
  have H := hide h
  have HV := hide hv
  rw [hX]
  clear h hv hX ht
  have HD := hide (fun w => rDec_any (str t) false w (by omega))
  rw [htl] at HD
  have ck := H.out.c2
  have fk := H.out.f2
  cases hd : decR t false with
  | none =>
    rw [decA_none hd] at HD
    have HO : Hid ((rdR.pos t).map Rt.Part.ct = none) := hide (by show (posOf (decR · false) t).map _ = none; unfold posOf; simp only [hd]; rfl)
    have ck2 : (w.setCell ⟨b, 2, none⟩ (.int .i64 0)).cell? ⟨b, 2, none⟩ = some (.int .i64 0) := set_st ck
    clear hd
    go_enter Tryz.func24, Tryz.ntmps24
    go_wp2_with fail
    refine (HD.out _).mono ?_
    rintro e w1 ⟨rfl, rfl⟩
    go_wp2_with fail
    go_ret
    rw [HO.out]
    exact ⟨grown_set (start _), rfl⟩
  | some n =>
    rw [decA_some hd] at HD
    have ck2 : (w.setCell ⟨b, 2, none⟩ (.int .i64 n)).cell? ⟨b, 2, none⟩ = some (.int .i64 n) := set_st ck
    by_cases hp : 0 < n
    · have HO : Hid ((rdR.pos t).map Rt.Part.ct = some (Rt.Part.ct n)) := hide (by show (posOf (decR · false) t).map _ = _; unfold posOf; simp only [hd]; rw [if_pos hp]; rfl)
      have q2 : decide (0 < n) = true := decide_eq_true hp
      clear hd
      go_enter Tryz.func24, Tryz.ntmps24
      go_wp2_with fail
      refine (HD.out _).mono ?_
      rintro e w1 ⟨rfl, rfl⟩
      go_wp2_with fail
      go_ret
      rw [HO.out]
      exact ⟨grown_set (start _), rfl, _, _, _, _, _, _, _, _, _, H.out.set_ct n⟩
    · have HO : Hid ((rdR.pos t).map Rt.Part.ct = none) := hide (by show (posOf (decR · false) t).map _ = none; unfold posOf; simp only [hd]; rw [if_neg hp]; rfl)
      have q2 : decide (0 < n) = false := decide_eq_false hp
      clear hd
      go_enter Tryz.func24, Tryz.ntmps24
      go_wp2_with fail
      refine (HD.out _).mono ?_
      rintro e w1 ⟨rfl, rfl⟩
      go_wp2_with fail
      go_ret
      rw [HO.out]
      exact ⟨grown_set (start _), rfl⟩

set_option maxRecDepth 100000 in
set_option maxHeartbeats 1000000 in
theorem set_3 (t : Tx) (b : Nat) (v : Value) (r : T) (D M Y : Option Addr) (dn dc mn mc yn yc : Nat) (w : World) (h : RuleAt w b v r D dn dc M mn mc Y yn yc) (hv : ∀ g, v.ownBlock = some g → g < w.heap.size) (ht : t.length ≤ 900) :
    Calls Tryz.prog 24 #[.pointer (some ⟨b, 0, none⟩), .string (str nUNTIL), .string (str t)] w (Takes w b v r (Rt.valOf unU rdR nUNTIL t)) := by
  rw [rval_3]
  obtain ⟨X, hX⟩ : ∃ X, nUNTIL = X := ⟨_, rfl⟩
  have e0 : (X == [70, 82, 69, 81]) = false := by rw [← hX]; decide
  have e1 : (X == [73, 78, 84, 69, 82, 86, 65, 76]) = false := by rw [← hX]; decide
  have e2 : (X == [67, 79, 85, 78, 84]) = false := by rw [← hX]; decide
  have e3 : (X == [85, 78, 84, 73, 76]) = true := by rw [← hX]; decide
  have q1 := str_tl X
  have hts : (str t).size ≤ 900 := by rw [str_size]; exact ht
  have htl : (str t).data.toList = t := str_list t
  have H := hide h
  have HV := hide hv
  rw [hX]
  clear h hv hX ht
  go_enter Tryz.func24, Tryz.ntmps24
  go_wp2_with fail
  refine (rParse_any (str t) _).mono ?_
  rintro e w1 ⟨rfl, hb⟩
  rw [htl]
  have hun : unU.f t = if (parseE t).2 = 0 then some (parseE t).1 else none := rfl
  obtain ⟨⟨n, c⟩, hP⟩ : ∃ P, parseE t = P := ⟨_, rfl⟩
  rw [hP] at hun ⊢
  simp only at hun ⊢
  have ck := (H.out.keep hb).c3
  have fk := (H.out.keep hb).f3
  have HK := hide (H.out.keep hb)
  have HB := hide hb
  clear hb hP
  by_cases hc : c = 0
  · have HO : Hid (unU.f t = some n) := hide (by rw [hun, if_pos hc])
    have q2 : (c == 0) = true := beq_iff_eq.2 hc
    clear hun hc
    go_wp2_with fail
    go_ret
    rw [HO.out]
    exact ⟨grown_set HB.out, rfl, _, _, _, _, _, _, _, _, _, HK.out.set_un n⟩
  · have HO : Hid (unU.f t = none) := hide (by rw [hun, if_neg hc])
    have q2 : (c == 0) = false := beq_eq_false_iff_ne.2 hc
    clear hun hc
    go_wp2_with fail
    go_ret
    rw [HO.out]
    exact ⟨grown_set HB.out, rfl⟩

set_option maxRecDepth 100000 in
set_option maxHeartbeats 1000000 in
theorem set_4 (t : Tx) (b : Nat) (v : Value) (r : T) (D M Y : Option Addr) (dn dc mn mc yn yc : Nat) (w : World) (h : RuleAt w b v r D dn dc M mn mc Y yn yc) (hv : ∀ g, v.ownBlock = some g → g < w.heap.size) (ht : t.length ≤ 900) :
    Calls Tryz.prog 24 #[.pointer (some ⟨b, 0, none⟩), .string (str nBYMONTH), .string (str t)] w (Takes w b v r (Rt.valOf unU rdR nBYMONTH t)) := by
  rw [rval_4]
  obtain ⟨X, hX⟩ : ∃ X, nBYMONTH = X := ⟨_, rfl⟩
  have e0 : (X == [70, 82, 69, 81]) = false := by rw [← hX]; decide
  have e1 : (X == [73, 78, 84, 69, 82, 86, 65, 76]) = false := by rw [← hX]; decide
  have e2 : (X == [67, 79, 85, 78, 84]) = false := by rw [← hX]; decide
  have e3 : (X == [85, 78, 84, 73, 76]) = false := by rw [← hX]; decide
  have e4 : (X == [66, 89, 77, 79, 78, 84, 72]) = true := by rw [← hX]; decide
  have q1 := str_tl X
  have hts : (str t).size ≤ 900 := by rw [str_size]; exact ht
  have htl : (str t).data.toList = t := str_list t
  have H := hide h
  have HV := hide hv
  rw [hX]
  clear h hv hX ht
  have HC := hide (ints_any (str t) false w hts)
  rw [htl] at HC
  obtain ⟨O, hO⟩ : ∃ O, listR inLt (decR · false) t = O := ⟨_, rfl⟩
  have HO : Hid ((rdR.nums false t).map Rt.Part.ys = O.map Rt.Part.ys) := hide (by rw [← hO]; rfl)
  have HLE : Hid (∀ l, O = some l → l.length ≤ 1000) := hide (fun l hl => by rw [← hO] at hl; have h1 := listR_len hl; rw [str_size] at hts; omega)
  rw [hO] at HC
  clear hO
  go_enter Tryz.func24, Tryz.ntmps24
  go_wp2_with fail
  refine HC.out.mono ?_
  rintro e w2 ⟨hb, ⟨rfl, rfl⟩ | ⟨l, v2, rfl, rfl, hown⟩⟩
  · have ck := (H.out.keep hb).c6
    have fk := (H.out.keep hb).f6
    have HB := hide hb
    clear hb
    go_wp2_with fail
    go_ret
    rw [HO.out]
    exact ⟨grown_set HB.out, rfl⟩
  · have HOW := hide hown
    obtain ⟨A2, cap2, rfl, hrow⟩ := OwnI.row hown
    have HRW := hide hrow
    have ck := (H.out.keep hb).c6
    have fk := (H.out.keep hb).f6
    have HK := hide (H.out.keep hb)
    have HB := hide hb
    clear hb hown hrow
    go_wp2_with fail
    go_ret
    rw [HO.out]
    exact ⟨grown_set HB.out, rfl, _, _, _, _, _, _, _, _, _, HK.out.set_ys A2 _ cap2 l HRW.out rfl (HLE.out l rfl) (OffB.new HOW.out H.out.lt HV.out)⟩

set_option maxRecDepth 100000 in
set_option maxHeartbeats 1000000 in
theorem set_5 (t : Tx) (b : Nat) (v : Value) (r : T) (D M Y : Option Addr) (dn dc mn mc yn yc : Nat) (w : World) (h : RuleAt w b v r D dn dc M mn mc Y yn yc) (hv : ∀ g, v.ownBlock = some g → g < w.heap.size) (ht : t.length ≤ 900) :
    Calls Tryz.prog 24 #[.pointer (some ⟨b, 0, none⟩), .string (str nBYMONTHDAY), .string (str t)] w (Takes w b v r (Rt.valOf unU rdR nBYMONTHDAY t)) := by
  rw [rval_5]
  obtain ⟨X, hX⟩ : ∃ X, nBYMONTHDAY = X := ⟨_, rfl⟩
  have e0 : (X == [70, 82, 69, 81]) = false := by rw [← hX]; decide
  have e1 : (X == [73, 78, 84, 69, 82, 86, 65, 76]) = false := by rw [← hX]; decide
  have e2 : (X == [67, 79, 85, 78, 84]) = false := by rw [← hX]; decide
  have e3 : (X == [85, 78, 84, 73, 76]) = false := by rw [← hX]; decide
  have e4 : (X == [66, 89, 77, 79, 78, 84, 72]) = false := by rw [← hX]; decide
  have e5 : (X == [66, 89, 77, 79, 78, 84, 72, 68, 65, 89]) = true := by rw [← hX]; decide
  have q1 := str_tl X
  have hts : (str t).size ≤ 900 := by rw [str_size]; exact ht
  have htl : (str t).data.toList = t := str_list t
  have H := hide h
  have HV := hide hv
  rw [hX]
  clear h hv hX ht
  have HC := hide (ints_any (str t) true w hts)
  rw [htl] at HC
  obtain ⟨O, hO⟩ : ∃ O, listR inLt (decR · true) t = O := ⟨_, rfl⟩
  have HO : Hid ((rdR.nums true t).map Rt.Part.ms = O.map Rt.Part.ms) := hide (by rw [← hO]; rfl)
  have HLE : Hid (∀ l, O = some l → l.length ≤ 1000) := hide (fun l hl => by rw [← hO] at hl; have h1 := listR_len hl; rw [str_size] at hts; omega)
  rw [hO] at HC
  clear hO
  go_enter Tryz.func24, Tryz.ntmps24
  go_wp2_with fail
  refine HC.out.mono ?_
  rintro e w2 ⟨hb, ⟨rfl, rfl⟩ | ⟨l, v2, rfl, rfl, hown⟩⟩
  · have ck := (H.out.keep hb).c5
    have fk := (H.out.keep hb).f5
    have HB := hide hb
    clear hb
    go_wp2_with fail
    go_ret
    rw [HO.out]
    exact ⟨grown_set HB.out, rfl⟩
  · have HOW := hide hown
    obtain ⟨A2, cap2, rfl, hrow⟩ := OwnI.row hown
    have HRW := hide hrow
    have ck := (H.out.keep hb).c5
    have fk := (H.out.keep hb).f5
    have HK := hide (H.out.keep hb)
    have HB := hide hb
    clear hb hown hrow
    go_wp2_with fail
    go_ret
    rw [HO.out]
    exact ⟨grown_set HB.out, rfl, _, _, _, _, _, _, _, _, _, HK.out.set_ms A2 _ cap2 l HRW.out rfl (HLE.out l rfl) (OffB.new HOW.out H.out.lt HV.out)⟩

set_option maxRecDepth 100000 in
set_option maxHeartbeats 1000000 in
theorem set_6 (t : Tx) (b : Nat) (v : Value) (r : T) (D M Y : Option Addr) (dn dc mn mc yn yc : Nat) (w : World) (h : RuleAt w b v r D dn dc M mn mc Y yn yc) (hv : ∀ g, v.ownBlock = some g → g < w.heap.size) (ht : t.length ≤ 900) :
    Calls Tryz.prog 24 #[.pointer (some ⟨b, 0, none⟩), .string (str nBYDAY), .string (str t)] w (Takes w b v r (Rt.valOf unU rdR nBYDAY t)) := by
  rw [rval_6]
  obtain ⟨X, hX⟩ : ∃ X, nBYDAY = X := ⟨_, rfl⟩
  have e0 : (X == [70, 82, 69, 81]) = false := by rw [← hX]; decide
  have e1 : (X == [73, 78, 84, 69, 82, 86, 65, 76]) = false := by rw [← hX]; decide
  have e2 : (X == [67, 79, 85, 78, 84]) = false := by rw [← hX]; decide
  have e3 : (X == [85, 78, 84, 73, 76]) = false := by rw [← hX]; decide
  have e4 : (X == [66, 89, 77, 79, 78, 84, 72]) = false := by rw [← hX]; decide
  have e5 : (X == [66, 89, 77, 79, 78, 84, 72, 68, 65, 89]) = false := by rw [← hX]; decide
  have e6 : (X == [66, 89, 68, 65, 89]) = true := by rw [← hX]; decide
  have q1 := str_tl X
  have hts : (str t).size ≤ 900 := by rw [str_size]; exact ht
  have htl : (str t).data.toList = t := str_list t
  have H := hide h
  have HV := hide hv
  rw [hX]
  clear h hv hX ht
  have HC := hide (rwdays_any (str t) w hts)
  rw [htl] at HC
  obtain ⟨O, hO⟩ : ∃ O, listR wdLt (wdWith (decR · true)) t = O := ⟨_, rfl⟩
  have HO : Hid ((rdR.wds t).map Rt.Part.ds = O.map Rt.Part.ds) := hide (by rw [← hO]; rfl)
  have HLE : Hid (∀ l, O = some l → l.length ≤ 1000) := hide (fun l hl => by rw [← hO] at hl; have h1 := listR_len hl; rw [str_size] at hts; omega)
  rw [hO] at HC
  clear hO
  go_enter Tryz.func24, Tryz.ntmps24
  go_wp2_with fail
  refine HC.out.mono ?_
  rintro e w2 ⟨hb, ⟨rfl, rfl⟩ | ⟨l, v2, rfl, rfl, hown⟩⟩
  · have ck := (H.out.keep hb).c4
    have fk := (H.out.keep hb).f4
    have HB := hide hb
    clear hb
    go_wp2_with fail
    go_ret
    rw [HO.out]
    exact ⟨grown_set HB.out, rfl⟩
  · have HOW := hide hown
    obtain ⟨A2, cap2, rfl, hrow⟩ := OwnD.row hown
    have HRW := hide hrow
    have ck := (H.out.keep hb).c4
    have fk := (H.out.keep hb).f4
    have HK := hide (H.out.keep hb)
    have HB := hide hb
    clear hb hown hrow
    go_wp2_with fail
    go_ret
    rw [HO.out]
    exact ⟨grown_set HB.out, rfl, _, _, _, _, _, _, _, _, _, HK.out.set_ds A2 _ cap2 l HRW.out rfl (HLE.out l rfl) (OffB.newD HOW.out H.out.lt HV.out)⟩

set_option maxRecDepth 100000 in
set_option maxHeartbeats 1000000 in
theorem set_no (X t : Tx) (b : Nat) (v : Value) (r : T) (w : World) (hx0 : X ≠ nFREQ) (hx1 : X ≠ nINTERVAL) (hx2 : X ≠ nCOUNT) (hx3 : X ≠ nUNTIL) (hx4 : X ≠ nBYMONTH) (hx5 : X ≠ nBYMONTHDAY) (hx6 : X ≠ nBYDAY) :
    Calls Tryz.prog 24 #[.pointer (some ⟨b, 0, none⟩), .string (str X), .string (str t)] w (Takes w b v r (Rt.valOf unU rdR X t)) := by
  have HN : Hid (Rt.valOf unU rdR X t = none) := hide (by unfold Rt.valOf; rw [if_neg hx0, if_neg hx1, if_neg hx2, if_neg hx3, if_neg hx4, if_neg hx5, if_neg hx6])
  have e0 : (X == [70, 82, 69, 81]) = false := by rw [tx_eq]; exact decide_eq_false hx0
  have e1 : (X == [73, 78, 84, 69, 82, 86, 65, 76]) = false := by rw [tx_eq]; exact decide_eq_false hx1
  have e2 : (X == [67, 79, 85, 78, 84]) = false := by rw [tx_eq]; exact decide_eq_false hx2
  have e3 : (X == [85, 78, 84, 73, 76]) = false := by rw [tx_eq]; exact decide_eq_false hx3
  have e4 : (X == [66, 89, 77, 79, 78, 84, 72]) = false := by rw [tx_eq]; exact decide_eq_false hx4
  have e5 : (X == [66, 89, 77, 79, 78, 84, 72, 68, 65, 89]) = false := by rw [tx_eq]; exact decide_eq_false hx5
  have e6 : (X == [66, 89, 68, 65, 89]) = false := by rw [tx_eq]; exact decide_eq_false hx6
  have q1 := str_tl X
  rw [HN.out]
  clear hx0 hx1 hx2 hx3 hx4 hx5 hx6
  go_enter Tryz.func24, Tryz.ntmps24
  go_wp2_with fail
  go_ret
  exact ⟨grown_below (start _), rfl⟩
theorem set_any (X t : Tx) (b : Nat) (v : Value) (r : T) (D M Y : Option Addr) (dn dc mn mc yn yc : Nat) (w : World) (h : RuleAt w b v r D dn dc M mn mc Y yn yc) (hv : ∀ g, v.ownBlock = some g → g < w.heap.size) (ht : t.length ≤ 900) :
    Calls Tryz.prog 24 #[.pointer (some ⟨b, 0, none⟩), .string (str X), .string (str t)] w (Takes w b v r (Rt.valOf unU rdR X t)) := by
  by_cases h0 : X = nFREQ
  · subst h0; exact set_0 t b v r D M Y dn dc mn mc yn yc w h hv ht
  by_cases h1 : X = nINTERVAL
  · subst h1; exact set_1 t b v r D M Y dn dc mn mc yn yc w h hv ht
  by_cases h2 : X = nCOUNT
  · subst h2; exact set_2 t b v r D M Y dn dc mn mc yn yc w h hv ht
  by_cases h3 : X = nUNTIL
  · subst h3; exact set_3 t b v r D M Y dn dc mn mc yn yc w h hv ht
  by_cases h4 : X = nBYMONTH
  · subst h4; exact set_4 t b v r D M Y dn dc mn mc yn yc w h hv ht
  by_cases h5 : X = nBYMONTHDAY
  · subst h5; exact set_5 t b v r D M Y dn dc mn mc yn yc w h hv ht
  by_cases h6 : X = nBYDAY
  · subst h6; exact set_6 t b v r D M Y dn dc mn mc yn yc w h hv ht
  exact set_no X t b v r w h0 h1 h2 h3 h4 h5 h6

end Go.Proofs.YtffobailjdhijaaGreatDoor

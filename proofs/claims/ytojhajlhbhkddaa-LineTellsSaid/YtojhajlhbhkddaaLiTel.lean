/- LineTells walked: of every text its name and value, or that it is ill-formed; whether it is a name; of both the line. -/
import Derived.Test.YtojhajlhbhkddaaLiK
import Derived.Test.YtojhajlhbhkddaaLiD
import Derived.Test.YtojhajlhbhkddaaFoRF
namespace Go.Proofs.Ytojhajlhbhkddaa
open Go.RowKit Rul Rt Fo Li Go.Sort

set_option maxRecDepth 100000 in
set_option maxHeartbeats 1000000 in
theorem ltells_any (s a b : ByteArray) (w : World) (he : Env w) :
    Calls Try.prog 3 #[.string s, .string a, .string b] w (Ans w (.bool true)) := by
  have HE := hide he
  have HK := hide (lknown_any w he)
  clear he
  by_cases h1 : 400 < s.size
  · have d1 : decide ((400 : Int) < (s.size : Int)) = true := decide_eq_true (by omega)
    go_enter Try.func3, Try.ntmps3
    go_wp2_with fail
    refine (HK.out).mono ?_
    rintro e w1 ⟨rfl, hb1⟩
    have HB := hide hb1
    clear hb1
    go_wp2_with fail
    go_ret
    exact ⟨rfl, HB.out⟩
  have d1 : decide ((400 : Int) < (s.size : Int)) = false := decide_eq_false (by omega)
  by_cases h2 : 40 < a.size
  · have d2 : decide ((40 : Int) < (a.size : Int)) = true := decide_eq_true (by omega)
    go_enter Try.func3, Try.ntmps3
    go_wp2_with fail
    refine (HK.out).mono ?_
    rintro e w1 ⟨rfl, hb1⟩
    have HB := hide hb1
    clear hb1
    go_wp2_with fail
    go_ret
    exact ⟨rfl, HB.out⟩
  have d2 : decide ((40 : Int) < (a.size : Int)) = false := decide_eq_false (by omega)
  by_cases h3 : 400 < b.size
  · have d3 : decide ((400 : Int) < (b.size : Int)) = true := decide_eq_true (by omega)
    go_enter Try.func3, Try.ntmps3
    go_wp2_with fail
    refine (HK.out).mono ?_
    rintro e w1 ⟨rfl, hb1⟩
    have HB := hide hb1
    clear hb1
    go_wp2_with fail
    go_ret
    exact ⟨rfl, HB.out⟩
  have d3 : decide ((400 : Int) < (b.size : Int)) = false := decide_eq_false (by omega)
  have C1 := hide (fun w he => split_any s w he (by omega))
  have C2 := hide (fun w => rSplit_any s w (by omega))
  have C3 := hide (fun w => name_any s w (by omega))
  have C4 := hide (fun w => rName_any s w (by omega))
  have C5 := hide (fun w => join_line a b w (by omega) (by omega))
  have hz1 : a.size ≤ 40 := by omega
  have hz2 : (a ++ str [58]).size ≤ 41 := by rw [ByteArray.size_append, str_size]; simp; omega
  have hz3 : b.size ≤ 400 := by omega
  have C6 := hide (fun w => rFold_any (a ++ str [58] ++ b) w (by rw [ByteArray.size_append]; omega))
  have e : (a ++ str [58] ++ b).data.toList = a.data.toList ++ 58 :: b.data.toList := by
    simp [ByteArray.data_append, str]
  rw [e] at C6
  generalize lineE s.data.toList = o at *
  generalize nameE s.data.toList = nb at *
  generalize foldE (a.data.toList ++ 58 :: b.data.toList) = F at *
  have qF : ((str F).toList == (str F).toList) = true := beq_self_eq_true _
  have qb : (nb == nb) = true := beq_self_eq_true _
  clear e h1 h2 h3
  obtain ⟨P, R, t, hA, hR, qP, qR⟩ : ∃ (P R : Tx) (t : Bool), splA o = .tuple #[.string (str P), .string (str R), .int .i64 (if t then 0 else 14)] ∧ splR o = .tuple #[.string (str P), .string (str R), .bool t] ∧ ((str P).toList == (str P).toList) = true ∧ ((str R).toList == (str R).toList) = true := by
    cases o with
    | none => exact ⟨[], [], false, rfl, rfl, beq_self_eq_true _, beq_self_eq_true _⟩
    | some p => exact ⟨p.1, p.2, true, rfl, rfl, beq_self_eq_true _, beq_self_eq_true _⟩
  rw [hA] at C1
  rw [hR] at C2
  clear hA hR
  cases t
  all_goals
    simp only [if_true, Bool.false_eq_true, if_false] at C1
    go_enter Try.func3, Try.ntmps3
    go_wp2_with fail
    refine (HK.out).mono ?_
    rintro e w1 ⟨rfl, hb1⟩
    have HB := hide hb1
    clear hb1
    go_wp2_with fail
    refine (C1.out _ (HE.out.keep HB.out)).mono ?_
    rintro e w2 ⟨rfl, hb2⟩
    replace HB := hide (andthen HB.out hb2)
    clear hb2
    go_wp2_with fail
    refine (C2.out _).mono ?_
    rintro e w3 ⟨rfl, hb3⟩
    replace HB := hide (andthen HB.out hb3)
    clear hb3
    go_wp2_with fail
    refine (C3.out _).mono ?_
    rintro e w4 ⟨rfl, hb4⟩
    replace HB := hide (andthen HB.out hb4)
    clear hb4
    go_wp2_with fail
    refine (C4.out _).mono ?_
    rintro e w5 ⟨rfl, rfl⟩
    go_wp2_with fail
    refine (C5.out _).mono ?_
    rintro e w6 ⟨rfl, hb6⟩
    replace HB := hide (andthen HB.out hb6)
    clear hb6
    go_wp2_with fail
    refine (C6.out _).mono ?_
    rintro e w7 ⟨rfl, hb7⟩
    replace HB := hide (andthen HB.out hb7)
    clear hb7
    go_wp2_with fail
    go_ret
    exact ⟨rfl, HB.out⟩

end Go.Proofs.Ytojhajlhbhkddaa

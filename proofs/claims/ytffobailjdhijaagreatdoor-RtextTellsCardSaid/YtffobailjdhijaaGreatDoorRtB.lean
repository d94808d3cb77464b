/- Walks of the document's numbers as texts: Num. -/
import Derived.Test.YtffobailjdhijaaGreatDoorRuC
import Derived.Test.YtffobailjdhijaaGreatDoorCivS
import Derived.Test.YtffobailjdhijaaGreatDoorRtText
import Derived.Laws.IdiomStrings
import Derived.Great.BuildSlice
import Derived.RegionTactic
namespace Go.Proofs.YtffobailjdhijaaGreatDoor
open Go.RowKit Rul Rt

theorem bs1 (p : Int) (w : World) : (Instr.buildSlice 65 1 #[(0, .int .u8 p)]).run Tryz.prog w = .ok (.slice (some ⟨w.heap.size, 0, none⟩) 1 1) (w.alloc (.cells #[.int .u8 p] 5)) := by kernel_rfl
theorem cv1 (p : Int) (w : World) (b : Nat) (p1 : 0 ≤ p) (p2 : p ≤ 255) (hc : w.cell? ⟨b, 0, none⟩ = some (.int .u8 p)) :
    (convert 65 9 (.slice (some ⟨b, 0, none⟩) 1 1)).run Tryz.prog w = .ok (.string (str [UInt8.ofNat p.toNat])) w := by
  refine run_convert_bytes_back (P := Tryz.prog) w 65 9 5 ⟨b, 0, none⟩ 1 [UInt8.ofNat p.toNat] Tryz.underlying65 Tryz.underlying5 Tryz.underlying9 ?_
  intro j hj
  have hj2 : j = 0 := by simp at hj; omega
  subst hj2
  simp [Addr.add, hc]; omega

set_option maxRecDepth 100000 in
set_option maxHeartbeats 400000 in
theorem rNum_small (n : Int) (w : World) (h1 : 0 ≤ n) (h2 : n < 10) :
    Calls Tryz.prog 19 #[.int .i64 n] w (Ans w (.string (str (Lib.itoa n)))) := by
  have hbs := bs1
  have hcv := cv1 (48 + n) (w.alloc (.cells #[.int .u8 (48 + n)] 5)) w.heap.size (by omega) (by omega) (by rw [World.cell?_alloc_at _ _ _ _ rfl]; rfl)
  have HG : Hid ([UInt8.ofNat (48 + n).toNat] = Lib.itoa n) := hide (by rw [itoa_pos n h1, dec_small _ (by omega)]; congr 2; omega)
  go_enter Tryz.func19, Tryz.ntmps19
  go_wp2_with fail
  go_ret
  exact ⟨ret_str (by rw [HG.out]), more (start _) _⟩

set_option maxRecDepth 100000 in
set_option maxHeartbeats 300000 in
theorem rNum_step (n : Int) (w : World) (h1 : 10 ≤ n) (h2 : n ≤ 1000000000) (ih : ∀ w, Calls Tryz.prog 19 #[.int .i64 (n / 10)] w (Ans w (.string (str (Lib.itoa (n / 10)))))) :
    Calls Tryz.prog 19 #[.int .i64 n] w (Ans w (.string (str (Lib.itoa n)))) := by
  have hbs := bs1
  have hcv := fun w b => cv1 (48 + n % 10) w b (by omega) (by omega)
  have HG : Hid (Lib.itoa (n / 10) ++ [UInt8.ofNat (48 + n % 10).toNat] = Lib.itoa n) := hide (by
    rw [itoa_pos n (by omega), itoa_pos (n / 10) (by omega), dec_big n.toNat (by omega)]
    congr 1
    · congr 1; omega
    · congr 2; omega)
  have HI := hide ih
  have hlen : (Lib.itoa (n / 10)).length ≤ 20 := by
    rw [itoa_pos (n / 10) (by omega)]
    have := dec_len 9 (n / 10).toNat (by omega)
    omega
  generalize Lib.itoa (n / 10) = L at *
  have hsz : (str L).size ≤ 20 := by rw [str_size]; exact hlen
  have hsd : (str [UInt8.ofNat (48 + n % 10).toNat]).size = 1 := by rw [str_size]; rfl
  clear ih hlen
  go_enter Tryz.func19, Tryz.ntmps19
  go_wp2_with fail
  have E1 : IntKind.i64.wrap (n.tdiv 10) = n / 10 := by rw [Int.tdiv_eq_ediv_of_nonneg (by omega)]; exact IntWalk.i64_in _ (by omega)
  have E2 : n.tmod 10 = n % 10 := Int.tmod_eq_emod_of_nonneg (by omega)
  have E3 : IntKind.i64.wrap (48 + n % 10) = 48 + n % 10 := IntWalk.i64_in _ (by omega)
  have E4 : IntKind.u8.wrap (48 + n % 10) = 48 + n % 10 := IntWalk.u8_in _ (by omega)
  have hcx0 : (w.alloc (.cells #[.int .u8 (48 + n % 10)] 5)).drew.cell? ⟨w.heap.size, 0, none⟩ = some (.int .u8 (48 + n % 10)) := by simp
  go_region_with (first | (go_at_call 19; with_reducible refine (HI.out (w.alloc (.cells #[.int .u8 (48 + n % 10)] 5)).drew).mono ?_; rintro e w2 ⟨rfl, hb⟩; have hcx := cell_keep hb hcx0) | (go_at_call 19; with_reducible refine (HI.out _).mono ?_; rintro e w2 ⟨rfl, hb⟩))
  all_goals
    go_wp2_with fail
    go_ret
    refine ⟨ret_str (by rw [str_app, HG.out]), ?_⟩
    first
      | exact more (andthen (start w).drew hb) _
      | exact andthen ((more (start w) _).drew) hb

theorem rNum_all : ∀ (k : Nat) (n : Int) (w : World), 0 ≤ n → n ≤ 1000000000 → n.toNat ≤ k →
    Calls Tryz.prog 19 #[.int .i64 n] w (Ans w (.string (str (Lib.itoa n))))
  | 0, n, w, h0, h1, hk => rNum_small n w h0 (by omega)
  | k + 1, n, w, h0, h1, hk => by
    by_cases h : n < 10
    · exact rNum_small n w h0 h
    · exact rNum_step n w (by omega) h1 fun w' => rNum_all k (n / 10) w' (by omega) (by omega) (by omega)
set_option maxHeartbeats 400000 in
theorem rNum_any (n : Int) (w : World) (h0 : -1000000000 ≤ n) (h1 : n ≤ 1000000000) :
    Calls Tryz.prog 19 #[.int .i64 n] w (Ans w (.string (str (Lib.itoa n)))) := by
  by_cases h : 0 ≤ n
  · exact rNum_all n.toNat n w h h1 (Nat.le_refl _)
  · have HG : Hid ([45] ++ Lib.itoa (-n) = Lib.itoa n) := hide (by rw [itoa_ng n (by omega), itoa_pos (-n) (by omega), show (-n).toNat = n.natAbs by omega]; rfl)
    have hlen : (Lib.itoa (-n)).length ≤ 20 := by
      rw [itoa_pos (-n) (by omega)]
      have := dec_len 9 (-n).toNat (by omega)
      omega
    have HI := hide (fun w => rNum_all (-n).toNat (-n) w (by omega) (by omega) (Nat.le_refl _))
    generalize Lib.itoa (-n) = L at *
    have hsz : (str L).size ≤ 20 := by rw [str_size]; exact hlen
    clear hlen
    go_enter Tryz.func19, Tryz.ntmps19
    go_wp2_with fail
    refine (HI.out _).mono ?_
    rintro e w2 ⟨rfl, hb⟩
    go_wp2_with fail
    go_ret
    exact ⟨ret_str (by rw [← HG.out, ← str_app]; rfl), hb⟩

end Go.Proofs.YtffobailjdhijaaGreatDoor

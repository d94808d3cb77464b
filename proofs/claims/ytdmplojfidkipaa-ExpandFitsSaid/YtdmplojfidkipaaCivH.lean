/- Walks of package civil: Minute in one contract; Clock. -/
import Derived.Test.YtdmplojfidkipaaCivG
namespace Go.Proofs.Ytdmplojfidkipaa
open Go.RowKit

theorem numE_cases (y m d : Int) : (∃ c, numE y m d = (0, c) ∧ (c = 10 ∨ c = 11)) ∨ (∃ a, numE y m d = (a, 0) ∧ 0 ≤ a ∧ a < 36525) := by
  cases hb : Cal.isB y m d
  · exact .inl ⟨11, numE_11 y m d hb, .inr rfl⟩
  · by_cases h1 : y < 2000 ∨ 2099 < y
    · exact .inl ⟨10, numE_10 y m d hb h1, .inl rfl⟩
    · have := Cal.num_bd y m d (by omega) (by omega) hb
      exact .inr ⟨_, numE_0 y m d hb (by omega) (by omega), this.1, this.2⟩

theorem results_5 {fn : Func} {p t u v : Tmp} {ty : TypeId} (h : fn.results = #[.cell p ty, .tmp t, .tmp u, .tmp v]) (tmps : Array Value) (P : Program) (w : World) :
    (results fn tmps).run P w =
      ((asAddr (tmps.getD p undef)).run P w).andThen fun a w₁ => ((loadVar ty a).run P w₁).andThen fun x w₂ => .ok (.tuple #[x, tmps.getD t undef, tmps.getD u undef, tmps.getD v undef]) w₂ := by
  simp only [results, h]
  simp [Sem.run_bind, Result.andThen]

set_option maxHeartbeats 400000 in
theorem clock_in (n : Int) (w : World) (h1 : 0 ≤ n) (h2 : n < 52596000) :
    Calls Try.prog 45 #[.agg #[.int .i64 n]] w fun e w' => e = .returned (.tuple #[.agg #[.int .i64 (n / 1440)], .int .i64 (n % 1440 / 60), .int .i64 (n % 60)]) ∧ Below w.heap.size w w' := by
  go_enter Try.func45, Try.ntmps45
  go_wp2_with fail
  refine (split_day n _ (by unfold I64; omega)).mono ?_
  rintro e w1 ⟨rfl, q, rfl⟩
  go_wp2_with fail
  refine bodyPost_ret (v := .tuple #[.agg #[.int .i64 (n / 1440)], .int .i64 (n % 1440 / 60), .int .i64 (n % 60)]) (by simp [results, Try.results45, go_sem]) rfl ⟨rfl, ?_⟩
  repeat (first | exact Below.refl _ _ | refine below_drewN ?_ _ | refine Below.setCell ?_ (by simp) _ | refine Below.alloc ?_ (by simp) _)

set_option maxHeartbeats 400000 in
theorem Clock_no (n : Int) (w : World) (h : n < 0 ∨ 52596000 ≤ n) :
    Calls Try.prog 32 #[.int .i64 n] w fun e w' => e = .returned (.tuple #[.agg #[.int .i64 0, .int .i64 0, .int .i64 0], .int .i64 0, .int .i64 0, .int .i64 10]) ∧ Below w.heap.size w w' := by
  have H := hide h
  clear h
  go_enter Try.func32, Try.ntmps32
  go_wp2_with fail
  refine (minute_no n _ H.out).mono ?_
  rintro e w1 ⟨rfl, hb1⟩
  obtain ⟨hc, hf⟩ := bcell hb1
  go_wp2_with fail
  have e0 : w1.cell? ⟨w.heap.size, 0, none⟩ = some (.int .i64 0) := by rw [hc _ _ (by simp; omega)]; simp
  have e1 : w1.cell? ⟨w.heap.size, 1, none⟩ = some (.int .i64 0) := by rw [hc _ _ (by simp; omega)]; simp
  have e2 : w1.cell? ⟨w.heap.size, 2, none⟩ = some (.int .i64 0) := by rw [hc _ _ (by simp; omega)]; simp
  refine bodyPost_ret (v := .tuple #[.agg #[.int .i64 0, .int .i64 0, .int .i64 0], .int .i64 0, .int .i64 0, .int .i64 10]) (by simp [results, Try.results32, go_sem, e0, e1, e2]) rfl ⟨rfl, ?_⟩
  repeat (first | exact Below.refl _ _ | refine Below.trans ?_ (hb1.mono (by simp; omega)) | refine below_drewN ?_ _ | refine Below.setCell ?_ (by simp) _ | refine Below.alloc ?_ (by simp) _)

set_option maxHeartbeats 1000000 in
theorem Clock_yes (n : Int) (w : World) (h1 : 0 ≤ n) (h2 : n < 52596000) :
    Calls Try.prog 32 #[.int .i64 n] w fun e w' => e = .returned (.tuple #[.agg #[.int .i64 (Cal.yOf (n / 1440)), .int .i64 (Cal.mOf (n / 1440)), .int .i64 (Cal.dOf (n / 1440))], .int .i64 (n % 1440 / 60), .int .i64 (n % 60), .int .i64 0]) ∧ Below w.heap.size w w' := by
  have hd1 : 0 ≤ n / 1440 := by omega
  have hd2 : n / 1440 < 36525 := by omega
  go_enter Try.func32, Try.ntmps32
  go_wp2_with fail
  refine (minute_yes n _ h1 h2).mono ?_
  rintro e w1 ⟨rfl, hb1⟩
  obtain ⟨hc, hf⟩ := bcell hb1
  have hz0 : w.heap.size < w1.heap.size := by have := hb1.size; simp at this; omega
  have hz1 : w.heap.size + 1 < w1.heap.size := by have := hb1.size; simp at this; omega
  go_wp2_with fail
  refine (clock_in n _ h1 h2).mono ?_
  rintro e w2 ⟨rfl, hb2⟩
  obtain ⟨hc2, hf2⟩ := bcell hb2
  have hz20 : w.heap.size < w2.heap.size := by have := hb2.size; omega
  go_wp2_with fail
  refine (date_any (n / 1440) _ hd1 hd2).mono ?_
  rintro e w3 ⟨rfl, hb3⟩
  obtain ⟨hc3, hf3⟩ := bcell hb3
  go_wp2_with fail
  have hz30 : w.heap.size < w3.heap.size := by have := hb3.size; simp at this; omega
  have e0 : w3.cell? ⟨w.heap.size, 0, none⟩ = some (.int .i64 0) := by rw [hc3 _ _ (by simp; omega), World.cell?_alloc_past _ _ _ hz20, hc2 _ _ hz0, hc _ _ (by simp; omega)]; simp
  have e1 : w3.cell? ⟨w.heap.size, 1, none⟩ = some (.int .i64 0) := by rw [hc3 _ _ (by simp; omega), World.cell?_alloc_past _ _ _ hz20, hc2 _ _ hz0, hc _ _ (by simp; omega)]; simp
  have e2 : w3.cell? ⟨w.heap.size, 2, none⟩ = some (.int .i64 0) := by rw [hc3 _ _ (by simp; omega), World.cell?_alloc_past _ _ _ hz20, hc2 _ _ hz0, hc _ _ (by simp; omega)]; simp
  refine bodyPost_ret (v := .tuple #[.agg #[.int .i64 (Cal.yOf (n / 1440)), .int .i64 (Cal.mOf (n / 1440)), .int .i64 (Cal.dOf (n / 1440))], .int .i64 (n % 1440 / 60), .int .i64 (n % 60), .int .i64 0]) (by simp [results, Try.results32, go_sem, e0, e1, e2]) rfl ⟨rfl, ?_⟩
  repeat (first | exact Below.refl _ _ | refine Below.trans ?_ (hb3.mono (by simp; omega)) | refine Below.trans ?_ (hb2.mono (by omega)) | refine Below.trans ?_ (hb1.mono (by simp; omega)) | refine below_drewN ?_ _ | refine Below.setCell ?_ (by simp) _ | refine Below.alloc ?_ (by first | (simp; done) | omega) _)

end Go.Proofs.Ytdmplojfidkipaa

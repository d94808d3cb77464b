/- Walks of package civil: Minute in one contract; Clock. -/
import Derived.Test.YtcjkghpcjjbjhaaCivG
namespace Go.Proofs.Ytcjkghpcjjbjhaa
open Go.RowKit

theorem numE_cases (y m d : Int) : (∃ c, numE y m d = (0, c) ∧ (c = 10 ∨ c = 11)) ∨ (∃ a, numE y m d = (a, 0) ∧ 0 ≤ a ∧ a < 36525) := by
  cases hb : Cal.isB y m d
  · exact .inl ⟨11, numE_11 y m d hb, .inr rfl⟩
  · by_cases h1 : y < 2000 ∨ 2099 < y
    · exact .inl ⟨10, numE_10 y m d hb h1, .inl rfl⟩
    · have := Cal.num_bd y m d (by omega) (by omega) hb
      exact .inr ⟨_, numE_0 y m d hb (by omega) (by omega), this.1, this.2⟩

theorem results_5 {fn : Func} {p t u v : Tmp} {ty : TypeId} (h : fn.results = #[.cell p ty, .tmp t, .tmp u, .tmp v]) (tmps : Array Value) (P : Program) (w : World) :
    (results fn tmps).run P w =
      ((asAddr (tmps.getD p undef)).run P w).andThen fun a w₁ => ((loadVar ty a).run P w₁).andThen fun x w₂ => .ok (.tuple #[x, tmps.getD t undef, tmps.getD u undef, tmps.getD v undef]) w₂ := by
  simp only [results, h]
  simp [Sem.run_bind, Result.andThen]

end Go.Proofs.Ytcjkghpcjjbjhaa

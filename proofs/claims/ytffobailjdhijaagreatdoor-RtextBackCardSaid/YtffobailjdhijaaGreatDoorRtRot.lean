/- Plain facts of a row of texts that is turned: what RtextBack puts together. -/
import Derived.Test.YtffobailjdhijaaGreatDoorRtText
namespace Go.Proofs.YtffobailjdhijaaGreatDoor.Rt
open Go.Proofs.YtffobailjdhijaaGreatDoor Rul

/-- a row turned by k. -/
def rot {α : Type} (k : Nat) (l : List α) : List α := l.drop k ++ l.take k
theorem rot_perm {α : Type} (k : Nat) (l : List α) : (rot k l).Perm l := by
  have := List.perm_append_comm (l₁ := l.drop k) (l₂ := l.take k)
  rw [List.take_append_drop] at this
  exact this
theorem rot_len {α : Type} (k : Nat) (l : List α) : (rot k l).length = l.length := (rot_perm k l).length_eq
theorem rot_map {α β : Type} (f : α → β) (k : Nat) (l : List α) : (rot k l).map f = rot k (l.map f) := by
  unfold rot
  rw [List.map_append, List.map_drop, List.map_take]
theorem rot_get {α : Type} (k i : Nat) (l : List α) (hk : k < l.length) (hi : i < l.length) : (rot k l)[i]'(by rw [rot_len]; exact hi) = l[(i + k) % l.length]'(Nat.mod_lt _ (by omega)) := by
  unfold rot
  by_cases h : i < l.length - k
  · rw [List.getElem_append_left (by rw [List.length_drop]; exact h), List.getElem_drop]
    congr 1
    rw [Nat.mod_eq_of_lt (by omega)]
    omega
  · rw [List.getElem_append_right (by rw [List.length_drop]; omega), List.getElem_take]
    congr 1
    rw [List.length_drop, Nat.mod_eq_sub_mod (by omega), Nat.mod_eq_of_lt (by omega)]
    omega
theorem join_step (c : UInt8) (l : List Tx) (i : Nat) (hi : i < l.length) : joinAt c (l.take (i + 1)) = (if i = 0 then [] else joinAt c (l.take i) ++ [c]) ++ l[i] := by
  rw [List.take_succ_eq_append_getElem hi]
  by_cases h : i = 0
  · subst h; simp [joinAt]
  · rw [if_neg h, join_snoc c l[i] (l.take i) (by intro e; have := congrArg List.length e; rw [List.length_take, List.length_nil] at this; omega)]
    simp
/-- the turned text is the rule's. -/
theorem back_rot (U : Un) (r : T) (h : recB r = true) (k : Nat) : ansC U (joinAt 59 (rot k ((fieldsP U r).map (textP U)))) = some r := by
  rw [← rot_map]
  exact back_perm U r h _ (rot_perm k _)
theorem rot_twice (U : Un) (r : T) (h : recB r = true) (k : Nat) (x : Tx) (hx : x ∈ (fieldsP U r).map (textP U)) : ansC U (joinAt 59 (rot k ((fieldsP U r).map (textP U))) ++ 59 :: x) = none := by
  have hp := rot_perm k ((fieldsP U r).map (textP U))
  refine twice_none U _ (fun e => ?_) (fun t ht => ?_) x (hp.mem_iff.2 hx)
  · rw [e] at hp
    have := List.perm_nil.1 hp.symm
    rw [List.map_eq_nil_iff] at this
    exact fields_ne U r h this
  · obtain ⟨y, _, rfl⟩ := List.mem_map.1 (hp.mem_iff.1 ht)
    exact text_free U y

end Go.Proofs.YtffobailjdhijaaGreatDoor.Rt

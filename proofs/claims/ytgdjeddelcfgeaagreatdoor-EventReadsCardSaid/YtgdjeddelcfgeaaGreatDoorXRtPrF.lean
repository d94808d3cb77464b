/- Plain facts of the document's printing, reading: a rule's text part by part; a number put in order; no word of a program. -/
import Derived.Test.YtgdjeddelcfgeaaGreatDoorXM2
namespace Go.Proofs.YtgdjeddelcfgeaaGreatDoor.Rt
open Go.Proofs.YtgdjeddelcfgeaaGreatDoor Rul

def seg (k : Bool) (n v : Tx) : Tx:=if k = true then 59 :: (n ++ 61 :: v) else []
def p1 (r : T) : Tx:=nFREQ ++ 61 :: freqT r.fr
def p2 (r : T) : Tx:=p1 r ++ seg (decide (r.ev ≠ 1)) nINTERVAL (Lib.itoa r.ev)
def p3 (r : T) : Tx:=p2 r ++ seg (decide (0 < r.ct)) nCOUNT (Lib.itoa r.ct)
def p4 (U : Un) (r : T) : Tx:=p3 r ++ seg (decide (0 ≤ r.un)) nUNTIL (U.text r.un)
def p5 (U : Un) (r : T) : Tx:=p4 U r ++ seg (decide (r.ys ≠ [])) nBYMONTH (listT Lib.itoa r.ys)
structure PutAt {α : Type} (lt : α → α → Bool) (x : α) (l : List α) (j : Nat) (out : List α) (d : Bool) : Prop where
 no : x ∉ l.take j
 rest : (d = false ∧ out = l.take j ∧ l.take j ++ insG lt x (l.drop j) = insG lt x l) ∨ (d = true ∧ out ++ l.drop j = insG lt x l)
variable {α : Type} {lt : α → α → Bool} {x : α} {l : List α} {j : Nat} {out : List α} {d : Bool}
theorem PutAt.zero (lt : α → α → Bool) (x : α) (l : List α) : PutAt lt x l 0 [] false:=⟨by simp,Or.inl ⟨rfl,rfl,rfl⟩⟩
theorem PutAt.ahead (h : PutAt lt x l j out false) (hj : j < l.length) (hne : l[j] ≠ x) (hl : lt x l[j] = true) : PutAt lt x l (j + 1) ((out ++ [x]) ++ [l[j]]) true:=by
 refine ⟨?_,Or.inr ⟨rfl,?_⟩⟩
 ·rw [List.take_succ_eq_append_getElem hj,List.mem_append,List.mem_singleton]
  rintro (g | g)
  ·exact h.no g
  ·exact hne g.symm
 ·rcases h.rest with ⟨_,rfl,e⟩ | ⟨e,_⟩
  ·rw [List.drop_eq_getElem_cons hj] at e
   rw [← e]
   unfold insG
   rw [if_pos hl]
   simp
  ·cases e
theorem PutAt.skip (h : PutAt lt x l j out false) (hj : j < l.length) (hne : l[j] ≠ x) (hl : lt x l[j] = false) : PutAt lt x l (j + 1) (out ++ [l[j]]) false:=by
 refine ⟨?_,Or.inl ⟨rfl,?_,?_⟩⟩
 ·rw [List.take_succ_eq_append_getElem hj,List.mem_append,List.mem_singleton]
  rintro (g | g)
  ·exact h.no g
  ·exact hne g.symm
 ·rcases h.rest with ⟨_,rfl,e⟩ | ⟨e,_⟩
  ·rw [List.take_succ_eq_append_getElem hj]
  ·cases e
 ·rcases h.rest with ⟨_,rfl,e⟩ | ⟨e,_⟩
  ·rw [← e,List.drop_eq_getElem_cons hj,insG,if_neg (by rw [hl]; decide),List.take_succ_eq_append_getElem hj,List.append_assoc]; rfl
  ·cases e
theorem PutAt.past (h : PutAt lt x l j out true) (hj : j < l.length) (hne : l[j] ≠ x) : PutAt lt x l (j + 1) (out ++ [l[j]]) true:=by
 refine ⟨?_,Or.inr ⟨rfl,?_⟩⟩
 ·rw [List.take_succ_eq_append_getElem hj,List.mem_append,List.mem_singleton]
  rintro (g | g)
  ·exact h.no g
  ·exact hne g.symm
 ·rcases h.rest with ⟨e,_⟩ | ⟨_,e⟩
  ·cases e
  ·rw [← e,List.drop_eq_getElem_cons hj]; simp
theorem PutAt.last (h : PutAt lt x l l.length out false) : out ++ [x] = insG lt x l ∧ x ∉ l:=by
 have hn:=h.no
 rw [List.take_length] at hn
 rcases h.rest with ⟨_,rfl,e⟩ | ⟨e,_⟩
 ·rw [List.take_length,List.drop_length] at e
  rw [List.take_length]
  exact ⟨e,hn⟩
 ·cases e
theorem PutAt.done (h : PutAt lt x l l.length out true) : out = insG lt x l ∧ x ∉ l:=by
 have hn:=h.no
 rw [List.take_length] at hn
 rcases h.rest with ⟨e,_⟩ | ⟨_,e⟩
 ·cases e
 ·rw [List.drop_length,List.append_nil] at e
  exact ⟨e,hn⟩
def putO [DecidableEq α] (lt : α → α → Bool) (x : α) (l : List α) : Option (List α):=if x ∈ l then none else some (insG lt x l)
theorem putO_yes [DecidableEq α] (h : x ∉ l) : putO lt x l = some (insG lt x l):=if_neg h
theorem putO_no [DecidableEq α] (h : x ∈ l) : putO lt x l = none:=if_pos h
theorem insG_len (lt : α → α → Bool) (x : α) (l : List α) : (insG lt x l).length = l.length + 1:=(insG_perm lt x l).length_eq
theorem insAll_snoc {β : Type} [DecidableEq β] {lt : β → β → Bool} {f : α → Option β} : ∀ (ts : List α) (t : α) (acc : List β) {k : List β},insAll lt f ts acc = some k → insAll lt f (ts ++ [t]) acc = match f t with
  | none => none
  | some x => putO lt x k
 | [],t,acc,k,h => by
  injection h with h
  subst h
  simp only [List.nil_append,insAll,putO]
  cases f t with
  | none => rfl
  | some x => rfl
 | u :: ts,t,acc,k,h => by
  rw [List.cons_append]
  unfold insAll at h ⊢
  cases hu : f u with
  | none => rw [hu] at h; cases h
  | some y =>
   rw [hu] at h
   simp only at h ⊢
   split at h
   ·cases h
   ·rename_i hy
    rw [if_neg hy]
    exact insAll_snoc ts t _ h
theorem insAll_none {β : Type} [DecidableEq β] {lt : β → β → Bool} {f : α → Option β} : ∀ (ts us : List α) (acc : List β),insAll lt f ts acc = none → insAll lt f (ts ++ us) acc = none
 | [],us,acc,h => by cases h
 | u :: ts,us,acc,h => by
  rw [List.cons_append]
  unfold insAll at h ⊢
  cases hu : f u with
  | none => rfl
  | some y =>
   rw [hu] at h
   simp only at h ⊢
   split
   ·rfl
   ·rename_i hy
    rw [if_neg hy] at h
    exact insAll_none ts us _ h
theorem insAll_at_none {β : Type} [DecidableEq β] {lt : β → β → Bool} {f : α → Option β} {ts : List α} {k : List β} {j : Nat} (hj : j < ts.length) (h : insAll lt f (ts.take j) [] = some k) (hn : (match f ts[j] with | none => none | some x => putO lt x k) = none) : insAll lt f ts [] = none:=by
 have e:=insAll_snoc (ts.take j) ts[j] [] h
 rw [hn,← List.take_succ_eq_append_getElem hj] at e
 have:=insAll_none _ (ts.drop (j + 1)) _ e
 rwa [List.take_append_drop] at this
theorem insAll_len {β : Type} [DecidableEq β] {lt : β → β → Bool} {f : α → Option β} : ∀ (ts : List α) (acc k : List β),insAll lt f ts acc = some k → k.length = acc.length + ts.length
 | [],acc,k,h => by injection h with h; subst h; rfl
 | u :: ts,acc,k,h => by
  unfold insAll at h
  cases hu : f u with
  | none => rw [hu] at h; cases h
  | some y =>
   rw [hu] at h
   simp only at h
   split at h
   ·cases h
   ·rw [insAll_len ts _ _ h,insG_len,List.length_cons]; omega

end Go.Proofs.YtgdjeddelcfgeaaGreatDoor.Rt

/- Plain facts of the document's printing, reading: a rule's text part by part; a number put in order; no word of a program. -/
import Derived.Test.YtfecnkhoojnkbaaGreatDoorZM2
namespace Go.Proofs.YtfecnkhoojnkbaaGreatDoor.Rt
open Go.Proofs.YtfecnkhoojnkbaaGreatDoor Rul
def seg (k : Bool) (n v : Tx) : Tx:=if k = true then 59 :: (n ++ 61 :: v) else []
theorem seg_yes {k : Bool} (n v : Tx) (h : k = true) : seg k n v = 59 :: (n ++ 61 :: v):=if_pos h
theorem seg_no {k : Bool} (n v : Tx) (h : k = false) : seg k n v = []:=by unfold seg; rw [h]; rfl
theorem join_flat (c : UInt8) (x : Tx) : ∀ l : List Tx,joinAt c (x :: l) = x ++ l.flatMap (c :: ·)
 | [] => by simp [joinAt]
 | y :: l => by rw [joinAt,join_flat c y l,List.flatMap_cons]; simp
def p1 (r : T) : Tx:=nFREQ ++ 61 :: freqT r.fr
def p2 (r : T) : Tx:=p1 r ++ seg (decide (r.ev ≠ 1)) nINTERVAL (Lib.itoa r.ev)
def p3 (r : T) : Tx:=p2 r ++ seg (decide (0 < r.ct)) nCOUNT (Lib.itoa r.ct)
def p4 (U : Un) (r : T) : Tx:=p3 r ++ seg (decide (0 <= r.un)) nUNTIL (U.text r.un)
def p5 (U : Un) (r : T) : Tx:=p4 U r ++ seg (decide (r.ys ≠ [])) nBYMONTH (listT Lib.itoa r.ys)
def p6 (U : Un) (r : T) : Tx:=p5 U r ++ seg (decide (r.ms ≠ [])) nBYMONTHDAY (listT Lib.itoa r.ms)
def p7 (U : Un) (r : T) : Tx:=p6 U r ++ seg (decide (r.ds ≠ [])) nBYDAY (listT dayT r.ds)
theorem flat_seg (U : Un) (p : Part) (ps : List Part) : ((((p :: ps).filter fun p => decide (valT U p ≠ [])).map (textP U)).flatMap (59 :: ·)) = seg (decide (valT U p ≠ [])) (nameOf p) (valT U p) ++ (((ps.filter fun p => decide (valT U p ≠ [])).map (textP U)).flatMap (59 :: ·)):=by
 by_cases h : valT U p = []
 ·have h2 : decide (valT U p ≠ []) = false:=decide_eq_false (fun k => k h)
  rw [List.filter_cons_of_neg (by rw [h2]; decide),seg_no _ _ h2]; rfl
 ·have h2 : decide (valT U p ≠ []) = true:=decide_eq_true h
  rw [List.filter_cons_of_pos (p:=fun p => decide (valT U p ≠ [])) h2,seg_yes _ _ h2]; rfl
theorem freqT_ne (n : Int) (h1 : 1 <= n) (h2 : n <= 4) : freqT n ≠ []:=by
 rcases (by omega : n = 1 ∨ n = 2 ∨ n = 3 ∨ n = 4) with rfl | rfl | rfl | rfl <;> decide
theorem seg_congr {k k2 : Bool} (n v v2 : Tx) (hk : k = k2) (hv : k = true -> v = v2) : seg k n v = seg k2 n v2:=by
 subst hk
 cases k with
 | true => rw [hv rfl]
 | false => rw [seg_no _ _ rfl,seg_no _ _ rfl]
theorem print_parts (U : Un) (r : T) (h : Rec r) : joinAt 59 ((fieldsP U r).map (textP U)) = p7 U r:=by
 have h0 : valT U (.fr r.fr) ≠ []:=freqT_ne _ h.f1 h.f2
 have e0 : decide (valT U (.fr r.fr) ≠ []) = true:=decide_eq_true h0
 have hd : ∀ x ∈ r.ds,dayT x ≠ []:=fun x hx => by
  obtain ⟨_,hall,_⟩:=(listB_iff ordW (0,0) r.ds).1 h.ds
  exact dayT_ne x (hall x hx)
 have k1 : decide (valT U (.ev r.ev) ≠ []) = decide (r.ev ≠ 1):=by
  show decide ((if r.ev = 1 then [] else Lib.itoa r.ev) ≠ []) = _
  by_cases g : r.ev = 1
  ·rw [if_pos g]; simp [g]
  ·rw [if_neg g]; simp [g,itoa_ne]
 have k2 : decide (valT U (.ct r.ct) ≠ []) = decide (0 < r.ct):=by
  have:=h.c1
  show decide ((if r.ct = 0 then [] else Lib.itoa r.ct) ≠ []) = _
  by_cases g : r.ct = 0
  ·rw [if_pos g]; simp [g]
  ·rw [if_neg g]
   rw [decide_eq_true (itoa_ne r.ct),decide_eq_true (by omega)]
 have k3 : decide (valT U (.un r.un) ≠ []) = decide (0 <= r.un):=by
  have h1:=h.u1
  have h2:=h.u2
  show decide (U.text r.un ≠ []) = _
  by_cases g : 0 <= r.un
  ·rw [decide_eq_true g,decide_eq_true (U.some r.un g (by omega))]
  ·obtain e : r.un = -1:=by omega
   rw [decide_eq_false g,decide_eq_false]
   intro k; apply k; rw [e]; exact U.nil
 have kl : ∀ {α : Type} [DecidableEq α] (f : α -> Tx) (l : List α),(∀ x ∈ l,f x ≠ []) -> decide (listT f l ≠ []) = decide (l ≠ []):=fun f l hf => by
  have : listT f l = [] ↔ l = []:=by
   unfold listT
   match l with
   | [] => simp [joinAt]
   | [x] => have:=hf x (by simp); simp [joinAt,this]
   | x :: y :: r => simp [joinAt]
  by_cases g : l = []
  ·rw [decide_eq_false (fun k => k (this.2 g)),decide_eq_false (fun k => k g)]
  ·have g2 : listT f l ≠ []:=fun k => g (this.1 k)
   rw [decide_eq_true g2,decide_eq_true g]
 have k4 : decide (valT U (.ys r.ys) ≠ []) = decide (r.ys ≠ []):=kl Lib.itoa r.ys (fun x _ => itoa_ne x)
 have k5 : decide (valT U (.ms r.ms) ≠ []) = decide (r.ms ≠ []):=kl Lib.itoa r.ms (fun x _ => itoa_ne x)
 have k6 : decide (valT U (.ds r.ds) ≠ []) = decide (r.ds ≠ []):=kl dayT r.ds hd
 have v1 : decide (r.ev ≠ 1) = true -> valT U (.ev r.ev) = Lib.itoa r.ev:=fun g => by
  exact if_neg (of_decide_eq_true g)
 have v2 : decide (0 < r.ct) = true -> valT U (.ct r.ct) = Lib.itoa r.ct:=fun g => by
  have:=of_decide_eq_true g
  exact if_neg (by omega)
 unfold fieldsP allP
 rw [List.filter_cons_of_pos (p:=fun p => decide (valT U p ≠ [])) e0,List.map_cons,join_flat,flat_seg,flat_seg,flat_seg,flat_seg,flat_seg,flat_seg]
 rw [seg_congr _ _ _ k1 (fun g => v1 (k1 ▸ g)),seg_congr _ _ _ k2 (fun g => v2 (k2 ▸ g)),k3,k4,k5,k6]
 unfold p7 p6 p5 p4 p3 p2 p1
 simp [textP,nameOf,valT,List.append_assoc]
structure PutAt {α : Type} (lt : α -> α -> Bool) (x : α) (l : List α) (j : Nat) (out : List α) (d : Bool) : Prop where
 no : x ∉ l.take j
 rest : (d = false /\ out = l.take j /\ l.take j ++ insG lt x (l.drop j) = insG lt x l) ∨ (d = true /\ out ++ l.drop j = insG lt x l)
variable {α : Type} {lt : α -> α -> Bool} {x : α} {l : List α} {j : Nat} {out : List α} {d : Bool}
theorem PutAt.zero (lt : α -> α -> Bool) (x : α) (l : List α) : PutAt lt x l 0 [] false:=⟨by simp,Or.inl ⟨rfl,rfl,rfl⟩⟩
theorem PutAt.ahead (h : PutAt lt x l j out false) (hj : j < l.length) (hne : l[j] ≠ x) (hl : lt x l[j] = true) : PutAt lt x l (j + 1) ((out ++ [x]) ++ [l[j]]) true:=by
 refine ⟨?_,Or.inr ⟨rfl,?_⟩⟩
 ·rw [List.take_succ_eq_append_getElem hj,List.mem_append,List.mem_singleton]
  rintro (g | g)
  ·exact h.no g
  ·exact hne g.symm
 ·rcases h.rest with ⟨_,rfl,e⟩ | ⟨e,_⟩
  ·rw [List.drop_eq_getElem_cons hj] at e
   rw [<- e]
   unfold insG
   rw [if_pos hl]
   simp
  ·cases e
theorem PutAt.skip (h : PutAt lt x l j out false) (hj : j < l.length) (hne : l[j] ≠ x) (hl : lt x l[j] = false) : PutAt lt x l (j + 1) (out ++ [l[j]]) false:=by
 refine ⟨?_,Or.inl ⟨rfl,?_,?_⟩⟩
 ·rw [List.take_succ_eq_append_getElem hj,List.mem_append,List.mem_singleton]
  rintro (g | g)
  ·exact h.no g
  ·exact hne g.symm
 ·rcases h.rest with ⟨_,rfl,e⟩ | ⟨e,_⟩
  ·rw [List.take_succ_eq_append_getElem hj]
  ·cases e
 ·rcases h.rest with ⟨_,rfl,e⟩ | ⟨e,_⟩
  ·rw [<- e,List.drop_eq_getElem_cons hj,insG,if_neg (by rw [hl]; decide),List.take_succ_eq_append_getElem hj,List.append_assoc]; rfl
  ·cases e
theorem PutAt.past (h : PutAt lt x l j out true) (hj : j < l.length) (hne : l[j] ≠ x) : PutAt lt x l (j + 1) (out ++ [l[j]]) true:=by
 refine ⟨?_,Or.inr ⟨rfl,?_⟩⟩
 ·rw [List.take_succ_eq_append_getElem hj,List.mem_append,List.mem_singleton]
  rintro (g | g)
  ·exact h.no g
  ·exact hne g.symm
 ·rcases h.rest with ⟨e,_⟩ | ⟨_,e⟩
  ·cases e
  ·rw [<- e,List.drop_eq_getElem_cons hj]; simp
theorem PutAt.last (h : PutAt lt x l l.length out false) : out ++ [x] = insG lt x l /\ x ∉ l:=by
 have hn:=h.no
 rw [List.take_length] at hn
 rcases h.rest with ⟨_,rfl,e⟩ | ⟨e,_⟩
 ·rw [List.take_length,List.drop_length] at e
  rw [List.take_length]
  exact ⟨e,hn⟩
 ·cases e
theorem PutAt.done (h : PutAt lt x l l.length out true) : out = insG lt x l /\ x ∉ l:=by
 have hn:=h.no
 rw [List.take_length] at hn
 rcases h.rest with ⟨e,_⟩ | ⟨_,e⟩
 ·cases e
 ·rw [List.drop_length,List.append_nil] at e
  exact ⟨e,hn⟩
end Go.Proofs.YtfecnkhoojnkbaaGreatDoor.Rt

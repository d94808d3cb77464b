/- Plain facts for ClaimMinutes, ClaimTurns: minutes of what both have, of what one has alone; the order of what is neat. -/
import Derived.Test.YtgihekokbgggcaaGreatZClP
namespace Go.Proofs.YtgihekokbgggcaaGreat.S2
open Spn Cl
theorem bool_eq {a b : Bool} (h : a = true ↔ b = true) : a = b:=by cases a <;> cases b <;> simp_all
theorem has_meet12 (a b : List C) (r : Nat) (hr : r < 8) (m : Int) : hasB (meetC a b) r m = (hasB a r m && hasB b r m) :=
 bool_eq (by rw [hasB_iff,Bool.and_eq_true,hasB_iff,hasB_iff,meetC_has a b r hr])
theorem has_minus12 (a b : List C) (r : Nat) (hr : r < 8) (m : Int) : hasB (minusC a b) r m = (hasB a r m && !hasB b r m) :=
 bool_eq (by rw [hasB_iff,Bool.and_eq_true,hasB_iff,Bool.not_eq_true',minusC_has a b r hr,<- hasB_iff b,Bool.not_eq_true])
theorem has_neat12 (a : List C) (r : Nat) (hr : r < 8) (m : Int) : hasB (neatC a) r m = hasB a r m :=
 bool_eq (by rw [hasB_iff,hasB_iff,neatC_has a r hr])
theorem hasC_append (a b : List C) (r m : Int) : HasC (a ++ b) r m ↔ HasC a r m ∨ HasC b r m:=by
 unfold HasC
 constructor
 ·rintro ⟨s,hs,h⟩
  rcases List.mem_append.1 hs with hs | hs
  ·exact Or.inl ⟨s,hs,h⟩
  ·exact Or.inr ⟨s,hs,h⟩
 ·rintro (⟨s,hs,h⟩ | ⟨s,hs,h⟩)
  ·exact ⟨s,List.mem_append_left _ hs,h⟩
  ·exact ⟨s,List.mem_append_right _ hs,h⟩
theorem parts_neat (a b : List C) : neatC a = neatC (meetC a b ++ minusC a b):=neatC_ext fun r hr m => by
 rw [hasC_append,meetC_has a b r hr,minusC_has a b r hr]
 by_cases h : HasC b r m <;> simp [h]
def Ahead (c d : C) : Prop:=c.1 < d.1 ∨ c.1 = d.1 /\ c.2.2 < d.2.1
theorem tag_ahead (r : Int) : ∀ l : List Sp,Neat l -> (tag r l).Pairwise Ahead
 | [],_ => List.Pairwise.nil
 | a :: l,h => by
  refine List.pairwise_cons.2 ⟨fun d hd => ?_,tag_ahead r l h.2.2⟩
  obtain ⟨s,hs,rfl⟩:=List.mem_map.1 hd
  exact Or.inr ⟨rfl,h.2.1 s hs⟩
theorem outK_ahead (f : Nat -> List Sp) (h : ∀ r,Neat (f r)) : ∀ k,(outK f k).Pairwise Ahead /\ ∀ c ∈ outK f k,c.1 < (k : Int)
 | 0 => ⟨List.Pairwise.nil,fun c hc => by simp [outK] at hc⟩
 | k + 1 => by
  obtain ⟨h1,h2⟩:=outK_ahead f h k
  rw [outK_succ]
  refine ⟨List.pairwise_append.2 ⟨h1,tag_ahead k (f k) (h k),fun c hc d hd => ?_⟩,fun c hc => ?_⟩
  ·obtain ⟨s,_,rfl⟩:=List.mem_map.1 hd
   exact Or.inl (h2 c hc)
  ·rcases List.mem_append.1 hc with hc | hc
   ·have:=h2 c hc; omega
   ·obtain ⟨s,_,rfl⟩:=List.mem_map.1 hc; simp only; omega
theorem neatC_ok (l : List C) : ∀ c ∈ neatC l,Ok c.2:=fun c hc => by
 obtain ⟨r,_,_,h⟩:=(outC_mem _ c).1 hc
 exact neat_ok _ (neatF_neat l r) _ h
theorem neat_next12 (l : List C) (k : Nat) (h : k + 1 < (neatC l).length) : lessC (neatC l)[k] (neatC l)[k + 1] = true /\ ((neatC l)[k].1 = (neatC l)[k + 1].1 -> touchB (neatC l)[k].2 (neatC l)[k + 1].2 = false):=by
 have h1 : (neatC l).Pairwise Ahead:=(outK_ahead (neatF l) (neatF_neat l) 8).1
 have h2:=List.pairwise_iff_getElem.1 h1 k (k + 1) (by omega) h (by omega)
 have h3:=neatC_ok l _ (List.getElem_mem (show k < (neatC l).length by omega))
 have h4:=neatC_ok l _ (List.getElem_mem h)
 generalize (neatC l)[k] = c at *
 generalize (neatC l)[k + 1] = d at *
 unfold Ok at h3 h4
 refine ⟨?_,fun e => ?_⟩
 ·unfold lessC
  rcases h2 with h2 | ⟨h2,h5⟩
  ·rw [decide_eq_true h2]; rfl
  ·rw [decide_eq_true h2,decide_eq_true (show c.2.1 < d.2.1 by omega)]; simp
 ·rcases h2 with h2 | ⟨_,h5⟩
  ·omega
  ·exact decide_eq_false fun hc => by have:=hc.2.2.2; omega
open Go.RowKit in
theorem wp_ownCW {ops : Array Oper} {rest : List Oper} {o : Oper} {a : Act} {Q : Exit -> Act -> World -> Prop} {w : World} {B : Nat} {v : Value} {l k : List C} (hw : Region.wanted o (yielded ops a.tmps) = true) (s x : Operand)
  (ho : o.op = .call { callee:=.builtin .append,args:=#[s,x],argTypes:=#[26,26] }) (hs : a.eval s = v) {A : Option Addr} {m c : Nat} (hx : a.eval x = .slice A m c) (hm : m = k.length) (hnone : A = none -> c = 0)
  (hrow : RowC w A k) (hown : OwnC w B v l) (hB : B <= w.heap.size) (hn : l.length <= 1000000) (hk : k.length <= 1000000)
  (h : ∀ v' w',OwnC w' B v' (l ++ k) -> Below B w w' -> wpList Tryz.prog ops Q rest (a.put o.dst v') w') :
  wpList Tryz.prog ops Q (o :: rest) a w:=by
 unfold wpList
 rw [if_pos hw]
 refine Or.inl ?_
 obtain ⟨v',w',hr,h2,h3⟩:=run_rowC o.type hm hnone hrow hown hB hn hk
 unfold Oper.wp execOp
 simp only [ho,resolve,invoke,builtin,Sem.run_bind,Sem.run_pure,Result.andThen_ok,List.map_toArray,List.map_cons,List.map_nil,hs,hx,hr]
 exact h v' w' h2 h3
theorem longC_bd (l : List C) : 0 <= longC l /\ longC l <= 420768000:=longF_bd _ fun r _ => neatF_neat l r
end Go.Proofs.YtgihekokbgggcaaGreat.S2

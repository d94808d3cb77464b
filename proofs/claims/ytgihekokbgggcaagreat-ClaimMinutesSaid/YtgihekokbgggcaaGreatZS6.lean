/- BS7; BS6; BS8 of the recipes, what is needed of them. -/
import Derived.Lib.QuietBelow
import Derived.RegionTactic
import Derived.IntWalk
import Derived.LoopTactic
import Derived.Maps.AppendAt
import Derived.Laws.OwnMore
import Derived.StillTailTactics
import Derived.Test.YtgihekokbgggcaaGreatZM2
import Derived.Test.YtgihekokbgggcaaGreatZS1
import Derived.Test.YtgihekokbgggcaaGreatZBS3
import Derived.Test.YtgihekokbgggcaaGreatZS4
set_option maxHeartbeats 8000000
set_option maxRecDepth 1000000
namespace Go.Proofs.YtgihekokbgggcaaGreat.S2
open Go.RowKit Spn
theorem cell_keep {W W1 : World} {a : Addr} {v : Value} (hb : Below W.heap.size W W1) (h : W.cell? a = some v) : W1.cell? a = some v:=(hb.cell (block_lt_of_cell h)).trans h
theorem keep4 {W W1 : World} (hb : Below W.heap.size W W1) {a0 a1 a2 a3 : Addr} {v0 v1 v2 v3 : Value} (h : W.cell? a0 = some v0 /\ W.cell? a1 = some v1 /\ W.cell? a2 = some v2 /\ W.cell? a3 = some v3) : W1.cell? a0 = some v0 /\ W1.cell? a1 = some v1 /\ W1.cell? a2 = some v2 /\ W1.cell? a3 = some v3 :=
 ⟨cell_keep hb h.1,cell_keep hb h.2.1,cell_keep hb h.2.2.1,cell_keep hb h.2.2.2⟩
end Go.Proofs.YtgihekokbgggcaaGreat.S2
namespace Go.Proofs.YtgihekokbgggcaaGreat.S2
open Go.RowKit Spn
structure Goes (v : Value) (w : World) (v' : Value) (w' : World) : Prop where
 grown : w.grownBy w' v.ownBlock
 own : v'.ownBlock = v.ownBlock ∨ ∃ k,v'.ownBlock = some k /\ w.heap.size <= k
theorem Goes.refl (v : Value) (w : World) : Goes v w v w:=⟨World.grownBy.refl _ _,Or.inl rfl⟩
theorem Goes.trans {v1 v2 v3 : Value} {w1 w2 w3 : World} (h : Goes v1 w1 v2 w2) (k : Goes v2 w2 v3 w3) : Goes v1 w1 v3 w3:=by
 obtain ⟨hg,ho⟩:=h
 obtain ⟨kg,ko⟩:=k
 refine ⟨⟨kg.os.trans hg.os,kg.tape.trans hg.tape,kg.output.trans hg.output,Nat.le_trans hg.size kg.size,fun i hi hne => ?_⟩,?_⟩
 ·refine (kg.block i (Nat.lt_of_lt_of_le hi hg.size) ?_).trans (hg.block i hi hne)
  rcases ho with ho | ⟨k,ho,hk⟩
  ·rw [ho]; exact hne
  ·rw [ho]; intro he; injection he with he; omega
 ·rcases ko with ko | ⟨k,ko,hk⟩
  ·rw [ko]; exact ho
  ·exact Or.inr ⟨k,ko,Nat.le_trans hg.size hk⟩
theorem Goes.below {v : Value} {w w' : World} (h : Below w.heap.size w w') : Goes v w v w':=⟨⟨h.os,h.tape,h.output,h.size,fun i hi _ => h.block i hi⟩,Or.inl rfl⟩
theorem Goes.to {v v' : Value} {W w w' : World} {l : List Sp} (h : Goes v w v' w') (hown : Own w W.heap.size v l) (hb : Below W.heap.size W w) : Below W.heap.size W w' :=
 hb.grown h.grown hb.size fun j hj => (hown.lt j hj).1
def Apart (v : Value) (b : Nat) : Prop:=some b ≠ v.ownBlock
theorem Goes.apart {v v' : Value} {w w' : World} {b : Nat} (h : Goes v w v' w') (ha : Apart v b) (hb : b < w.heap.size) : Apart v' b:=by
 unfold Apart at *
 rcases h.own with ho | ⟨k,ho,hk⟩
 ·rw [ho]; exact ha
 ·rw [ho]; intro he; injection he with he; omega
theorem Goes.cell {v v' : Value} {w w' : World} {a : Addr} {u : Value} (h : Goes v w v' w') (ha : Apart v a.block) (hc : w.cell? a = some u) : w'.cell? a = some u:=h.grown.cell hc ha
theorem wp_oneG {ops : Array Oper} {rest : List Oper} {o : Oper} {a : Act} {Q : Exit -> Act -> World -> Prop} {w : World} {B : Nat} {v : Value} {l : List Sp} {p : Sp} (hgd : o.guard = none) (s x : Operand)
  (ho : o.op = .call { callee:=.builtin .append,args:=#[s,x],argTypes:=#[52,52] }) (hs : a.eval s = v) {N : Nat} (hN : w.heap.size = N) (hx : a.eval x = .slice (some ⟨N,0,none⟩) 1 1)
  (hown : Own w B v l) (hB : B <= w.heap.size) (hn : l.length <= 1000000)
  (h : ∀ v' w',Own w' B v' (l ++ [p]) -> Goes v w v' w' -> wpList Tryz.prog ops Q rest (a.put o.dst v') w') :
  wpList Tryz.prog ops Q (o :: rest) a (w.alloc (.cells #[.int .i64 p.1,.int .i64 p.2] 23)):=by
 subst hN
 obtain ⟨i0,hi,hz0,hz1,hz2⟩:=info_parts span_info
 refine wpList_append_own_at _ hgd s x 52 ho B 23 i0 _ 2 16 Tryz.underlying52 hi hz0 hz1 hz2 rfl (by decide) v l.length (cellsL l) hs (hown.alloc _) ⟨w.heap.size,0,none⟩ 1 1 [.int .i64 p.1,.int .i64 p.2] hx rfl ?_ ?_ ?_ ?_ ?_ ?_
 ·intro j u hu
  rw [plus,World.cell?_alloc_at _ _ _ _ rfl]
  exact (by simpa using hu)
 ·intro u hu
  simp only [List.mem_cons,List.not_mem_nil,or_false] at hu
  rcases hu with rfl | rfl <;> rfl
 ·unfold maxLen; omega
 ·omega
 ·simp only [World.size_alloc]; omega
 ·intro v' w' h2 h3 _ h5
  refine h v' w' (by rw [Own,cellsL_append,List.length_append]; exact h2) ((Goes.below (more (start w) _)).trans ⟨h3,?_⟩)
  rcases h5 with h5 | h5
  ·exact Or.inl h5
  ·exact Or.inr ⟨_,h5,Nat.le_refl _⟩
end Go.Proofs.YtgihekokbgggcaaGreat.S2
namespace Go.Proofs.YtgihekokbgggcaaGreat.S2
open Go.RowKit Spn Go.Sort
theorem own_nil (w : World) (B : Nat) : Own w B (.slice none 0 0) []:=World.ownsRow_nil _ _ _ _
end Go.Proofs.YtgihekokbgggcaaGreat.S2
namespace Go.Proofs.YtgihekokbgggcaaGreat.S2
open Go.RowKit Spn
theorem run_row {w : World} {B : Nat} {v : Value} {l k : List Sp} (ty : TypeId) {b off c : Nat}
  (hrow : ∀ i (h : i < k.length),w.cell? ⟨b,off + i * 2,none⟩ = some (.int .i64 k[i].1) /\ w.cell? ⟨b,off + i * 2 + 1,none⟩ = some (.int .i64 k[i].2))
  (hown : Own w B v l) (hB : B <= w.heap.size) (hn : l.length <= 1000000) (hk : k.length <= 1000000) :
  ∃ v' w',(Builtin.append_ #[52,52] ty #[v,.slice (some ⟨b,off,none⟩) k.length c]).run Tryz.prog w = .ok v' w' /\ Own w' B v' (l ++ k) /\ Goes v w v' w':=by
 obtain ⟨i0,hi,hz0,hz1,hz2⟩:=info_parts span_info
 have hnews : ∀ j u,(cellsL k)[j]? = some u -> w.cell? ((⟨b,off,none⟩ : Addr).add j) = some u:=by
  intro j u hu
  have hj : j < (cellsL k).length:=(List.getElem?_eq_some_iff.1 hu).1
  rw [cellsL_len] at hj
  obtain ⟨c1,c2⟩:=cellsL_get k (j / 2) (by omega)
  obtain ⟨r1,r2⟩:=hrow (j / 2) (by omega)
  have hadd : (⟨b,off,none⟩ : Addr).add j = ⟨b,off + j,none⟩:=by unfold Addr.add; split <;> simp_all
  rw [hadd]
  rcases Nat.mod_two_eq_zero_or_one j with h0 | h0
  ·have e : j / 2 * 2 = j:=by omega
   rw [e] at c1 r1
   rw [r1,<- c1,hu]
  ·have e : j / 2 * 2 + 1 = j:=by omega
   rw [e] at c2
   rw [Nat.add_assoc,e] at r2
   rw [r2,<- c2,hu]
 obtain ⟨v',w',hr,h2,h3,_,h5⟩:=run_append_own_at (P:=Tryz.prog) (w:=w) B 52 ty 23 i0 _ 2 16 Tryz.underlying52 hi hz0 hz1 hz2 rfl (by decide) v l.length (cellsL l) hown ⟨b,off,none⟩ k.length c (cellsL k) (cellsL_len k) hnews (cellsL_one k) (by unfold maxLen; omega) (by omega) hB
 refine ⟨v',w',hr,by rw [Own,cellsL_append,List.length_append]; exact h2,h3,?_⟩
 rcases h5 with h5 | h5
 ·exact Or.inl h5
 ·exact Or.inr ⟨_,h5,Nat.le_refl _⟩
theorem run_own {w : World} {B B2 : Nat} {v y : Value} {l k : List Sp} (ty : TypeId) (hy : Own w B2 y k)
  (hown : Own w B v l) (hB : B <= w.heap.size) (hn : l.length <= 1000000) (hk : k.length <= 1000000) :
  ∃ v' w',(Builtin.append_ #[52,52] ty #[v,y]).run Tryz.prog w = .ok v' w' /\ Own w' B v' (l ++ k) /\ Goes v w v' w':=by
 rcases hy.2 with ⟨rfl,hn0⟩ | ⟨g,cap,cur,rfl,_⟩
 ·obtain rfl:=List.eq_nil_of_length_eq_zero hn0
  obtain ⟨i0,hi,_,_,_⟩:=info_parts span_info
  exact ⟨v,w,run_append_owned_none (P:=Tryz.prog) (w:=w) B 52 ty 23 i0 2 Tryz.underlying52 hi v l.length (cellsL l) hown,by rw [List.append_nil]; exact hown,Goes.refl _ _⟩
 ·have hc:=World.ownsRow.cells hy (g:=g) rfl
  refine run_row ty (b:=g) (off:=0) (k:=k) (fun i hi => ?_) hown hB hn hk
  obtain ⟨c1,c2⟩:=cellsL_get k i hi
  have g1:=hc _ _ c1
  have g2:=hc _ _ c2
  rw [plus] at g1 g2
  rw [Nat.zero_add]
  exact ⟨g1,g2⟩
theorem step_own {ops : Array Oper} {o : Oper} {a : Act} {K : Act -> World -> Prop} {Q : Exit -> Act -> World -> Prop} {E : Prop} {w : World} {B B2 : Nat} {v y : Value} {l k : List Sp} (hgd : o.guard = none) (s x : Operand)
  (ho : o.op = .call { callee:=.builtin .append,args:=#[s,x],argTypes:=#[52,52] }) (hs : a.eval s = v) (hx : a.eval x = y) (hy : Own w B2 y k)
  (hown : Own w B v l) (hB : B <= w.heap.size) (hn : l.length <= 1000000) (hk : k.length <= 1000000)
  (h : ∀ v' w',Own w' B v' (l ++ k) -> Goes v w v' w' -> K (a.put o.dst v') w') :
  if Region.wanted o (yielded ops a.tmps) = true then Oper.wp Tryz.prog o a w K Q else E:=by
 have hw : Region.wanted o (yielded ops a.tmps) = true:=by simp [Region.wanted,hgd]
 rw [if_pos hw]
 obtain ⟨v',w',hr,h2,h3⟩:=run_own o.type hy hown hB hn hk
 unfold Oper.wp execOp
 simp only [ho,resolve,invoke,builtin,Sem.run_bind,Sem.run_pure,Result.andThen_ok,List.map_toArray,List.map_cons,List.map_nil,hs,hx,hr]
 exact h v' w' h2 h3
theorem Goes.below' {v v' : Value} {B : Nat} {W w w' : World} {l : List Sp} (h : Goes v w v' w') (hown : Own w B v l) (hb : Below B W w) (hB : B <= w.heap.size) : Below B W w' :=
 hb.grown h.grown hB fun j hj => (hown.lt j hj).1
end Go.Proofs.YtgihekokbgggcaaGreat.S2
namespace Go.Proofs.YtgihekokbgggcaaGreat.S2
open Go.RowKit Spn
theorem subR_two : ∀ (l : List Sp) (a : Sp),(subR l a).length <= 2 * l.length
 | [],_ => by simp [subR]
 | b :: r,a => by
  have e : subR (b :: r) a = minus b a ++ subR r a:=rfl
  have h1:=subR_two r a
  have h2:=minus_len b a
  rw [e,List.length_append,List.length_cons]; omega
end Go.Proofs.YtgihekokbgggcaaGreat.S2
namespace Go.Proofs.YtgihekokbgggcaaGreat.S2.R
open Go.RowKit Spn Go.Sort
def Hands (W : World) (B : Nat) (l : List Sp) (e : Ending) (w : World) : Prop:=∃ v,e = .returned v /\ Own w B v l /\ Below W.heap.size W w
theorem step_two {ops : Array Oper} {o : Oper} {a : Act} {K : Act -> World -> Prop} {Q : Exit -> Act -> World -> Prop} {E : Prop} {w : World} {B : Nat} {v : Value} {l : List Sp} {p q : Sp} (hgd : o.guard = none) (s x : Operand)
  (ho : o.op = .call { callee:=.builtin .append,args:=#[s,x],argTypes:=#[52,52] }) (hs : a.eval s = v) {N : Nat} (hN : w.heap.size = N) (hx : a.eval x = .slice (some ⟨N,0,none⟩) 2 2)
  (hown : Own w B v l) (hB : B <= w.heap.size) (hn : l.length <= 1000000)
  (h : ∀ v' w',Own w' B v' (l ++ [p,q]) -> Below B w w' -> K (a.put o.dst v') w') :
  if Region.wanted o (yielded ops a.tmps) = true then Oper.wp Tryz.prog o a (w.alloc (.cells #[.int .i64 p.1,.int .i64 p.2,.int .i64 q.1,.int .i64 q.2] 23)).drew K Q else E:=by
 have hw : Region.wanted o (yielded ops a.tmps) = true:=by simp [Region.wanted,hgd]
 rw [if_pos hw]
 subst hN
 obtain ⟨i0,hi,hz0,hz1,hz2⟩:=info_parts span_info
 refine wp_append_own _ s x 52 ho B 23 i0 _ 2 16 Tryz.underlying52 hi hz0 hz1 hz2 rfl (by decide) v l.length (cellsL l) hs (Own.drew (hown.alloc _)) ⟨w.heap.size,0,none⟩ 2 2 [.int .i64 p.1,.int .i64 p.2,.int .i64 q.1,.int .i64 q.2] hx rfl ?_ ?_ ?_ ?_ ?_ ?_
 ·intro j u hu
  rw [plus,World.cell?_drew,World.cell?_alloc_at _ _ _ _ rfl]
  exact (by simpa using hu)
 ·intro u hu
  simp only [List.mem_cons,List.not_mem_nil,or_false] at hu
  rcases hu with rfl | rfl | rfl | rfl <;> rfl
 ·unfold maxLen; omega
 ·omega
 ·show B <= (w.alloc _).heap.size
  simp only [World.size_alloc]; omega
 ·intro v' w' h2 h3 _
  refine h v' w' (by rw [Own,cellsL_append,List.length_append]; exact h2) ((((Below.refl B w).alloc hB _).drew).grown h3 (by show B <= (w.alloc _).heap.size; simp only [World.size_alloc]; omega) fun j hj => (hown.lt j hj).1)
def Far (l : List Sp) (R : List Sp) (k : Nat) (x : Sp) (out : List Sp) (dn : Bool) : Prop :=
 (dn = false /\ out ++ addL (l.drop k) x = R) ∨ (dn = true /\ out ++ l.drop k = R /\ ∀ b,b ∈ l.drop k -> x.2 < b.1)
theorem far_join {l R : List Sp} {k : Nat} {x : Sp} {out : List Sp} {b : Bool} (h : Far l R k x out b) (hk : k < l.length) (ht : Tch l[k] x) : b = false /\ Far l R (k + 1) (min l[k].1 x.1,max l[k].2 x.2) out false:=by
 rcases h with ⟨hb,h⟩ | ⟨_,_,h⟩
 ·refine ⟨hb,?_⟩
  refine Or.inl ⟨rfl,?_⟩
  rw [List.drop_eq_getElem_cons hk,addL,if_pos ht] at h
  exact h
 ·exact absurd ht (fun hc => by have:=hc.2.2.1; have:=h l[k] (by rw [List.drop_eq_getElem_cons hk]; exact List.mem_cons_self); omega)
theorem far_turn {l R : List Sp} {k : Nat} {x : Sp} {out : List Sp} (h : Far l R k x out false) (hk : k < l.length) (hl : Neat l) (ht : ¬ Tch l[k] x) (hx : x.2 < l[k].1) : Far l R (k + 1) x (out ++ [x,l[k]]) true:=by
 rcases h with ⟨_,h⟩ | ⟨h,_⟩
 ·have e:=List.drop_eq_getElem_cons hk
  have hd : Neat (l.drop k):=neat_right (l.take k) _ (by rw [List.take_append_drop]; exact hl)
  rw [e] at hd h
  rw [addL,if_neg ht,if_pos hx] at h
  refine Or.inr ⟨rfl,by rw [List.append_assoc]; exact h,fun b hb => ?_⟩
  have h1:=hd.2.1 b hb
  have h2:=hd.1
  unfold Spn.Ok at h2
  omega
 ·cases h
theorem far_pass {l R : List Sp} {k : Nat} {x : Sp} {out : List Sp} (h : Far l R k x out false) (hk : k < l.length) (ht : ¬ Tch l[k] x) (hx : ¬ x.2 < l[k].1) : Far l R (k + 1) x (out ++ [l[k]]) false:=by
 rcases h with ⟨_,h⟩ | ⟨h,_⟩
 ·rw [List.drop_eq_getElem_cons hk,addL,if_neg ht,if_neg hx] at h
  exact Or.inl ⟨rfl,by rw [List.append_assoc]; exact h⟩
 ·cases h
theorem far_past {l R : List Sp} {k : Nat} {x : Sp} {out : List Sp} (h : Far l R k x out true) (hk : k < l.length) : x.2 < l[k].1 /\ Far l R (k + 1) x (out ++ [l[k]]) true:=by
 rcases h with ⟨h,_⟩ | ⟨_,h,hb⟩
 ·cases h
 ·rw [List.drop_eq_getElem_cons hk] at h hb
  exact ⟨hb _ List.mem_cons_self,Or.inr ⟨rfl,by rw [List.append_assoc]; exact h,fun b h1 => hb b (List.mem_cons_of_mem _ h1)⟩⟩
theorem far_end {l R : List Sp} {x : Sp} {out : List Sp} (h : Far l R l.length x out false) : out ++ [x] = R:=by
 rcases h with ⟨_,h⟩ | ⟨h,_⟩
 ·rw [List.drop_length] at h; exact h
 ·cases h
theorem far_end2 {l R : List Sp} {x : Sp} {out : List Sp} (h : Far l R l.length x out true) : out = R:=by
 rcases h with ⟨h,_⟩ | ⟨_,h,_⟩
 ·cases h
 ·rw [List.drop_length,List.append_nil] at h; exact h
theorem set2 {w : World} {X : Nat} {a b c d : Value} (h0 : w.cell? ⟨X,0,none⟩ = some a) (h1 : w.cell? ⟨X,1,none⟩ = some b) :
  ((w.setCell ⟨X,0,none⟩ c).setCell ⟨X,1,none⟩ d).drew.cell? ⟨X,0,none⟩ = some c /\ ((w.setCell ⟨X,0,none⟩ c).setCell ⟨X,1,none⟩ d).drew.cell? ⟨X,1,none⟩ = some d:=by
 rw [World.cell?_drew,World.cell?_drew]
 refine ⟨?_,?_⟩
 ·rw [World.cell?_setCell_other _ _ _ _ (by simp)]
  exact World.cell?_setCell_same _ _ _ h0
 ·exact World.cell?_setCell_same _ _ _ ((World.cell?_setCell_other _ _ _ _ (by simp)).trans h1)
theorem apart {b x : Sp} (h : x.2 < b.1) : ¬ Tch b x:=fun hc => by have:=hc.2.2.1; omega
theorem add_no (B : Nat) (v : Value) (l : List Sp) (f t : Int) (w : World) (hown : Own w B v l) (hok : okB (f,t) = false) :
  Calls Tryz.prog 57 #[v,.agg #[.int .i64 f,.int .i64 t]] w (Hands w B l):=by
 have H1:=hide hok
 have HO:=hide hown
 clear hok hown
 go_enter Tryz.func57,Tryz.ntmps57
 go_wp2_with fail
 refine (is_at _ _ false _ H1.out).mono ?_
 rintro e w1 ⟨rfl,hb1⟩
 have hbb:=andthen (more (start _) _) hb1
 go_wp2_with fail
 go_ret
 exact ⟨v,rfl,Own.keep HO.out hbb,hbb⟩
theorem add_yes (B b0 off c : Nat) (l : List Sp) (f t : Int) (w : World) (hB : B <= w.heap.size) (hb0 : b0 < w.heap.size)
  (hcl : ∀ i (h : i < l.length),w.cell? ⟨b0,off + i * 2,none⟩ = some (.int .i64 l[i].1) /\ w.cell? ⟨b0,off + i * 2 + 1,none⟩ = some (.int .i64 l[i].2))
  (hneat : Neat l) (hn : l.length + 2 <= 1000000) (hok : okB (f,t) = true) :
  Calls Tryz.prog 57 #[.slice (some ⟨b0,off,none⟩) l.length c,.agg #[.int .i64 f,.int .i64 t]] w (Hands w B (addL l (f,t))):=by
 have H1:=hide hok
 have HC:=hide hcl
 have HN:=hide hneat
 clear hok hcl hneat
 go_enter Tryz.func57,Tryz.ntmps57
 go_wp2_with fail
 refine (is_at _ _ true _ H1.out).mono ?_
 rintro e w1 ⟨rfl,hb1⟩
 obtain ⟨hc,hf⟩:=old hb1
 have z0 : w.heap.size < w1.heap.size:=by have:=hb1.size; simp only [World.size_alloc] at this; omega
 go_wp2_with fail
 have hbW : Below w.heap.size w (w1.alloc (.cells #[.int .i64 f,.int .i64 t] 23)):=more (andthen (more (start _) _) hb1) _
 have hX1 : (w1.alloc (.cells #[.int .i64 f,.int .i64 t] 23)).cell? ⟨w1.heap.size,0,none⟩ = some (.int .i64 f):=by rw [World.cell?_alloc_at _ _ _ _ rfl]; rfl
 have hX2 : (w1.alloc (.cells #[.int .i64 f,.int .i64 t] 23)).cell? ⟨w1.heap.size,1,none⟩ = some (.int .i64 t):=by rw [World.cell?_alloc_at _ _ _ _ rfl]; rfl
 have hX3 : ∀ i,(w1.alloc (.cells #[.int .i64 f,.int .i64 t] 23)).frozen? ⟨w1.heap.size,i,none⟩ = false:=fun i => World.frozen?_alloc_at _ _ _ _ rfl
 have hXs : w1.heap.size < (w1.alloc (.cells #[.int .i64 f,.int .i64 t] 23)).heap.size:=by simp
 clear hc hf
 generalize w1.alloc (.cells #[.int .i64 f,.int .i64 t] 23) = W at *
 generalize w1.heap.size = X at *
 have hXX:=hide (And.intro hX1 (And.intro hX2 hX3))
 clear hX1 hX2 hX3 hb1
 obtain ⟨R,hR⟩ : ∃ R,addL l (f,t) = R:=⟨_,rfl⟩
 have hFar : Far l R 0 (f,t) [] false:=Or.inl ⟨rfl,by rw [<- hR]; rfl⟩
 have hXw : w.heap.size <= X:=by omega
 have HR:=hide hR
 clear hR z0
 go_loopw [5,7,8] (fun vo dn i wr => ∃ (k : Nat) (x : Sp) (out : List Sp) (b : Bool),k <= l.length /\ i = .int .i64 k /\ dn = .bool b /\ Own wr (X + 1) vo out /\ out.length <= k + b.toNat ∧
   wr.cell? ⟨X,0,none⟩ = some (.int .i64 x.1) /\ wr.cell? ⟨X,1,none⟩ = some (.int .i64 x.2) /\ (∀ i,wr.frozen? ⟨X,i,none⟩ = false) /\ X < wr.heap.size /\ Hid (Far l R k x out b) /\ Below w.heap.size w wr) (fun _ _ i _ => l.length - (intOf i).toNat)
 case atStart => exact ⟨0,(f,t),[],false,Nat.zero_le _,rfl,rfl,World.ownsRow_nil _ _ _ _,Nat.zero_le _,hXX.out.1,hXX.out.2.1,hXX.out.2.2,hXs,hFar,hbW⟩
 case round =>
  obtain ⟨k,x,out,b,hk,rfl,rfl,hown,hol,x1,x2,x3,xs,HF,hbw⟩:=hrel
  by_cases hlt : k < l.length
  ·obtain ⟨c1,c2⟩:=HC.out k hlt
   have p1 : wr.cell? ⟨b0,off + k * 2,none⟩ = some (.int .i64 l[k].1):=(hbw.cell (p:=⟨b0,_,none⟩) hb0).trans c1
   have p2 : wr.cell? ⟨b0,off + k * 2 + 1,none⟩ = some (.int .i64 l[k].2):=(hbw.cell (p:=⟨b0,_,none⟩) hb0).trans c2
   clear c1 c2
   have f1 : ∀ d os,(grow (redrawn wr d) os).cell? ⟨b0,off + k * 2,none⟩ = some (.int .i64 l[k].1):=fun d os => cell_regrown p1 d os
   have f2 : ∀ d os,(grow (redrawn wr d) os).cell? ⟨b0,off + k * 2 + 1,none⟩ = some (.int .i64 l[k].2):=fun d os => cell_regrown p2 d os
   have f3 : ∀ d os,(grow (redrawn wr d) os).cell? ⟨X,0,none⟩ = some (.int .i64 x.1):=fun d os => cell_regrown x1 d os
   have f4 : ∀ d os,(grow (redrawn wr d) os).cell? ⟨X,1,none⟩ = some (.int .i64 x.2):=fun d os => cell_regrown x2 d os
   have hi0 : (0 : Int) <= (k : Int):=by omega
   have hi1 : (k : Int) < (l.length : Int):=by omega
   go_wp2_with fail
   refine wp_region_quiet_below (by kernel_rfl) (by kernel_rfl) ?_
   repeat (first | go_big_quiet_step ((go_at_call 29; exact Calls.regrown_of (touch_any _ _ _ _ _))) | quiet_step ((go_at_call 29; exact Calls.regrown_of (touch_any _ _ _ _ _))))
   refine wpQuiet_nil ?_
   intro _ hw'
   obtain ⟨⟨nq,osq⟩,hw''⟩:=hw'
   subst hw''
   have hbb : Below wr.heap.size wr (grow (redrawn wr nq) osq):=below_regrown wr nq osq
   have e1:=f1 nq osq
   have e2:=f2 nq osq
   have e3:=f3 nq osq
   have e4:=f4 nq osq
   have e5 : ∀ i,(grow (redrawn wr nq) osq).frozen? ⟨X,i,none⟩ = false:=fun i => (hbb.frozen (p:=⟨X,i,none⟩) xs).trans (x3 i)
   have hown2:=Own.keep hown hbb
   have xs2:=Nat.lt_of_lt_of_le xs hbb.size
   have hbw2:=hbw.trans (hbb.mono hbw.size)
   clear f1 f2 f3 f4 p1 p2 x1 x2 x3 hbb
   generalize grow (redrawn wr nq) osq = W2 at *
   have hle : X + 1 <= W2.heap.size:=xs2
   generalize hT : touchB (l[k].1,l[k].2) (x.1,x.2) = tb
   cases tb
   ·have hNT : Hid (¬ Tch l[k] x):=fun hc => by
     rw [show touchB (l[k].1,l[k].2) (x.1,x.2) = true from decide_eq_true hc] at hT
     cases hT
    clear hT
    by_cases hx : x.2 < l[k].1
    ·cases b
     ·have hol0 : out.length <= k:=hol
      have HF2:=hide (far_turn HF.out hlt HN.out hNT.out hx)
      go_wp2_with fail
      go_quiet (fail)
      go_wp2_with fail
      have hown3 : Own (W2.drewN nq) (X + 1) u5 out:=hown2
      have e6 : (W2.drewN nq).cell? ⟨b0,off + k * 2,none⟩ = some (.int .i64 l[k].1):=e1
      have e7 : (W2.drewN nq).cell? ⟨b0,off + k * 2 + 1,none⟩ = some (.int .i64 l[k].2):=e2
      have e8 : (W2.drewN nq).cell? ⟨X,0,none⟩ = some (.int .i64 x.1):=e3
      have e9 : (W2.drewN nq).cell? ⟨X,1,none⟩ = some (.int .i64 x.2):=e4
      have e10 : ∀ i,(W2.drewN nq).frozen? ⟨X,i,none⟩ = false:=e5
      have hle3 : X + 1 <= (W2.drewN nq).heap.size:=hle
      have hbw3 : Below w.heap.size w (W2.drewN nq):=below_drawn hbw2 nq
      clear e1 e2 e3 e4 e5 hbw2 hown2 hle xs2
      generalize W2.drewN nq = V at *
      have hq0 : b0 < X + 1:=by omega
      have hq1 : X < X + 1:=by omega
      go_region_held3 (fun w' => w'.cell? ⟨b0,off + k * 2,none⟩ = some (.int .i64 l[k].1) /\ w'.cell? ⟨b0,off + k * 2 + 1,none⟩ = some (.int .i64 l[k].2) /\ w'.cell? ⟨X,0,none⟩ = some (.int .i64 x.1) /\ w'.cell? ⟨X,1,none⟩ = some (.int .i64 x.2))
       (first
        | go_keep
        | (exact ⟨(hbw4.cell (p:=⟨b0,_,none⟩) hq0).trans e6,(hbw4.cell (p:=⟨b0,_,none⟩) hq0).trans e7,(hbw4.cell (p:=⟨X,_,none⟩) hq1).trans e8,(hbw4.cell (p:=⟨X,_,none⟩) hq1).trans e9⟩))
       ((refine step_two (w:=V) (l:=out) (p:=x) (q:=l[k]) (by rfl) _ _ (by rfl) (by rfl) rfl (by rfl) hown3 hle3 (by omega) ?_; intro v4 w4 hown4 hbw4))
      go_wp2_with fail
      go_roundw
      case rel => exact ⟨k + 1,x,out ++ [x,l[k]],true,by omega,by go_num,rfl,hown4,by simp; omega,(hbw4.cell (p:=⟨X,_,none⟩) hq1).trans e8,(hbw4.cell (p:=⟨X,_,none⟩) hq1).trans e9,fun i => (hbw4.frozen (p:=⟨X,i,none⟩) hq1).trans (e10 i),Nat.lt_of_lt_of_le hle3 hbw4.size,HF2,hbw3.trans (hbw4.mono (by omega))⟩
      case measure => simp [intOf]; omega
     ·have hol0 : out.length <= k + 1:=hol
      have HF2:=hide (far_past HF.out hlt).2
      go_wp2_with fail
      go_quiet (fail)
      have hown3 : Own (W2.drewN nq) (X + 1) u5 out:=hown2
      have e6 : (W2.drewN nq).cell? ⟨b0,off + k * 2,none⟩ = some (.int .i64 l[k].1):=e1
      have e7 : (W2.drewN nq).cell? ⟨b0,off + k * 2 + 1,none⟩ = some (.int .i64 l[k].2):=e2
      have e8 : (W2.drewN nq).cell? ⟨X,0,none⟩ = some (.int .i64 x.1):=e3
      have e9 : (W2.drewN nq).cell? ⟨X,1,none⟩ = some (.int .i64 x.2):=e4
      have e10 : ∀ i,(W2.drewN nq).frozen? ⟨X,i,none⟩ = false:=e5
      have hle3 : X + 1 <= (W2.drewN nq).heap.size:=hle
      have hbw3 : Below w.heap.size w (W2.drewN nq):=below_drawn hbw2 nq
      clear e1 e2 e3 e4 e5 hbw2 hown2 hle xs2
      generalize W2.drewN nq = V at *
      have hq0 : b0 < X + 1:=by omega
      have hq1 : X < X + 1:=by omega
      go_wp2_with (at_builtin; refine wp_one (w:=V) (l:=out) (p:=l[k]) rfl _ _ rfl rfl rfl rfl hown3 hle3 (by omega) ?_; intro v4 w4 hown4 hbw4)
      go_roundw
      case rel => exact ⟨k + 1,x,out ++ [l[k]],true,by omega,by go_num,rfl,hown4,by simp; omega,(hbw4.cell (p:=⟨X,_,none⟩) hq1).trans e8,(hbw4.cell (p:=⟨X,_,none⟩) hq1).trans e9,fun i => (hbw4.frozen (p:=⟨X,i,none⟩) hq1).trans (e10 i),Nat.lt_of_lt_of_le hle3 hbw4.size,HF2,hbw3.trans (hbw4.mono (by omega))⟩
      case measure => simp [intOf]; omega
    ·cases b
     ·have hol0 : out.length <= k:=hol
      have hxd : decide (x.2 < l[k].1) = false:=by simpa using hx
      have HF2:=hide (far_pass HF.out hlt hNT.out hx)
      go_wp2_with fail
      go_quiet (fail)
      have hown3 : Own (W2.drewN nq) (X + 1) u5 out:=hown2
      have e6 : (W2.drewN nq).cell? ⟨b0,off + k * 2,none⟩ = some (.int .i64 l[k].1):=e1
      have e7 : (W2.drewN nq).cell? ⟨b0,off + k * 2 + 1,none⟩ = some (.int .i64 l[k].2):=e2
      have e8 : (W2.drewN nq).cell? ⟨X,0,none⟩ = some (.int .i64 x.1):=e3
      have e9 : (W2.drewN nq).cell? ⟨X,1,none⟩ = some (.int .i64 x.2):=e4
      have e10 : ∀ i,(W2.drewN nq).frozen? ⟨X,i,none⟩ = false:=e5
      have hle3 : X + 1 <= (W2.drewN nq).heap.size:=hle
      have hbw3 : Below w.heap.size w (W2.drewN nq):=below_drawn hbw2 nq
      clear e1 e2 e3 e4 e5 hbw2 hown2 hle xs2
      generalize W2.drewN nq = V at *
      have hq0 : b0 < X + 1:=by omega
      have hq1 : X < X + 1:=by omega
      go_wp2_with (at_builtin; refine wp_one (w:=V) (l:=out) (p:=l[k]) rfl _ _ rfl rfl rfl rfl hown3 hle3 (by omega) ?_; intro v4 w4 hown4 hbw4)
      go_roundw
      case rel => exact ⟨k + 1,x,out ++ [l[k]],false,by omega,by go_num,rfl,hown4,by simp; omega,(hbw4.cell (p:=⟨X,_,none⟩) hq1).trans e8,(hbw4.cell (p:=⟨X,_,none⟩) hq1).trans e9,fun i => (hbw4.frozen (p:=⟨X,i,none⟩) hq1).trans (e10 i),Nat.lt_of_lt_of_le hle3 hbw4.size,HF2,hbw3.trans (hbw4.mono (by omega))⟩
      case measure => simp [intOf]; omega
     ·exact absurd (far_past HF.out hlt).1 hx
   ·have HJ:=far_join HF.out hlt (of_decide_eq_true hT)
    obtain ⟨rfl,hJ⟩:=HJ
    have HF2:=hide hJ
    clear hT hJ
    have hol0 : out.length <= k:=hol
    have hq1 : X < X + 1:=by omega
    have xs5 : ∀ u u',X < ((W2.setCell ⟨X,0,none⟩ u).setCell ⟨X,1,none⟩ u').drew.heap.size:=fun u u' => by simpa using xs2
    go_wp2_with fail
    go_region
    all_goals
     go_wp2_with fail
     go_roundw
     case rel => exact ⟨k + 1,(min l[k].1 x.1,max l[k].2 x.2),out,false,by omega,by go_num,rfl,Own.drew (ownsRow_setCell_below (ownsRow_setCell_below hown2 hq1 _) hq1 _),by simp; omega,(set2 e3 e4).1,(set2 e3 e4).2,
      fun i => (World.frozen?_setCell _ _ _ _).trans ((World.frozen?_setCell _ _ _ _).trans (e5 i)),xs5 _ _,HF2,((hbw2.setCell hXw _).setCell hXw _).drew⟩
     case measure => simp [intOf]; omega
  ·obtain rfl : k = l.length:=by omega
   cases b
   ·have hol0 : out.length <= l.length:=hol
    have HE:=hide (far_end HF.out)
    have hXl : X + 1 <= wr.heap.size:=xs
    go_wp2_with (at_builtin; refine wp_one (w:=wr) (l:=out) (p:=x) rfl _ _ rfl rfl rfl rfl hown hXl (by omega) ?_; intro v4 w4 hown4 hbw4)
    go_ret
    rw [HE.out] at hown4
    exact ⟨_,rfl,by rw [HR.out]; exact hown4.low (by omega),hbw.trans (hbw4.mono (by omega))⟩
   ·have HE:=hide (far_end2 HF.out)
    go_wp2_with fail
    go_ret
    rw [HE.out] at hown
    exact ⟨_,rfl,by rw [HR.out]; exact hown.low (by omega),hbw⟩
end Go.Proofs.YtgihekokbgggcaaGreat.S2.R
namespace Go.Proofs.YtgihekokbgggcaaGreat.S2.R
open Go.RowKit Spn Go.Sort
theorem add_nil (B : Nat) (A : Option Addr) (c : Nat) (f t : Int) (w : World) (hB : B <= w.heap.size) (hok : okB (f,t) = true) :
  Calls Tryz.prog 57 #[.slice A 0 c,.agg #[.int .i64 f,.int .i64 t]] w (Hands w B [(f,t)]):=by
 have H1:=hide hok
 clear hok
 go_enter Tryz.func57,Tryz.ntmps57
 go_wp2_with fail
 refine (is_at _ _ true _ H1.out).mono ?_
 rintro e w1 ⟨rfl,hb1⟩
 obtain ⟨hc,hf⟩:=old hb1
 have z0 : w.heap.size < w1.heap.size:=by have:=hb1.size; simp only [World.size_alloc] at this; omega
 go_wp2_with fail
 have hbW : Below w.heap.size w (w1.alloc (.cells #[.int .i64 f,.int .i64 t] 23)):=more (andthen (more (start _) _) hb1) _
 have hX1 : (w1.alloc (.cells #[.int .i64 f,.int .i64 t] 23)).cell? ⟨w1.heap.size,0,none⟩ = some (.int .i64 f):=by rw [World.cell?_alloc_at _ _ _ _ rfl]; rfl
 have hX2 : (w1.alloc (.cells #[.int .i64 f,.int .i64 t] 23)).cell? ⟨w1.heap.size,1,none⟩ = some (.int .i64 t):=by rw [World.cell?_alloc_at _ _ _ _ rfl]; rfl
 clear hc hf
 generalize w1.alloc (.cells #[.int .i64 f,.int .i64 t] 23) = W at *
 generalize w1.heap.size = X at *
 clear hb1
 refine wp_loop_rounds 1 ?_
 rw [rounds_succ]
 go_wp2_with (at_builtin; refine wp_one (w:=W) (l:=[]) (p:=(f,t)) rfl _ _ rfl rfl rfl rfl (World.ownsRow_nil W W.heap.size 23 2) (Nat.le_refl _) (by simp) ?_; intro v4 w4 hown4 hbw4)
 go_ret
 exact ⟨_,rfl,Own.low hown4 (Nat.le_trans hB hbW.size),andthen hbW hbw4⟩
theorem add_any (B : Nat) (v : Value) (l : List Sp) (f t : Int) (w : World) (hown : Own w B v l) (hB : B <= w.heap.size) (hneat : Neat l) (hn : l.length + 2 <= 1000000) :
  Calls Tryz.prog 57 #[v,.agg #[.int .i64 f,.int .i64 t]] w (Hands w B (addR l (f,t))):=by
 cases hok : okB (f,t)
 ·have e : addR l (f,t) = l:=by unfold addR; rw [if_neg]; rw [okB_not] at hok; exact hok
  rw [e]; exact add_no B v l f t w hown hok
 ·have e : addR l (f,t) = addL l (f,t):=by unfold addR; rw [if_pos]; rw [okB_iff] at hok; exact hok
  rw [e]
  obtain ⟨A,c,rfl,hrow⟩:=Own.row hown
  by_cases hl : l = []
  ·subst hl; exact add_nil B A c f t w hB hok
  ·obtain ⟨b,off,rfl,hb,hc⟩:=hrow hl
   exact add_yes B b off c l f t w hB hb hc hneat hn hok
end Go.Proofs.YtgihekokbgggcaaGreat.S2.R
namespace Go.Proofs.YtgihekokbgggcaaGreat.S2.R
open Go.RowKit Spn
theorem sub_any (A : Option Addr) (n c : Nat) (l : List Sp) (x y : Int) (w : World) (h : Row w A l) (he : n = l.length) (hn : l.length <= 400000) :
  Calls Tryz.prog 44 #[.slice A n c,.agg #[.int .i64 x,.int .i64 y]] w (Gives w (subR l (x,y))):=by
 subst he
 have hbx:=more (start w) (.cells #[.int .i64 x,.int .i64 y] 23)
 have HROW:=hide (h.keep hbx)
 have HBX:=hide hbx
 have hx0 : (w.alloc (.cells #[.int .i64 x,.int .i64 y] 23)).cell? ⟨w.heap.size,0,none⟩ = some (.int .i64 x):=by rw [World.cell?_alloc_at _ _ _ _ rfl]; rfl
 have hx1 : (w.alloc (.cells #[.int .i64 x,.int .i64 y] 23)).cell? ⟨w.heap.size,1,none⟩ = some (.int .i64 y):=by rw [World.cell?_alloc_at _ _ _ _ rfl]; rfl
 clear h hbx
 go_enter Tryz.func44,Tryz.ntmps44
 go_wp2_with fail
 generalize hW : w.alloc (.cells #[.int .i64 x,.int .i64 y] 23) = W at *
 clear hW
 go_loopw [5,6] (fun v i wr => ∃ k : Nat,k <= l.length /\ i = .int .i64 k /\ Own wr W.heap.size v (subR (l.take k) (x,y)) /\ Below W.heap.size W wr) (fun _ i _ => l.length - (intOf i).toNat)
 case atStart => exact ⟨0,Nat.zero_le _,rfl,own_nil _ _,start _⟩
 case round =>
  obtain ⟨k,hk,rfl,hown,hbw⟩:=hrel
  by_cases hlt : k < l.length
  ·obtain ⟨b,off,rfl,hb,hcl⟩:=HROW.out (by intro h0; rw [h0] at hlt; exact absurd hlt (Nat.not_lt_zero _))
   obtain ⟨d0,d1⟩:=hcl k hlt
   have HSk:=hide (And.intro d0 (And.intro d1 (And.intro hx0 hx1)))
   have hpl:=subR_two (l.take k) (x,y)
   have htl : (l.take k).length <= k:=List.length_take_le _ _
   have hml:=minus_len (l[k].1,l[k].2) (x,y)
   rw [minus_ref] at hml
   have HN : Hid (subR (l.take (k + 1)) (x,y) = subR (l.take k) (x,y) ++ minusR (l[k].1,l[k].2) (x,y)):=hide (by rw [<- minus_ref]; exact subR_take l (x,y) k hlt)
   have HO:=hide hown
   clear hown hcl d0 d1
   go_wp2_with fail
   go_region_held3 (fun w' => w'.cell? ⟨b,off + k * 2,none⟩ = some (.int .i64 l[k].1) /\ w'.cell? ⟨b,off + k * 2 + 1,none⟩ = some (.int .i64 l[k].2) /\ w'.cell? ⟨w.heap.size,0,none⟩ = some (.int .i64 x) /\ w'.cell? ⟨w.heap.size,1,none⟩ = some (.int .i64 y)) (first | exact keep4 (by assumption) HSk.out | exact keep4 hbw.drew HSk.out) ((first
    | (go_at_call 63; (with_reducible refine (minus_any l[k].1 l[k].2 x y _).mono ?_); rintro e w2 ⟨v2,rfl,hown2,hb2⟩; have hk2:=hbw.drew.trans (hb2.mono hbw.drew.size); have hO2:=Own.keep HO.out (andthen (start wr).drew hb2))
    | (refine step_own (B:=W.heap.size) (l:=subR (l.take k) (x,y)) (k:=minusR (l[k].1,l[k].2) (x,y)) rfl _ _ rfl rfl rfl hown2 hO2 hk2.size (by omega) (by omega) ?_; intro v3 w3 hown3 hgo3; have hk3:=hgo3.below' hO2 hk2 hk2.size)))
   have HO3:=hide hown3
   have HK3:=hide hk3
   go_wp2_with fail
   go_roundw
   case rel => exact ⟨k + 1,by omega,by go_num,by rw [HN.out]; exact HO3.out,HK3.out⟩
   case measure => simp [intOf]; omega
  ·obtain rfl : k = l.length:=by omega
   rw [List.take_length] at hown
   have HO:=hide hown
   have HBR:=hide hbw
   clear hown hbw
   go_wp2_with fail
   go_ret
   exact ⟨_,rfl,Own.low HO.out HBX.out.size,andthen HBX.out HBR.out⟩
end Go.Proofs.YtgihekokbgggcaaGreat.S2.R
namespace Go.Proofs.YtgihekokbgggcaaGreat.S2.R
open Go.RowKit Spn
theorem new_at {w w1 : World} (hb : Below (w.alloc (.cells #[.int .i64 0,.int .i64 0] 23)).heap.size (w.alloc (.cells #[.int .i64 0,.int .i64 0] 23)) w1) :
  w1.cell? ⟨w.heap.size,0,none⟩ = some (.int .i64 0) /\ w1.cell? ⟨w.heap.size,1,none⟩ = some (.int .i64 0) /\ w1.frozen? ⟨w.heap.size,0,none⟩ = false /\ w1.frozen? ⟨w.heap.size,1,none⟩ = false /\ w.heap.size < w1.heap.size :=
 ⟨cell_keep hb (by rw [World.cell?_alloc_at _ _ _ _ rfl]; rfl),cell_keep hb (by rw [World.cell?_alloc_at _ _ _ _ rfl]; rfl),
  by rw [hb.frozen (by simp),World.frozen?_alloc_at _ _ _ _ rfl],by rw [hb.frozen (by simp),World.frozen?_alloc_at _ _ _ _ rfl],by have:=hb.size; simp at this; omega⟩
theorem part_yes (l : List Sp) (a : Sp) (k : Nat) (h : k < l.length) (q1 q2 : Int) (hq : meet l[k] a = (q1,q2)) (hok : okB (q1,q2) = true) : partR (l.take (k + 1)) a = partR (l.take k) a ++ [(q1,q2)]:=by
 rw [partR_take l _ k h,hq,if_pos ((okB_iff _).1 hok)]
theorem part_no (l : List Sp) (a : Sp) (k : Nat) (h : k < l.length) (q1 q2 : Int) (hq : meet l[k] a = (q1,q2)) (hok : okB (q1,q2) = false) : partR (l.take (k + 1)) a = partR (l.take k) a:=by
 rw [partR_take l _ k h,hq,if_neg ((okB_not _).1 hok),List.append_nil]
theorem part_any (A : Option Addr) (n c : Nat) (l : List Sp) (x y : Int) (w : World) (h : Row w A l) (he : n = l.length) (hn : l.length <= 400000) :
  Calls Tryz.prog 42 #[.slice A n c,.agg #[.int .i64 x,.int .i64 y]] w (Gives w (partR l (x,y))):=by
 subst he
 have hbx:=more (start w) (.cells #[.int .i64 x,.int .i64 y] 23)
 have HROW:=hide (h.keep hbx)
 have HBX:=hide hbx
 have hx0 : (w.alloc (.cells #[.int .i64 x,.int .i64 y] 23)).cell? ⟨w.heap.size,0,none⟩ = some (.int .i64 x):=by rw [World.cell?_alloc_at _ _ _ _ rfl]; rfl
 have hx1 : (w.alloc (.cells #[.int .i64 x,.int .i64 y] 23)).cell? ⟨w.heap.size,1,none⟩ = some (.int .i64 y):=by rw [World.cell?_alloc_at _ _ _ _ rfl]; rfl
 clear h hbx
 go_enter Tryz.func42,Tryz.ntmps42
 go_wp2_with fail
 generalize hW : w.alloc (.cells #[.int .i64 x,.int .i64 y] 23) = W at *
 clear hW
 go_loopw [5,6] (fun v i wr => ∃ k : Nat,k <= l.length /\ i = .int .i64 k /\ Own wr W.heap.size v (partR (l.take k) (x,y)) /\ Below W.heap.size W wr) (fun _ i _ => l.length - (intOf i).toNat)
 case atStart => exact ⟨0,Nat.zero_le _,rfl,own_nil _ _,start _⟩
 case round =>
  obtain ⟨k,hk,rfl,hown,hbw⟩:=hrel
  have hsz:=hbw.size
  by_cases hlt : k < l.length
  ·obtain ⟨b,off,rfl,hb,hcl⟩:=HROW.out (by intro h0; rw [h0] at hlt; exact absurd hlt (Nat.not_lt_zero _))
   obtain ⟨d0,d1⟩:=hcl k hlt
   have HSk:=hide (And.intro d0 (And.intro d1 (And.intro hx0 hx1)))
   have hpl:=partR_len (l.take k) (x,y)
   have htl : (l.take k).length <= k:=List.length_take_le _ _
   obtain ⟨q1,q2,hq⟩ : ∃ q1 q2,meet (l[k].1,l[k].2) (x,y) = (q1,q2):=⟨_,_,rfl⟩
   have HQ:=hide hq
   have HO:=hide hown
   clear hown hcl d0 d1 hq
   go_wp2_with fail
   go_region_held3 (fun w' => w'.cell? ⟨b,off + k * 2,none⟩ = some (.int .i64 l[k].1) /\ w'.cell? ⟨b,off + k * 2 + 1,none⟩ = some (.int .i64 l[k].2) /\ w'.cell? ⟨w.heap.size,0,none⟩ = some (.int .i64 x) /\ w'.cell? ⟨w.heap.size,1,none⟩ = some (.int .i64 y)) (first | exact keep4 (by assumption) HSk.out | exact keep4 hbw.drew HSk.out | exact keep4 (more hbw _).drew HSk.out | exact keep4 (more (by assumption) _) HSk.out | exact keep4 (Below.setCell (Below.setCell (by assumption) hsz _) hsz _) HSk.out) ((first
    | (go_at_call 61; (with_reducible refine (meet_is _ _ _ _ q1 q2 wr.drew HQ.out).mono ?_); rintro e w2 ⟨rfl,hb2⟩; have hk2:=hbw.trans ((andthen (start wr).drew hb2).mono hsz))
    | (go_at_call 61; (with_reducible refine (meet_is _ _ _ _ q1 q2 (wr.alloc (.cells #[.int .i64 0,.int .i64 0] 23)).drew HQ.out).mono ?_); rintro e w2 ⟨rfl,hb2⟩; have hb3:=andthen (start (wr.alloc (.cells #[.int .i64 0,.int .i64 0] 23))).drew hb2; have hk2:=hbw.trans ((andthen (more (start wr) _) hb3).mono hsz); obtain ⟨t0,t1,z0,z1,z2⟩:=new_at hb3)
    ))
   ·go_wp2_with fail
    have hkc:=more hk2 (.cells #[.int .i64 q1,.int .i64 q2] 23)
    have k0 : (w2.alloc (.cells #[.int .i64 q1,.int .i64 q2] 23)).cell? ⟨w2.heap.size,0,none⟩ = some (.int .i64 q1):=by rw [World.cell?_alloc_at _ _ _ _ rfl]; rfl
    have k1 : (w2.alloc (.cells #[.int .i64 q1,.int .i64 q2] 23)).cell? ⟨w2.heap.size,1,none⟩ = some (.int .i64 q2):=by rw [World.cell?_alloc_at _ _ _ _ rfl]; rfl
    have HOC:=hide (Own.keep HO.out (andthen (andthen (start wr).drew hb2) (more (start w2) (.cells #[.int .i64 q1,.int .i64 q2] 23))))
    clear hb2 hbw
    rcases hok : okB (q1,q2)
    ·have HOK:=hide hok
     have HN:=hide (part_no l (x,y) k hlt q1 q2 HQ.out hok)
     clear hok
     refine (is_at q1 q2 false _ HOK.out).mono ?_
     rintro e w4 ⟨rfl,hb4⟩
     have HO4:=hide (Own.keep HOC.out hb4)
     have HK4:=hide (hkc.trans (hb4.mono hkc.size))
     clear hb4
     go_wp2_with fail
     go_roundw
     case rel => exact ⟨k + 1,by omega,by go_num,by rw [HN.out]; exact HO4.out,HK4.out⟩
     case measure => simp [intOf]; omega
    ·have HOK:=hide hok
     have HN:=hide (part_yes l (x,y) k hlt q1 q2 HQ.out hok)
     clear hok
     refine (is_at q1 q2 true _ HOK.out).mono ?_
     rintro e w4 ⟨rfl,hb4⟩
     have HO4:=hide (Own.keep HOC.out hb4)
     have hk4:=hkc.trans (hb4.mono hkc.size)
     have HK4:=hide hk4
     replace k0:=cell_keep hb4 k0
     replace k1:=cell_keep hb4 k1
     have hsz4:=hk4.size
     clear hb4 hk4
     go_wp2_with (at_builtin; refine wp_oneG (p:=(q1,q2)) rfl _ _ rfl rfl rfl rfl HO4.out hsz4 (by omega) ?_; intro v5 w5 hown5 hgo5)
     have HO5:=hide hown5
     have HK5:=hide (hgo5.below' HO4.out HK4.out hsz4)
     clear hown5 hgo5
     go_roundw
     case rel => exact ⟨k + 1,by omega,by go_num,by rw [HN.out]; exact HO5.out,HK5.out⟩
     case measure => simp [intOf]; omega
   ·go_wp2_with fail
    have hkc:=(hk2.setCell (p:=⟨wr.heap.size,0,none⟩) hsz (.int .i64 q1)).setCell (p:=⟨wr.heap.size,1,none⟩) hsz (.int .i64 q2)
    have k0 : ((w2.setCell ⟨wr.heap.size,0,none⟩ (.int .i64 q1)).setCell ⟨wr.heap.size,1,none⟩ (.int .i64 q2)).cell? ⟨wr.heap.size,0,none⟩ = some (.int .i64 q1):=(set2 t0 t1).1
    have k1 : ((w2.setCell ⟨wr.heap.size,0,none⟩ (.int .i64 q1)).setCell ⟨wr.heap.size,1,none⟩ (.int .i64 q2)).cell? ⟨wr.heap.size,1,none⟩ = some (.int .i64 q2):=(set2 t0 t1).2
    have HOC:=hide (Own.keep HO.out (((andthen (more (start wr) _) hb3).setCell (p:=⟨wr.heap.size,0,none⟩) (Nat.le_refl _) (.int .i64 q1)).setCell (p:=⟨wr.heap.size,1,none⟩) (Nat.le_refl _) (.int .i64 q2)))
    clear hb2 hb3 hbw t0 t1 z0 z1
    rcases hok : okB (q1,q2)
    ·have HOK:=hide hok
     have HN:=hide (part_no l (x,y) k hlt q1 q2 HQ.out hok)
     clear hok
     refine (is_at q1 q2 false _ HOK.out).mono ?_
     rintro e w4 ⟨rfl,hb4⟩
     have HO4:=hide (Own.keep HOC.out hb4)
     have HK4:=hide (hkc.trans (hb4.mono hkc.size))
     clear hb4
     go_wp2_with fail
     go_roundw
     case rel => exact ⟨k + 1,by omega,by go_num,by rw [HN.out]; exact HO4.out,HK4.out⟩
     case measure => simp [intOf]; omega
    ·have HOK:=hide hok
     have HN:=hide (part_yes l (x,y) k hlt q1 q2 HQ.out hok)
     clear hok
     refine (is_at q1 q2 true _ HOK.out).mono ?_
     rintro e w4 ⟨rfl,hb4⟩
     have HO4:=hide (Own.keep HOC.out hb4)
     have hk4:=hkc.trans (hb4.mono hkc.size)
     have HK4:=hide hk4
     replace k0:=cell_keep hb4 k0
     replace k1:=cell_keep hb4 k1
     have hsz4:=hk4.size
     clear hb4 hk4
     go_wp2_with (at_builtin; refine wp_oneG (p:=(q1,q2)) rfl _ _ rfl rfl rfl rfl HO4.out hsz4 (by omega) ?_; intro v5 w5 hown5 hgo5)
     have HO5:=hide hown5
     have HK5:=hide (hgo5.below' HO4.out HK4.out hsz4)
     clear hown5 hgo5
     go_roundw
     case rel => exact ⟨k + 1,by omega,by go_num,by rw [HN.out]; exact HO5.out,HK5.out⟩
     case measure => simp [intOf]; omega
  ·obtain rfl : k = l.length:=by omega
   rw [List.take_length] at hown
   have HO:=hide hown
   have HBR:=hide hbw
   clear hown hbw
   go_wp2_with fail
   go_ret
   exact ⟨_,rfl,Own.low HO.out HBX.out.size,andthen HBX.out HBR.out⟩
end Go.Proofs.YtgihekokbgggcaaGreat.S2.R

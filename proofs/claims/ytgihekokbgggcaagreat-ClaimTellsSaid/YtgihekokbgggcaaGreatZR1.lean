/- RuRow; RuRow2; ClRow of the recipes, what is needed of them. -/
import Derived.Test.YtgihekokbgggcaaGreatRows
import Derived.ProofKit
import Derived.SizedLaws
import Derived.Lib.RowBridge
import Derived.Lib.SmallJoins
import Derived.Deep.SlicePairs
import Derived.OpenShut
import Derived.Carry
import Derived.Deep.Slices
import Derived.ChangeSame
import Derived.Test.YtgihekokbgggcaaGreatZW5
import Derived.Test.YtgihekokbgggcaaGreatZC1
set_option maxHeartbeats 8000000
set_option maxRecDepth 1000000
namespace Go.Proofs.YtgihekokbgggcaaGreat
open Go.ChangeShapes Go.WideShapes Go.ChangeAt Go.RowKit Go.Joins Rul
theorem own : ownKnob Tryz.prog.godebug = none:=by kernel_rfl
theorem laidOut : laidOutB Tryz.prog = true:=by kernel_rfl
theorem day_cells : Tryz.prog.cellsOf 115 = 2:=by kernel_rfl
theorem int_cells : Tryz.prog.cellsOf 3 = 1:=by kernel_rfl
theorem ints_cells : Tryz.prog.cellsOf 36 = 1:=by kernel_rfl
theorem days_cells : Tryz.prog.cellsOf 37 = 1:=by kernel_rfl
theorem rule_cells : Tryz.prog.cellsOf 39 = 7:=by kernel_rfl
theorem add_flat (b off k : Nat) : (⟨b,off,none⟩ : Addr).add k = ⟨b,off + k,none⟩:=by simp [Addr.add]
section
variable {H : Type} {enc : TypeId × Value -> H}
theorem open_days {W : World} {cs : List Value} {base fuel : Nat} {sp : Nat -> Bool} {hd : Bool} {y : DataW H × List MemPlace} (hf : DataW.trod enc Tryz.prog W base sp hd fuel 37 cs = some y) :
  ∃ (A : Option Addr) (n c : Nat) (l : List Wd),cs = [.slice A n c] /\ n = l.length /\ l.length <= maxLen /\ RowD W A l:=by
 rcases Go.Deep.open_slice_pairs Tryz.underlying37 Tryz.underlying115 day_cells rfl rfl int_cells int_cells hf with ⟨hcs,_⟩ | ⟨a,len,cap,m,k,V0,V1,D0,D1,P0,P1,hcs,_,hl,hm,hmm,_,hi⟩
 ·exact ⟨none,0,0,[],hcs,rfl,Nat.zero_le _,RowD.nil _ _⟩
 ·have hnm : len <= m:=by rw [hmm]; split <;> omega
  refine ⟨some a,len,cap,(List.range len).map fun i => (intOf (V0 i),intOf (V1 i)),hcs,by simp,by simp; omega,fun hne => ?_⟩
  have hn : 0 < len:=by
   rcases Nat.eq_zero_or_pos len with h0 | h0
   ·subst h0; simp at hne
   ·exact h0
  obtain ⟨b,off,spot⟩:=a
  have c0:=(hi 0 (by omega)).1
  have hspot : spot = none:=by simpa [Addr.add] using World.cell?_spot c0
  subst hspot
  have hb : b < W.heap.size:=by
   have:=World.block_lt_of_cell? _ _ c0
   simpa [Addr.add] using this
  refine ⟨b,off,rfl,hb,fun i hi' => ?_⟩
  have hin : i < len:=by simpa using hi'
  obtain ⟨g0,g1,t0,t1⟩:=hi i (by omega)
  obtain ⟨z0,e0,_,_⟩:=DataW.trod_int Tryz.underlying3 t0
  obtain ⟨z1,e1,_,_⟩:=DataW.trod_int Tryz.underlying3 t1
  simp only [List.cons.injEq,and_true] at e0 e1
  rw [add_flat] at g0 g1
  rw [g0,Nat.add_assoc,g1,e0,e1]
  simp [e0,e1,intOf]
theorem open_nums {W : World} {cs : List Value} {base fuel : Nat} {sp : Nat -> Bool} {hd : Bool} {y : DataW H × List MemPlace} (hf : DataW.trod enc Tryz.prog W base sp hd fuel 36 cs = some y) :
  ∃ (A : Option Addr) (n c : Nat) (l : List Int),cs = [.slice A n c] /\ n = l.length /\ l.length <= maxLen /\ RowI W A l:=by
 rcases open_ints Tryz.underlying36 Tryz.underlying3 int_cells hf with ⟨hcs,_⟩ | ⟨a,len,cap,zs,hcs,_,hl,hm,hzl,_,hi,_⟩
 ·exact ⟨none,0,0,[],hcs,rfl,Nat.zero_le _,RowI.nil _ _⟩
 ·have hnm : len <= zs.length:=by rw [hzl]; split <;> omega
  refine ⟨some a,len,cap,zs.take len,hcs,by simp; omega,by simp; omega,fun hne => ?_⟩
  have hn : 0 < len:=by
   rcases Nat.eq_zero_or_pos len with h0 | h0
   ·subst h0; simp at hne
   ·exact h0
  obtain ⟨b,off,spot⟩:=a
  have c0:=hi 0 (by omega)
  have hspot : spot = none:=by simpa [Addr.add] using World.cell?_spot c0
  subst hspot
  have hb : b < W.heap.size:=by
   have:=World.block_lt_of_cell? _ _ c0
   simpa [Addr.add] using this
  refine ⟨b,off,rfl,hb,fun i hi' => ?_⟩
  have hin : i < len:=by simp at hi'; omega
  have g:=hi i (by omega)
  rw [add_flat] at g
  rw [g,List.getElem_take,getD_at 0 zs i (by omega)]
end
section
variable {H : Type} {enc : TypeId × Value -> H}
theorem open_nums2 {W : World} {cs : List Value} {base fuel : Nat} {sp : Nat -> Bool} {hd : Bool} {y : DataW H × List MemPlace} (hf : DataW.trod enc Tryz.prog W base sp hd fuel 36 cs = some y) :
  ∃ (A : Option Addr) (n c : Nat) (l : List Int),cs = [.slice A n c] /\ (n = l.length /\ l.length <= maxLen /\ RowI W A l) /\ (A = none -> c = 0):=by
 rcases open_ints Tryz.underlying36 Tryz.underlying3 int_cells hf with ⟨hcs,_⟩ | ⟨a,len,cap,zs,hcs,_,hl,hm,hzl,_,hi,_⟩
 ·exact ⟨none,0,0,[],hcs,⟨rfl,Nat.zero_le _,RowI.nil _ _⟩,fun _ => rfl⟩
 ·have hnm : len <= zs.length:=by rw [hzl]; split <;> omega
  refine ⟨some a,len,cap,zs.take len,hcs,⟨by simp; omega,by simp; omega,fun hne => ?_⟩,fun h => by cases h⟩
  have hn : 0 < len:=by
   rcases Nat.eq_zero_or_pos len with h0 | h0
   ·subst h0; simp at hne
   ·exact h0
  obtain ⟨b,off,spot⟩:=a
  have c0:=hi 0 (by omega)
  have hspot : spot = none:=by simpa [Addr.add] using World.cell?_spot c0
  subst hspot
  have hb : b < W.heap.size:=by
   have:=World.block_lt_of_cell? _ _ c0
   simpa [Addr.add] using this
  refine ⟨b,off,rfl,hb,fun i hi' => ?_⟩
  have hin : i < len:=by simp at hi'; omega
  have g:=hi i (by omega)
  rw [add_flat] at g
  rw [g,List.getElem_take,getD_at 0 zs i (by omega)]
end
theorem string_cells : Tryz.prog.cellsOf 9 = 1:=by kernel_rfl
theorem event_cells : Tryz.prog.cellsOf 41 = 13:=by kernel_rfl
theorem array13 {α : Type} {cs : Array α} (h : cs.size = 13) : ∃ c0 c1 c2 c3 c4 c5 c6 c7 c8 c9 c10 c11 c12,cs = #[c0,c1,c2,c3,c4,c5,c6,c7,c8,c9,c10,c11,c12]:=by
 obtain ⟨l⟩:=cs
 match l,h with
 | [c0,c1,c2,c3,c4,c5,c6,c7,c8,c9,c10,c11,c12],_ => exact ⟨c0,c1,c2,c3,c4,c5,c6,c7,c8,c9,c10,c11,c12,rfl⟩
section
variable {H : Type} {enc : TypeId × Value -> H}
theorem rule_of_trod {W : World} {v0 v1 v2 v3 v4 v5 v6 : Value} {base fuel : Nat} {sp : Nat -> Bool} {hd : Bool} {y : DataW H × List MemPlace} (hf : DataW.trod enc Tryz.prog W base sp hd fuel 39 [v0,v1,v2,v3,v4,v5,v6] = some y) :
  ∃ (fr ev ct un : Int) (D M Y : Option Addr) (dn dc mn mc yn yc : Nat) (ds : List Wd) (ms ys : List Int),(v0 = .int .i64 fr /\ v1 = .int .i64 ev /\ v2 = .int .i64 ct /\ v3 = .int .i64 un /\ v4 = .slice D dn dc /\ v5 = .slice M mn mc /\ v6 = .slice Y yn yc) ∧
   (dn = ds.length /\ ds.length <= maxLen /\ RowD W D ds) /\ (mn = ms.length /\ ms.length <= maxLen /\ RowI W M ms) /\ (yn = ys.length /\ ys.length <= maxLen /\ RowI W Y ys):=by
 obtain ⟨xs,n,_,hx,hl,hlen,hfl⟩:=DataW.trod_struct Tryz.underlying39 hf
 have g0:=hfl 0 _ rfl
 have g1:=hfl 1 _ rfl
 have g2:=hfl 2 _ rfl
 have g3:=hfl 3 _ rfl
 have g4:=hfl 4 _ rfl
 have g5:=hfl 5 _ rfl
 have g6:=hfl 6 _ rfl
 match xs,hlen with
 | [y0,y1,y2,y3,y4,y5,y6],_ =>
  simp [int_cells,ints_cells,days_cells] at g0 g1 g2 g3 g4 g5 g6
  obtain ⟨z0,e0,_,_⟩:=DataW.trod_int Tryz.underlying3 g0
  obtain ⟨z1,e1,_,_⟩:=DataW.trod_int Tryz.underlying3 g1
  obtain ⟨z2,e2,_,_⟩:=DataW.trod_int Tryz.underlying3 g2
  obtain ⟨z3,e3,_,_⟩:=DataW.trod_int Tryz.underlying3 g3
  obtain ⟨D,dn,dc,ds,e4,k4⟩:=open_days g4
  obtain ⟨M,mn,mc,ms,e5,k5⟩:=open_nums g5
  obtain ⟨Y,yn,yc,ys,e6,k6⟩:=open_nums g6
  simp only [List.cons.injEq,and_true] at e0 e1 e2 e3 e4 e5 e6
  exact ⟨z0,z1,z2,z3,D,M,Y,dn,dc,mn,mc,yn,yc,ds,ms,ys,⟨e0,e1,e2,e3,e4,e5,e6⟩,k4,k5,k6⟩
theorem open_event {r : Reach} {b0 : Nat} {W : World} {v : Value} {base : Nat} {sp : Nat -> Bool} {hd : Bool} {d : DataW H} {p : List MemPlace} (hv : Value.okWide Tryz.prog W r b0 41 v) (h : DataW.Trod enc Tryz.prog W base sp hd 41 v d p) :
  ∃ (U T : ByteArray) (s l : Int) (O : Option Addr) (on oc : Nat) (fr ev ct un : Int) (D M Y X : Option Addr) (dn dc mn mc yn yc xn xc : Nat) (o : List Int) (ds : List Wd) (ms ys x : List Int),v = .agg #[.string U,.string T,.int .i64 s,.int .i64 l,.slice O on oc,.int .i64 fr,.int .i64 ev,.int .i64 ct,.int .i64 un,.slice D dn dc,.slice M mn mc,.slice Y yn yc,.slice X xn xc] ∧
   (on = o.length /\ o.length <= maxLen /\ RowI W O o) /\ ((dn = ds.length /\ ds.length <= maxLen /\ RowD W D ds) /\ (mn = ms.length /\ ms.length <= maxLen /\ RowI W M ms) /\ (yn = ys.length /\ ys.length <= maxLen /\ RowI W Y ys)) /\ (xn = x.length /\ x.length <= maxLen /\ RowI W X x) /\ U.size <= maxLen /\ T.size <= maxLen /\ (X = none -> xc = 0):=by
 obtain ⟨cs,rfl,hsz⟩:=okWide_struct Tryz.underlying41 hv
 obtain ⟨v0,v1,v2,v3,v4,v5,v6,v7,v8,v9,v10,v11,v12,rfl⟩:=array13 (hsz.trans event_cells)
 obtain ⟨fuel,hf⟩:=h
 obtain ⟨xs,n,_,hx,hl,hlen,hfl⟩:=DataW.trod_struct Tryz.underlying41 hf
 have g0:=hfl 0 _ rfl
 have g1:=hfl 1 _ rfl
 have g2:=hfl 2 _ rfl
 have g3:=hfl 3 _ rfl
 have g4:=hfl 4 _ rfl
 have g5:=hfl 5 _ rfl
 have g6:=hfl 6 _ rfl
 match xs,hlen with
 | [y0,y1,y2,y3,y4,y5,y6],_ =>
  simp [int_cells,ints_cells,string_cells,rule_cells,Value.cells] at g0 g1 g2 g3 g4 g5 g6
  obtain ⟨U,e0,_,hU⟩:=DataW.trod_string Tryz.underlying9 g0
  obtain ⟨T,e1,_,hT⟩:=DataW.trod_string Tryz.underlying9 g1
  obtain ⟨z2,e2,_,_⟩:=DataW.trod_int Tryz.underlying3 g2
  obtain ⟨z3,e3,_,_⟩:=DataW.trod_int Tryz.underlying3 g3
  obtain ⟨O,on,oc,o,e4,k4⟩:=open_nums g4
  obtain ⟨fr,ev,ct,un,D,M,Y,dn,dc,mn,mc,yn,yc,ds,ms,ys,⟨rfl,rfl,rfl,rfl,rfl,rfl,rfl⟩,k5⟩:=rule_of_trod g5
  obtain ⟨X,xn,xc,x,e6,k6,n6⟩:=open_nums2 g6
  simp only [List.cons.injEq,and_true] at e0 e1 e2 e3 e4 e6
  subst e0 e1 e2 e3 e4 e6
  exact ⟨U,T,z2,z3,O,on,oc,fr,ev,ct,un,D,M,Y,X,dn,dc,mn,mc,yn,yc,xn,xc,o,ds,ms,ys,x,rfl,k4,k5,k6,hU,hT,n6⟩
end
theorem span_cells : Tryz.prog.cellsOf 23 = 2:=by kernel_rfl
theorem claim_cells : Tryz.prog.cellsOf 25 = 3:=by kernel_rfl
theorem array3 {α : Type} {cs : Array α} (h : cs.size = 3) : ∃ c0 c1 c2,cs = #[c0,c1,c2]:=by
 obtain ⟨l⟩:=cs
 match l,h with
 | [a,b,c],_ => exact ⟨a,b,c,rfl⟩
section
variable {H : Type} {enc : TypeId × Value -> H}
theorem open_claims {W : World} {A : Option Addr} {n c base : Nat} {sp : Nat -> Bool} {hd : Bool} {d : DataW H} {p : List MemPlace} (h : DataW.Trod enc Tryz.prog W base sp hd 26 (.slice A n c) d p) :
  ∃ l : List Cl.C,n = l.length /\ l.length <= maxLen /\ S2.RowC W A l:=by
 obtain ⟨fuel,hf⟩:=h
 rcases Go.Deep.open_slice Tryz.underlying26 hf with ⟨hcs,_⟩ | ⟨a,len,cap,m,k,D,Pl,hcs,hb,hl,hm,hmm,_,hx⟩
 ·simp [Value.cells] at hcs
  obtain ⟨rfl,rfl,rfl⟩:=hcs
  exact ⟨[],rfl,Nat.zero_le _,fun h0 => absurd rfl h0⟩
 ·simp [Value.cells] at hcs
  obtain ⟨rfl,rfl,rfl⟩:=hcs
  have hnm : n <= m:=by rw [hmm]; split <;> omega
  have each : ∀ i,i < m -> ∃ q : Int × Int × Int,W.cell? (a.add (i * 3)) = some (.int .i64 q.1) /\ W.cell? (a.add (i * 3 + 1)) = some (.int .i64 q.2.1) /\ W.cell? (a.add (i * 3 + 2)) = some (.int .i64 q.2.2):=by
   intro i hi
   obtain ⟨cs',h1,h2⟩:=hx i hi
   rw [claim_cells] at h1
   obtain ⟨_,hlen,hcell⟩:=World.cells?_some h1
   obtain ⟨xs,k2,hk,hxy,_,hxl,hfl⟩:=DataW.trod_struct Tryz.underlying25 h2
   match cs',hlen with
   | [v0,v1,v2],_ =>
    have g0:=hfl 0 _ rfl
    have g1:=hfl 1 _ rfl
    have e0:=hcell 0 (by omega)
    have e1:=hcell 1 (by omega)
    have e2:=hcell 2 (by omega)
    rw [Go.Deep.add_add] at e0 e1 e2
    simp [int_cells,span_cells] at g0 g1 e0 e1 e2
    match xs,hxl with
    | [y0,y1],_ =>
     simp at g0 g1
     obtain ⟨z0,q0,_,_⟩:=DataW.trod_int Tryz.underlying3 g0
     obtain ⟨xs2,k3,hk3,hxy2,_,hxl2,hfl2⟩:=DataW.trod_struct Tryz.underlying23 g1
     have g2:=hfl2 0 _ rfl
     have g3:=hfl2 1 _ rfl
     match xs2,hxl2 with
     | [y2,y3],_ =>
      simp [int_cells] at g2 g3
      obtain ⟨z1,q1,_,_⟩:=DataW.trod_int Tryz.underlying3 g2
      obtain ⟨z2,q2,_,_⟩:=DataW.trod_int Tryz.underlying3 g3
      simp only [List.cons.injEq,and_true] at q0 q1 q2
      subst q0 q1 q2
      exact ⟨(z0,z1,z2),e0,e1,e2⟩
  obtain ⟨q,hq⟩:=Go.Deep.choose_lt each
  refine ⟨(List.range n).map q,by simp,by simp; omega,fun hne => ?_⟩
  have hn : 0 < n:=by
   rcases Nat.eq_zero_or_pos n with h0 | h0
   ·subst h0; simp at hne
   ·exact h0
  obtain ⟨b,off,spot⟩:=a
  have c0:=(hq 0 (by omega)).1
  have hspot : spot = none:=by simpa [Addr.add] using World.cell?_spot c0
  subst hspot
  have hbl : b < W.heap.size:=by
   have:=World.block_lt_of_cell? _ _ c0
   simpa [Addr.add] using this
  refine ⟨b,off,rfl,hbl,fun i hi' => ?_⟩
  have hin : i < n:=by simpa using hi'
  obtain ⟨g0,g1,g2⟩:=hq i (by omega)
  rw [add_plain] at g0 g1 g2
  simp only [List.getElem_map,List.getElem_range]
  exact ⟨g0,by rw [Nat.add_assoc]; exact g1,by rw [Nat.add_assoc]; exact g2⟩
end
section
variable {H : Type} {enc : TypeId × Value -> H}
theorem open_claim {r : Reach} {b0 : Nat} {W : World} {v : Value} {base : Nat} {sp : Nat -> Bool} {hd : Bool} {d : DataW H} {p : List MemPlace} (hv : Value.okWide Tryz.prog W r b0 25 v) (h : DataW.Trod enc Tryz.prog W base sp hd 25 v d p) :
  ∃ q f t : Int,v = .agg #[.int .i64 q,.int .i64 f,.int .i64 t]:=by
 obtain ⟨cs,rfl,hsz⟩:=okWide_struct Tryz.underlying25 hv
 obtain ⟨v0,v1,v2,rfl⟩:=array3 (hsz.trans claim_cells)
 obtain ⟨fuel,hf⟩:=h
 have hf' : DataW.trod enc Tryz.prog W base sp hd fuel 25 [v0,v1,v2] = some (d,p):=hf
 obtain ⟨xs,k2,hk,hxy,_,hxl,hfl⟩:=DataW.trod_struct Tryz.underlying25 hf'
 have g0:=hfl 0 _ rfl
 have g1:=hfl 1 _ rfl
 simp [int_cells,span_cells] at g0 g1
 match xs,hxl with
 | [y0,y1],_ =>
  simp at g0 g1
  obtain ⟨z0,q0,_,_⟩:=DataW.trod_int Tryz.underlying3 g0
  obtain ⟨xs2,k3,hk3,hxy2,_,hxl2,hfl2⟩:=DataW.trod_struct Tryz.underlying23 g1
  have g2:=hfl2 0 _ rfl
  have g3:=hfl2 1 _ rfl
  match xs2,hxl2 with
  | [y2,y3],_ =>
   simp [int_cells] at g2 g3
   obtain ⟨z1,q1,_,_⟩:=DataW.trod_int Tryz.underlying3 g2
   obtain ⟨z2,q2,_,_⟩:=DataW.trod_int Tryz.underlying3 g3
   simp only [List.cons.injEq,and_true] at q0 q1 q2
   subst q0 q1 q2
   exact ⟨z0,z1,z2,rfl⟩
end
end Go.Proofs.YtgihekokbgggcaaGreat

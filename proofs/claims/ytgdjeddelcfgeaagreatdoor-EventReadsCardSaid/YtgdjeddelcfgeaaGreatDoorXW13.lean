/- EvW; EvWF; EvKn of the recipes, what is needed of them. -/
import Derived.Test.YtgdjeddelcfgeaaGreatDoorXEvK
import Derived.Test.YtgdjeddelcfgeaaGreatDoorXEvN
import Derived.Test.YtgdjeddelcfgeaaGreatDoorXRuS
namespace Go.Proofs.YtgdjeddelcfgeaaGreatDoor
open Go.RowKit Rul Rt Go.Sort

theorem run_copyS {w : World} {k : List Tx} (ty : TypeId) {A : Option Addr} {m c : Nat} (hm : m = k.length) (hrow : RowS w A k) (hk : k.length ≤ 1000000) :
  ∃ v' w',(Builtin.append_ #[32,32] ty #[.slice none 0 0,.slice A m c]).run Tryz.prog w = .ok v' w' ∧ OwnS w' w.heap.size v' k ∧ Below w.heap.size w w':=by
 obtain ⟨i0,hi,hz0,hz1,hz2⟩:=info_parts string_info
 cases A with
 | none =>
  have hk0 : k = []:=by
   rcases k with _ | ⟨z,k⟩
   ·rfl
   ·obtain ⟨_,_,h,_⟩:=hrow (by simp)
    cases h
  subst hk0
  subst hm
  exact ⟨_,w,run_none 32 ty 9 i0 Tryz.underlying32 hi c,ownS_nil _ _,start _⟩
 | some a =>
  have hnews : ∀ j u,(cellsS k)[j]? = some u → w.cell? (a.add j) = some u:=by
   rcases k with _ | ⟨z,k0⟩
   ·intro j u hu; simp [cellsS] at hu
   ·obtain ⟨b,off,he,_,hc⟩:=hrow (by simp)
    injection he with he
    subst he
    generalize hkk : z :: k0 = k at *
    clear hkk
    intro j u hu
    have hj : j < (cellsS k).length:=(List.getElem?_eq_some_iff.1 hu).1
    rw [cellsS_len] at hj
    rw [plusE,hc j hj]
    rw [← hu]; simp [cellsS,hj]
  subst hm
  obtain ⟨v',w',hr,h2,h3,_,_⟩:=run_append_own_at (P:=Tryz.prog) (w:=w) w.heap.size 32 ty 9 i0 _ 1 16 Tryz.underlying32 hi hz0 hz1 hz2 rfl (by decide) (.slice none 0 0) 0 [] (ownS_nil w w.heap.size) a k.length c (cellsS k) (by rw [cellsS_len,Nat.mul_one]) hnews (by intro u hu; obtain ⟨z,_,rfl⟩:=List.mem_map.1 hu; rfl) (by unfold maxLen; omega) (by omega) (Nat.le_refl _)
  exact ⟨v',w',hr,by rw [Nat.zero_add,List.nil_append] at h2; exact h2,(Below.refl w.heap.size w).grown h3 (Nat.le_refl _) fun j hj => by cases hj⟩
theorem wp_copyS {ops : Array Oper} {rest : List Oper} {o : Oper} {a : Act} {Q : Exit → Act → World → Prop} {w : World} {k : List Tx} (hgd : o.guard = none) (s x : Operand)
  (ho : o.op = .call { callee:=.builtin .append,args:=#[s,x],argTypes:=#[32,32] }) (hs : a.eval s = .slice none 0 0) {A : Option Addr} {m c : Nat} (hx : a.eval x = .slice A m c) (hm : m = k.length) (hrow : RowS w A k) (hk : k.length ≤ 1000000)
  (h : ∀ v' w',OwnS w' w.heap.size v' k → Below w.heap.size w w' → wpList Tryz.prog ops Q rest (a.put o.dst v') w') :
  wpList Tryz.prog ops Q (o :: rest) a w:=by
 refine wpList_plain hgd fun K hK => ?_
 obtain ⟨v',w',hr,h2,h3⟩:=run_copyS (c:=c) o.type hm hrow hk
 unfold Oper.wp execOp
 simp only [ho,resolve,invoke,builtin,Sem.run_bind,Sem.run_pure,Result.andThen_ok,List.map_toArray,List.map_cons,List.map_nil,hs,hx,hr]
 exact hK _ _ (h v' w' h2 h3)

def hourE : Ev.E:=⟨[97],[],90,60,[3],once,[]⟩
def GivesE (w : World) (e : Ev.E) (x : Ending) (w' : World) : Prop:=∃ m,x = .returned (evV e m) ∧ EvL w' e m ∧ Below w.heap.size w w'
theorem row_3 (w : World) (t : TypeId) : RowI (w.alloc (.cells #[.int .i64 3] t)) (some ⟨w.heap.size,0,none⟩) [3]:=fun _ => by
 refine ⟨w.heap.size,0,rfl,by simp,fun i hi => ?_⟩
 obtain rfl : i = 0:=by simpa using hi
 rw [World.cell?_alloc_at _ _ _ _ rfl]; rfl
set_option maxRecDepth 100000 in
set_option maxHeartbeats 2000000 in
theorem hour_any (w : World) : Calls Tryz.prog 22 #[] w (GivesE w hourE):=by
 have hz0:=blk_new w #[.string ⟨#[]⟩,.string ⟨#[]⟩,.int .i64 0,.int .i64 0,.slice none 0 0,.int .i64 0,.int .i64 0,.int .i64 0,.int .i64 0,.slice none 0 0,.slice none 0 0,.slice none 0 0,.slice none 0 0] 27
 have hb0:=more (start w) (.cells #[.string ⟨#[]⟩,.string ⟨#[]⟩,.int .i64 0,.int .i64 0,.slice none 0 0,.int .i64 0,.int .i64 0,.int .i64 0,.int .i64 0,.slice none 0 0,.slice none 0 0,.slice none 0 0,.slice none 0 0] 27)
 obtain ⟨W,hW⟩ : ∃ W,w.alloc (.cells #[.string ⟨#[]⟩,.string ⟨#[]⟩,.int .i64 0,.int .i64 0,.slice none 0 0,.int .i64 0,.int .i64 0,.int .i64 0,.int .i64 0,.slice none 0 0,.slice none 0 0,.slice none 0 0,.slice none 0 0] 27) = W:=⟨_,rfl⟩
 have hs0 : W.heap.size = w.heap.size + 1:=by rw [← hW,World.size_alloc]
 rw [hW] at hz0 hb0
 have hb1:=more (start W) (.cells #[.int .i64 3] 3)
 have hr3:=row_3 W 3
 have HZ:=hide (hz0.keep hb1)
 have HB:=hide (andthen hb0 hb1)
 have HR:=hide hr3
 have HW:=hide hW
 have HS:=hide hs0
 clear hz0 hb0 hb1 hr3 hs0 hW
 go_enter Tryz.func22,Tryz.ntmps22
 go_wp2_with fail
 rw [HW.out]
 refine (R.once_any _).mono ?_
 rintro e w1 ⟨rfl,hb⟩
 have HZ2:=hide (HZ.out.keep hb)
 have HB2:=hide (andthen HB.out hb)
 have hr:=HR.out.keep hb
 rw [HS.out] at hr
 obtain ⟨⟨z0,zf0⟩,⟨z1,zf1⟩,⟨z2,zf2⟩,⟨z3,zf3⟩,⟨z4,zf4⟩,⟨z5,zf5⟩,⟨z6,zf6⟩,⟨z7,zf7⟩,⟨z8,zf8⟩,⟨z9,zf9⟩,⟨z10,zf10⟩,⟨z11,zf11⟩,⟨z12,zf12⟩⟩:=HZ2.out.c13
 have hlz:=HZ2.out.lt
 have hg:=all_grown [.string ⟨#[97]⟩,.string ⟨#[]⟩,.int .i64 90,.int .i64 60,.slice (some ⟨w.heap.size + 1,0,none⟩) 1 1,.int .i64 0,.int .i64 0,.int .i64 0,.int .i64 (-1),.slice none 0 0,.slice none 0 0,.slice none 0 0,.slice none 0 0] w1 w.heap.size 0
 have hl1 : EvL w1 hourE ⟨some ⟨w.heap.size + 1,0,none⟩,1,none,0,none,0,none,0,none,0⟩:=⟨hr,by decide,lies_once _,fun h => absurd rfl h,by decide,by decide,by decide⟩
 have hL1:=hl1.past hg (fun _ b o e k => by injection e with e; injection e with e _; injection k with k; omega) (fun h => absurd rfl h) (fun h => absurd rfl h) (fun h => absurd rfl h) (fun h => absurd rfl h)
 have hZ1:=HZ2.out.all [.string ⟨#[97]⟩,.string ⟨#[]⟩,.int .i64 90,.int .i64 60,.slice (some ⟨w.heap.size + 1,0,none⟩) 1 1,.int .i64 0,.int .i64 0,.int .i64 0,.int .i64 (-1),.slice none 0 0,.slice none 0 0,.slice none 0 0,.slice none 0 0] rfl
 have hB1:=all_below [.string ⟨#[97]⟩,.string ⟨#[]⟩,.int .i64 90,.int .i64 60,.slice (some ⟨w.heap.size + 1,0,none⟩) 1 1,.int .i64 0,.int .i64 0,.int .i64 0,.int .i64 (-1),.slice none 0 0,.slice none 0 0,.slice none 0 0,.slice none 0 0] w.heap.size 0 HB2.out (Nat.le_refl _)
 rw [chain13] at hL1 hZ1 hB1
 have HLN:=hide (And.intro hZ1 (And.intro hL1 hB1))
 clear hb hr hg hl1 hL1 hZ1 hB1 HZ HB HR HW
 go_wp2_with fail
 refine ret_gen (fun W => BlkAt W w.heap.size [.string ⟨#[97]⟩,.string ⟨#[]⟩,.int .i64 90,.int .i64 60,.slice (some ⟨w.heap.size + 1,0,none⟩) 1 1,.int .i64 0,.int .i64 0,.int .i64 0,.int .i64 (-1),.slice none 0 0,.slice none 0 0,.slice none 0 0,.slice none 0 0] ∧ EvL W hourE ⟨some ⟨w.heap.size + 1,0,none⟩,1,none,0,none,0,none,0,none,0⟩ ∧ Below w.heap.size w W) HLN.out ?_
 rintro WF ⟨hk,hl,hb⟩
 obtain ⟨⟨k0,-⟩,⟨k1,-⟩,⟨k2,-⟩,⟨k3,-⟩,⟨k4,-⟩,⟨k5,-⟩,⟨k6,-⟩,⟨k7,-⟩,⟨k8,-⟩,⟨k9,-⟩,⟨k10,-⟩,⟨k11,-⟩,⟨k12,-⟩⟩:=hk.c13
 exact bodyPost_ret (v:=.agg #[.string ⟨#[97]⟩,.string ⟨#[]⟩,.int .i64 90,.int .i64 60,.slice (some ⟨w.heap.size + 1,0,none⟩) 1 1,.int .i64 0,.int .i64 0,.int .i64 0,.int .i64 (-1),.slice none 0 0,.slice none 0 0,.slice none 0 0,.slice none 0 0]) (by simp [results,Tryz.results22,go_sem,k0,k1,k2,k3,k4,k5,k6,k7,k8,k9,k10,k11,k12]) rfl ⟨_,rfl,hl,hb⟩

end Go.Proofs.YtgdjeddelcfgeaaGreatDoor
namespace Go.Proofs.YtgdjeddelcfgeaaGreatDoor
open Go.RowKit Rul Rt Go.Sort

def hourL : List Tx:=Ev.linesE unU hourE
theorem hour_is : Ev.isE hourE = true:=by decide +kernel
theorem hour_lines : hourL.length = 6 ∧ hourL.getD 2 [] = [68,84,83,84,65,82,84,58,50,48,48,48,48,49,48,49,84,48,49,51,48,48,48] ∧ hourL.all (fun p => decide (p.length ≤ 100)) = true:=by decide +kernel
def okR (p : Option Ev.E × Nat) (e : Ev.E) (n : Nat) : Bool:=decide (p.2 = n) && (match p.1 with
 | none => false
 | some q => Ev.sameE q e)
def noR (p : Option Ev.E × Nat) (n : Nat) : Bool:=decide (p.2 = n) && p.1.isNone
theorem hour_read : okR (Ev.readE unU (hourL ++ [[120]])) hourE 6 = true:=by decide +kernel
theorem hour_three : noR (Ev.readE unU (hourL.take 3)) 3 = true:=by decide +kernel
theorem zero_is : Ev.isE ⟨[],[],0,0,[],⟨0,0,0,0,[],[],[]⟩,[]⟩ = false:=by decide +kernel
theorem okR_is {p : Option Ev.E × Nat} {e : Ev.E} {n : Nat} (h : okR p e n = true) : p = (some e,n):=by
 obtain ⟨o,k⟩:=p
 unfold okR at h
 rw [Bool.and_eq_true,decide_eq_true_eq] at h
 obtain ⟨h1,h2⟩:=h
 cases o with
 | none => cases h2
 | some q => simp only at h1 h2; rw [(Ev.sameE_iff q e).1 h2,h1]
theorem noR_is {p : Option Ev.E × Nat} {n : Nat} (h : noR p n = true) : p = (none,n):=by
 obtain ⟨o,k⟩:=p
 unfold noR at h
 rw [Bool.and_eq_true,decide_eq_true_eq] at h
 obtain ⟨h1,h2⟩:=h
 cases o with
 | none => simp only at h1; rw [h1]
 | some q => cases h2

end Go.Proofs.YtgdjeddelcfgeaaGreatDoor
namespace Go.Proofs.YtgdjeddelcfgeaaGreatDoor
open Go.RowKit Rul Rt Go.Sort

theorem rowS_take {w : World} {A : Option Addr} {l : List Tx} (h : RowS w A l) (k : Nat) : RowS w A (l.take k):=fun hn => by
 obtain ⟨b,off,e,hl,hc⟩:=h (fun e => hn (by rw [e]; simp))
 refine ⟨b,off,e,hl,fun i hi => ?_⟩
 rw [List.length_take] at hi
 rw [hc i (by omega),List.getElem_take]
theorem hour_ex (w : World) : Calls Tryz.prog 22 #[] w fun x w' => ∃ m,x = .returned (evV hourE m) ∧ EvL w' hourE m ∧ Below w.heap.size w w':=hour_any w
theorem lines6 (m : Mem) (w : World) (h : EvL w hourE m) (ht : Tab w) : Calls Tryz.prog 16 #[evV hourE m] w fun x w' => ∃ A cap,x = .returned (.slice A 6 cap) ∧ 6 ≤ cap ∧ RowS w' A hourL ∧ Below w.heap.size w w':=by
 refine (eLines_any hourE m w h ht).mono ?_
 rintro _ w' ⟨v,rfl,hown,hb⟩
 obtain ⟨A,cap,rfl,hr,hc⟩:=OwnS.row hown
 have h6 : (Ev.linesE unU hourE).length = 6:=hour_lines.1
 rw [h6] at hc ⊢
 exact ⟨A,cap,rfl,hc,hr,hb⟩
theorem hour_small : ∀ p ∈ hourL,p.length ≤ 100:=fun p hp => by simpa using List.all_eq_true.1 hour_lines.2.2 p hp
theorem read7 (A : Option Addr) (n c : Nat) (w : World) (hl : RowS w A (hourL ++ [[120]])) (he : EnvE w) (hn : n = 7) :
  Calls Tryz.prog 20 #[.slice A n c] w fun x w' => ∃ m,x = .returned (.tuple #[evV hourE m,.int .i64 6,.int .i64 0]) ∧ EvL w' hourE m ∧ Below w.heap.size w w':=by
 subst hn
 have h7 : (hourL ++ [[120]]).length = 7:=by rw [List.length_append,hour_lines.1]; rfl
 refine (eRead_any A 7 c (hourL ++ [[120]]) w hl h7.symm (by rw [h7]; decide) (fun p hp => ?_) he).mono ?_
 ·rcases List.mem_append.1 hp with h | h
  ·have:=hour_small p h; omega
  ·rw [List.mem_singleton] at h; subst h; decide
 ·rintro _ w' ⟨hb,h⟩
  rw [okR_is hour_read] at h
  obtain ⟨m,rfl,hn⟩:=h
  exact ⟨m,rfl,hn.lies,hb⟩
theorem read3 (A : Option Addr) (c : Nat) (w : World) (hl : RowS w A hourL) (he : EnvE w) :
  Calls Tryz.prog 20 #[.slice A 3 c] w fun x w' => x = .returned (.tuple #[noEvent,.int .i64 3,.int .i64 14]) ∧ Below w.heap.size w w':=by
 have h3 : (hourL.take 3).length = 3:=by rw [List.length_take,hour_lines.1]; rfl
 refine (eRead_any A 3 c (hourL.take 3) w (rowS_take hl 3) h3.symm (by rw [h3]; decide) (fun p hp => ?_) he).mono ?_
 ·have:=hour_small p (List.mem_of_mem_take hp); omega
 ·rintro _ w' ⟨hb,h⟩
  rw [noR_is hour_three] at h
  exact ⟨h,hb⟩
theorem is_hour (m : Mem) (w : World) (h : EvL w hourE m) : Calls Tryz.prog 11 #[evV hourE m] w (Ans w (.bool true)):=hour_is ▸ eIs_any hourE m w h
theorem is_zero (w : World) : Calls Tryz.prog 11 #[noEvent] w (Ans w (.bool false)):=zero_is ▸ eIs_any ⟨[],[],0,0,[],⟨0,0,0,0,[],[],[]⟩,[]⟩ memB w ⟨fun h => absurd rfl h,by decide,lies_once _,fun h => absurd rfl h,by decide,by decide,by decide⟩

end Go.Proofs.YtgdjeddelcfgeaaGreatDoor

/- BExA; BW12 of the recipes, what is needed of them. -/
import Derived.Maps.AppendAt
import Derived.Test.YtgihekokbgggcaaGreatZBW11
import Derived.Test.YtgihekokbgggcaaGreatZBM3
import Derived.Test.YtgihekokbgggcaaGreatZBDaH
set_option maxHeartbeats 8000000
set_option maxRecDepth 1000000
namespace Go.Proofs.YtgihekokbgggcaaGreat
open Go.RowKit Rul Go.Sort
structure GoesI (v : Value) (w : World) (v' : Value) (w' : World) : Prop where
 grown : w.grownBy w' v.ownBlock
 own : v'.ownBlock = v.ownBlock ∨ ∃ k,v'.ownBlock = some k /\ w.heap.size <= k
theorem GoesI.trans {v1 v2 v3 : Value} {w1 w2 w3 : World} (h : GoesI v1 w1 v2 w2) (k : GoesI v2 w2 v3 w3) : GoesI v1 w1 v3 w3:=by
 obtain ⟨hg,ho⟩:=h
 obtain ⟨kg,ko⟩:=k
 refine ⟨⟨kg.os.trans hg.os,kg.tape.trans hg.tape,kg.output.trans hg.output,Nat.le_trans hg.size kg.size,fun i hi hne => ?_⟩,?_⟩
 ·refine (kg.block i (Nat.lt_of_lt_of_le hi hg.size) ?_).trans (hg.block i hi hne)
  rcases ho with ho | ⟨k,ho,hk⟩
  ·rw [ho]; exact hne
  ·rw [ho]; intro he; injection he with he; omega
 ·rcases ko with ko | ⟨k,ko,hk⟩
  ·rw [ko]; exact ho
  ·exact Or.inr ⟨k,ko,Nat.le_trans hg.size hk⟩
theorem GoesI.below {v : Value} {w w' : World} (h : Below w.heap.size w w') : GoesI v w v w':=⟨⟨h.os,h.tape,h.output,h.size,fun i hi _ => h.block i hi⟩,Or.inl rfl⟩
theorem GoesI.to {v v' : Value} {W w w' : World} {B : Nat} {l : List Int} (h : GoesI v w v' w') (hown : OwnI w B v l) (hb : Below B W w) (hB : B <= w.heap.size) : Below B W w' :=
 hb.grown h.grown hB fun j hj => (hown.lt j hj).1
def ApartI (v : Value) (b : Nat) : Prop:=some b ≠ v.ownBlock
theorem GoesI.apart {v v' : Value} {w w' : World} {b : Nat} (h : GoesI v w v' w') (ha : ApartI v b) (hb : b < w.heap.size) : ApartI v' b:=by
 unfold ApartI at *
 rcases h.own with ho | ⟨k,ho,hk⟩
 ·rw [ho]; exact ha
 ·rw [ho]; intro he; injection he with he; omega
theorem GoesI.row {v v' : Value} {w w' : World} {b o : Nat} {l : List Int} (h : GoesI v w v' w') (ha : ApartI v b) (hr : RowI w (some ⟨b,o,none⟩) l) : RowI w' (some ⟨b,o,none⟩) l:=fun hn => by
 obtain ⟨b2,o2,e,hl,hc⟩:=hr hn
 injection e with e
 injection e with e1 e2
 subst e1 e2
 exact ⟨b,o,rfl,Nat.lt_of_lt_of_le hl h.grown.size,fun i hi => h.grown.cell (hc i hi) ha⟩
theorem apart_of {w w2 : World} {B : Nat} {v : Value} {l k : List Int} {A : Option Addr} {n c : Nat} (h : OwnI w B v l) (h2 : OwnI w2 w.heap.size (.slice A n c) k) : ∀ b o,A = some ⟨b,o,none⟩ -> ApartI v b:=fun b o e he => by
 subst e
 have a:=(h2.lt b rfl).1
 have c:=(h.lt b he.symm).2
 omega
theorem wp_oneJ {ops : Array Oper} {rest : List Oper} {o : Oper} {a : Act} {Q : Exit -> Act -> World -> Prop} {w : World} {B : Nat} {v : Value} {l : List Int} {p : Int} (hgd : o.guard = none) (s x : Operand)
  (ho : o.op = .call { callee:=.builtin .append,args:=#[s,x],argTypes:=#[36,36] }) (hs : a.eval s = v) {N : Nat} (hN : w.heap.size = N) (hx : a.eval x = .slice (some ⟨N,0,none⟩) 1 1)
  (hown : OwnI w B v l) (hB : B <= w.heap.size) (hn : l.length <= 1000000)
  (h : ∀ v' w',OwnI w' B v' (l ++ [p]) -> GoesI v w v' w' -> wpList Tryz.prog ops Q rest (a.put o.dst v') w') :
  wpList Tryz.prog ops Q (o :: rest) a (w.alloc (.cells #[.int .i64 p] 3)):=by
 subst hN
 obtain ⟨i0,hi,hz0,hz1,hz2⟩:=info_parts int_info
 refine wpList_append_own_at _ hgd s x 36 ho B 3 i0 _ 1 8 Tryz.underlying36 hi hz0 hz1 hz2 rfl (by decide) v l.length (cellsI l) hs (hown.alloc _) ⟨w.heap.size,0,none⟩ 1 1 [.int .i64 p] hx rfl ?_ ?_ ?_ ?_ ?_ ?_
 ·intro j u hu
  rw [plus,World.cell?_alloc_at _ _ _ _ rfl]
  exact (by simpa using hu)
 ·intro u hu
  simp only [List.mem_cons,List.not_mem_nil,or_false] at hu
  subst hu; rfl
 ·unfold maxLen; omega
 ·omega
 ·simp only [World.size_alloc]; omega
 ·intro v' w' h2 h3 _ h5
  refine h v' w' (by rw [OwnI,cellsI_append,List.length_append]; exact h2) ((GoesI.below (more (start w) _)).trans ⟨h3,?_⟩)
  rcases h5 with h5 | h5
  ·exact Or.inl h5
  ·exact Or.inr ⟨_,h5,Nat.le_refl _⟩
end Go.Proofs.YtgihekokbgggcaaGreat
namespace Go.Proofs.YtgihekokbgggcaaGreat.R
open Go.RowKit Rul Go.Sort
theorem all_any (fr ev ct un : Int) (D M Y : Option Addr) (dn dc mn mc yn yc : Nat) (ds : List Wd) (ms ys : List Int) (s : Int) (w : World) (h : Lies w D dn M mn Y yn ds ms ys) (hr : recB ⟨fr,ev,ct,un,ds,ms,ys⟩ = true) (h1 : 0 <= s) (h2 : s < 52596000) :
  Calls Tryz.prog 77 #[.agg #[.int .i64 fr,.int .i64 ev,.int .i64 ct,.int .i64 un,.slice D dn dc,.slice M mn mc,.slice Y yn yc],.int .i64 s] w (GivesI w (allL ⟨fr,ev,ct,un,ds,ms,ys⟩ s)):=by
 have t1 : s.tdiv 1440 = s / 1440:=Int.tdiv_eq_ediv_of_nonneg (by omega)
 have t2 : s.tmod 1440 = s % 1440:=Int.tmod_eq_emod_of_nonneg (by omega)
 obtain ⟨day,hday⟩ : ∃ day,s / 1440 = day:=⟨_,rfl⟩
 obtain ⟨at0,hat⟩ : ∃ at0,s % 1440 = at0:=⟨_,rfl⟩
 have hat1 : 0 <= at0 /\ at0 < 1440:=by omega
 have hrng : rngB fr ev ct un = true:=by rw [recB_is,Bool.and_eq_true] at hr; exact hr.1
 rw [rng_iff] at hrng
 obtain ⟨_,_,_,_,ct0,ct1,un0,un1,hcu⟩:=hrng
 have HCU:=hide hcu
 clear hcu
 have HBX:=hide (more (start w) (.cells #[.int .i64 fr,.int .i64 ev,.int .i64 ct,.int .i64 un,.slice D dn dc,.slice M mn mc,.slice Y yn yc] 39))
 have HL:=hide (h.keep HBX.out)
 have hAC : ∀ i v,(#[.int .i64 fr,.int .i64 ev,.int .i64 ct,.int .i64 un,.slice D dn dc,.slice M mn mc,.slice Y yn yc] : Array Value)[i]? = some v -> (w.alloc (.cells #[.int .i64 fr,.int .i64 ev,.int .i64 ct,.int .i64 un,.slice D dn dc,.slice M mn mc,.slice Y yn yc] 39)).cell? ⟨w.heap.size,i,none⟩ = some v:=fun i v h => by rw [World.cell?_alloc_at _ _ _ _ rfl]; exact h
 have s0:=hAC 0 _ rfl
 have s1:=hAC 1 _ rfl
 have s2:=hAC 2 _ rfl
 have s3:=hAC 3 _ rfl
 have s4:=hAC 4 _ rfl
 have s5:=hAC 5 _ rfl
 have s6:=hAC 6 _ rfl
 clear hAC
 clear h hr
 go_enter Tryz.func77,Tryz.ntmps77
 go_wp2_with fail
 generalize (w.alloc (.cells #[.int .i64 fr,.int .i64 ev,.int .i64 ct,.int .i64 un,.slice D dn dc,.slice M mn mc,.slice Y yn yc] 39)) = W at *
 have s0w:=s0
 have s1w:=s1
 have s2w:=s2
 have s3w:=s3
 have s4w:=s4
 have s5w:=s5
 have s6w:=s6
 go_loopw [5,8,9,10,11,12,13,14] (fun v kk _ _ _ _ _ _ wr => ∃ k : Nat,k <= 36525 /\ kk = .int .i64 k /\ OwnI wr W.heap.size v (candT ⟨fr,ev,ct,un,ds,ms,ys⟩ s k) /\ Hid (∀ q ∈ candT ⟨fr,ev,ct,un,ds,ms,ys⟩ s k,keepU ⟨fr,ev,ct,un,ds,ms,ys⟩ q = true) /\ Hid ((candT ⟨fr,ev,ct,un,ds,ms,ys⟩ s k).length <= capN ⟨fr,ev,ct,un,ds,ms,ys⟩) /\ Below W.heap.size W wr) (fun _ kk _ _ _ _ _ _ _ => 36525 - (intOf kk).toNat)
 case atStart => exact ⟨0,Nat.zero_le _,rfl,ownI_nil _ _,hide (fun q hq => by cases hq),hide (Nat.zero_le _),start _⟩
 case round =>
  obtain ⟨k,hk,rfl,hown,HU,HC,hbw⟩:=hrel
  have HO:=hide hown
  have HBR:=hide hbw
  clear hown hbw
  replace HL:=hide (HL.out.keep HBR.out)
  replace s0:=cell_keep HBR.out s0
  replace s1:=cell_keep HBR.out s1
  replace s2:=cell_keep HBR.out s2
  replace s3:=cell_keep HBR.out s3
  replace s4:=cell_keep HBR.out s4
  replace s5:=cell_keep HBR.out s5
  replace s6:=cell_keep HBR.out s6
  cases hK : perK ⟨fr,ev,ct,un,ds,ms,ys⟩ day k
  ·have HE:=hide (all_none ⟨fr,ev,ct,un,ds,ms,ys⟩ s k hk (by rw [hday]; exact hK) HU.out HC.out)
   have HK:=hide hK
   clear hK
   go_wp2_with fail
   refine (period_is fr ev ct un D M Y dn dc mn mc yn yc ds ms ys day k _ _ false _ HL.out rfl rfl HK.out).mono ?_
   rintro e u1 ⟨rfl,hb⟩
   replace HO:=hide (HO.out.keep hb)
   replace HBR:=hide (andthen HBR.out hb)
   replace s0:=cell_keep hb s0
   replace s1:=cell_keep hb s1
   replace s2:=cell_keep hb s2
   replace s3:=cell_keep hb s3
   replace s4:=cell_keep hb s4
   replace s5:=cell_keep hb s5
   replace s6:=cell_keep hb s6
   replace HL:=hide (HL.out.keep hb)
   clear hb
   go_wp2_with fail
   go_ret
   exact ⟨_,rfl,by rw [HE.out]; exact OwnI.low HO.out HBX.out.size,andthen HBX.out HBR.out⟩
  ·have hk2 : k < 36525:=by have:=((perK_iff _ _ _).1 hK).2.2.1; omega
   obtain ⟨a,ha⟩ : ∃ a,perA ⟨fr,ev,ct,un,ds,ms,ys⟩ day k = a:=⟨_,rfl⟩
   obtain ⟨b,hbb⟩ : ∃ b,perB ⟨fr,ev,ct,un,ds,ms,ys⟩ day k = b:=⟨_,rfl⟩
   have pb:=per_bd _ _ _ hK
   rw [ha,hbb] at pb
   have HK:=hide hK
   have HP:=hide (And.intro ha hbb)
   obtain ⟨l,hl⟩ : ∃ l,daysL ⟨fr,ev,ct,un,ds,ms,ys⟩ day k = l:=⟨_,rfl⟩
   have HDL:=hide hl
   clear hK ha hbb hl
   by_cases hun : 0 <= un
   ·by_cases hpa : un < a * 1440
    ·have HE:=hide (all_past ⟨fr,ev,ct,un,ds,ms,ys⟩ s k hk (by rw [hday]; exact HK.out) hun (by rw [hday,HP.out.1]; exact hpa) HU.out HC.out)
     go_wp2_with fail
     refine (period_is fr ev ct un D M Y dn dc mn mc yn yc ds ms ys day k a b true _ HL.out HP.out.1 HP.out.2 HK.out).mono ?_
     rintro e u1 ⟨rfl,hb⟩
     replace HO:=hide (HO.out.keep hb)
     replace HBR:=hide (andthen HBR.out hb)
     replace s0:=cell_keep hb s0
     replace s1:=cell_keep hb s1
     replace s2:=cell_keep hb s2
     replace s3:=cell_keep hb s3
     replace s4:=cell_keep hb s4
     replace s5:=cell_keep hb s5
     replace s6:=cell_keep hb s6
     replace HL:=hide (HL.out.keep hb)
     clear hb
     go_wp2_with fail
     go_ret
     exact ⟨_,rfl,by rw [HE.out]; exact OwnI.low HO.out HBX.out.size,andthen HBX.out HBR.out⟩
    ·skip
     go_wp2_with fail
     refine (period_is fr ev ct un D M Y dn dc mn mc yn yc ds ms ys day k a b true _ HL.out HP.out.1 HP.out.2 HK.out).mono ?_
     rintro e u1 ⟨rfl,hb⟩
     replace HO:=hide (HO.out.keep hb)
     replace HBR:=hide (andthen HBR.out hb)
     replace s0:=cell_keep hb s0
     replace s1:=cell_keep hb s1
     replace s2:=cell_keep hb s2
     replace s3:=cell_keep hb s3
     replace s4:=cell_keep hb s4
     replace s5:=cell_keep hb s5
     replace s6:=cell_keep hb s6
     replace HL:=hide (HL.out.keep hb)
     clear hb
     go_wp2_with fail
     refine (of_any fr ev ct un D M Y dn dc mn mc yn yc ds ms ys day k _ HL.out).mono ?_
     rintro e u2 ⟨v2,rfl,hownl,hb⟩
     rw [HDL.out] at hownl
     obtain ⟨A,cap,rfl,hrow⟩:=hownl.row
     have HA:=hide (apart_of HO.out hownl)
     have LR:=hide hrow
     replace HO:=hide (HO.out.keep hb)
     replace HBR:=hide (andthen HBR.out hb)
     replace s0:=cell_keep hb s0
     replace s1:=cell_keep hb s1
     replace s2:=cell_keep hb s2
     replace s3:=cell_keep hb s3
     replace s4:=cell_keep hb s4
     replace s5:=cell_keep hb s5
     replace s6:=cell_keep hb s6
     replace HL:=hide (HL.out.keep hb)
     clear hb hownl hrow
     go_wp2_with fail
     generalize u2 = U at *
     go_loopw [5,13,14] (fun v ii _ wr => ∃ i : Nat,i <= l.length /\ ii = .int .i64 i /\ OwnI wr W.heap.size v (pre ⟨fr,ev,ct,un,ds,ms,ys⟩ s k i) /\ Hid (∀ q ∈ pre ⟨fr,ev,ct,un,ds,ms,ys⟩ s k i,keepU ⟨fr,ev,ct,un,ds,ms,ys⟩ q = true) /\ Hid ((pre ⟨fr,ev,ct,un,ds,ms,ys⟩ s k i).length <= capN ⟨fr,ev,ct,un,ds,ms,ys⟩) /\ RowI wr A l /\ (∀ b o,A = some ⟨b,o,none⟩ -> ApartI v b) /\ Below W.heap.size W wr) (fun _ ii _ _ => l.length - (intOf ii).toNat)
     case atStart => exact ⟨0,Nat.zero_le _,rfl,by rw [pre_0]; exact HO.out,hide (by rw [pre_0]; exact HU.out),hide (by rw [pre_0]; exact HC.out),LR.out,HA.out,HBR.out⟩
     case round =>
      clear HA LR HO HBR HU HC
      obtain ⟨i,hi,rfl,hown2,HU2,HC2,hlr,hla,hbw2⟩:=hrel
      obtain ⟨A2,cc2,rfl,_⟩:=hown2.row
      have HO2:=hide hown2
      have LR:=hide hlr
      have HA:=hide hla
      have HBR2:=hide hbw2
      clear hown2 hlr hla hbw2
      by_cases hlt : i < l.length
      ·obtain ⟨b1,o1,rfl,hb1,hc1⟩:=LR.out (by intro h0; rw [h0] at hlt; exact absurd hlt (Nat.not_lt_zero _))
       have hil : i < (daysL ⟨fr,ev,ct,un,ds,ms,ys⟩ (s / 1440) k).length:=by rw [hday,HDL.out]; exact hlt
       have hle : (daysL ⟨fr,ev,ct,un,ds,ms,ys⟩ (s / 1440) k)[i] = l[i]:=List.getElem_of_eq (by rw [hday]; exact HDL.out) hil
       have hin:=daysL_in ⟨fr,ev,ct,un,ds,ms,ys⟩ (s / 1440) k i hil
       rw [hle,hday,HP.out.1,HP.out.2] at hin
       obtain ⟨x,hx⟩ : ∃ x,l[i] = x:=⟨_,rfl⟩
       rw [hx] at hin hle
       have p1 : wr.cell? ⟨b1,o1 + i,none⟩ = some (.int .i64 x):=by rw [<- hx]; exact hc1 i hlt
       obtain ⟨hx0,hx1,_⟩:=hin
       obtain ⟨mm,hmm⟩ : ∃ mm,x * 1440 + at0 = mm:=⟨_,rfl⟩
       have HM : Hid ((daysL ⟨fr,ev,ct,un,ds,ms,ys⟩ (s / 1440) k)[i] * 1440 + s % 1440 = mm):=hide (by rw [hle,hat]; exact hmm)
       clear hc1 hx hle
       have hi0 : (0 : Int) <= (i : Int):=by omega
       have hi1 : (i : Int) < (l.length : Int):=by omega
       have hi2 : (i : Int) <= 366:=by have h1:=daysL_len ⟨fr,ev,ct,un,ds,ms,ys⟩ (s / 1440) k; omega
       have s0:=cell_keep HBR2.out s0w
       have s1:=cell_keep HBR2.out s1w
       have s2:=cell_keep HBR2.out s2w
       have s3:=cell_keep HBR2.out s3w
       have s4:=cell_keep HBR2.out s4w
       have s5:=cell_keep HBR2.out s5w
       have s6:=cell_keep HBR2.out s6w
       by_cases hsk : mm < s
       ·have HN:=hide (pre_skip ⟨fr,ev,ct,un,ds,ms,ys⟩ s k i hil (by rw [HM.out]; exact hsk))
        go_wp2_with fail
        go_roundw
        case rel => exact ⟨i + 1,by omega,by go_num,by rw [HN.out]; exact HO2.out,by rw [HN.out]; exact HU2,by rw [HN.out]; exact HC2,LR.out,HA.out,HBR2.out⟩
        case measure => simp [intOf]; omega
       ·by_cases hu2 : un < mm
        ·have HE:=hide (all_until ⟨fr,ev,ct,un,ds,ms,ys⟩ s k i hk2 hil hun (by rw [HM.out]; exact hu2) HU2.out HC2.out)
         go_wp2_with fail
         go_ret
         exact ⟨_,rfl,by rw [HE.out]; exact OwnI.low HO2.out HBX.out.size,andthen HBX.out HBR2.out⟩
        ·have KM:=hide (keepU_hi ⟨fr,ev,ct,un,ds,ms,ys⟩ mm (by show mm <= un; omega))
         by_cases hct : 0 < ct
         ·exfalso
          have:=HCU.out
          omega
         ·have hcap : capN ⟨fr,ev,ct,un,ds,ms,ys⟩ = 41:=capN_0 ⟨fr,ev,ct,un,ds,ms,ys⟩ hct
          have hC:=HC2.out
          rw [hcap] at hC
          by_cases hq : 40 < ((pre ⟨fr,ev,ct,un,ds,ms,ys⟩ s k i).length : Int)
          ·have HE:=hide (all_full ⟨fr,ev,ct,un,ds,ms,ys⟩ s k i hk2 hil HU2.out (by rw [hcap]; omega))
           clear hC hcap
           go_wp2_with fail
           go_ret
           exact ⟨_,rfl,by rw [HE.out]; exact OwnI.low HO2.out HBX.out.size,andthen HBX.out HBR2.out⟩
          ·have HC4 : Hid (((pre ⟨fr,ev,ct,un,ds,ms,ys⟩ s k i).length) + 1 <= capN ⟨fr,ev,ct,un,ds,ms,ys⟩):=hide (by rw [hcap]; omega)
           clear hC hcap
           have HN:=hide (pre_step ⟨fr,ev,ct,un,ds,ms,ys⟩ s k i hil (by rw [HM.out]; omega))
           rw [HM.out] at HN
           have hsz:=HBR2.out.size
           have hown:=HO2.out
           have hln : (pre ⟨fr,ev,ct,un,ds,ms,ys⟩ s k i).length <= 1000000:=by omega
           go_wp2_with (at_builtin; refine wp_oneJ (l:=pre ⟨fr,ev,ct,un,ds,ms,ys⟩ s k i) (p:=mm) rfl _ _ rfl rfl rfl rfl hown hsz hln ?_; intro v3 w3 hown3 hgo3)
           have HO3:=hide hown3
           have HG3:=hide hgo3
           have HB3:=hide (hgo3.to hown HBR2.out hsz)
           have HA3:=hide (hgo3.apart (HA.out b1 o1 rfl) hb1)
           have LR3:=hide (hgo3.row (HA.out b1 o1 rfl) LR.out)
           clear hown hown3 hgo3 hsz hln
           go_wp2_with fail
           go_roundw
           case rel => exact ⟨i + 1,by omega,by go_num,by rw [HN.out]; exact HO3.out,hide (by rw [HN.out]; intro q hq; rcases List.mem_append.1 hq with g | g; exact HU2.out q g; rw [List.mem_singleton] at g; subst g; exact KM.out),hide (by rw [HN.out,List.length_append]; show _ + 1 <= _; have:=HC4.out; omega),LR3.out,(fun b o e => by injection e with e; injection e with e1 e2; subst e1; exact HA3.out),HB3.out⟩
           case measure => simp [intOf]; omega
      ·obtain rfl : i = l.length:=by omega
       have HN:=hide (pre_end ⟨fr,ev,ct,un,ds,ms,ys⟩ s k l.length (by rw [hday,HDL.out]))
       go_wp2_with fail
       go_roundw
       case rel => exact ⟨k + 1,by omega,by go_num,by rw [<- HN.out]; exact HO2.out,hide (by rw [<- HN.out]; exact HU2.out),hide (by rw [<- HN.out]; exact HC2.out),HBR2.out⟩
       case measure => simp [intOf]; omega
   ·have hun : un < 0:=by omega
    go_wp2_with fail
    refine (period_is fr ev ct un D M Y dn dc mn mc yn yc ds ms ys day k a b true _ HL.out HP.out.1 HP.out.2 HK.out).mono ?_
    rintro e u1 ⟨rfl,hb⟩
    replace HO:=hide (HO.out.keep hb)
    replace HBR:=hide (andthen HBR.out hb)
    replace s0:=cell_keep hb s0
    replace s1:=cell_keep hb s1
    replace s2:=cell_keep hb s2
    replace s3:=cell_keep hb s3
    replace s4:=cell_keep hb s4
    replace s5:=cell_keep hb s5
    replace s6:=cell_keep hb s6
    replace HL:=hide (HL.out.keep hb)
    clear hb
    go_wp2_with fail
    refine (of_any fr ev ct un D M Y dn dc mn mc yn yc ds ms ys day k _ HL.out).mono ?_
    rintro e u2 ⟨v2,rfl,hownl,hb⟩
    rw [HDL.out] at hownl
    obtain ⟨A,cap,rfl,hrow⟩:=hownl.row
    have HA:=hide (apart_of HO.out hownl)
    have LR:=hide hrow
    replace HO:=hide (HO.out.keep hb)
    replace HBR:=hide (andthen HBR.out hb)
    replace s0:=cell_keep hb s0
    replace s1:=cell_keep hb s1
    replace s2:=cell_keep hb s2
    replace s3:=cell_keep hb s3
    replace s4:=cell_keep hb s4
    replace s5:=cell_keep hb s5
    replace s6:=cell_keep hb s6
    replace HL:=hide (HL.out.keep hb)
    clear hb hownl hrow
    go_wp2_with fail
    generalize u2 = U at *
    go_loopw [5,13,14] (fun v ii _ wr => ∃ i : Nat,i <= l.length /\ ii = .int .i64 i /\ OwnI wr W.heap.size v (pre ⟨fr,ev,ct,un,ds,ms,ys⟩ s k i) /\ Hid (∀ q ∈ pre ⟨fr,ev,ct,un,ds,ms,ys⟩ s k i,keepU ⟨fr,ev,ct,un,ds,ms,ys⟩ q = true) /\ Hid ((pre ⟨fr,ev,ct,un,ds,ms,ys⟩ s k i).length <= capN ⟨fr,ev,ct,un,ds,ms,ys⟩) /\ RowI wr A l /\ (∀ b o,A = some ⟨b,o,none⟩ -> ApartI v b) /\ Below W.heap.size W wr) (fun _ ii _ _ => l.length - (intOf ii).toNat)
    case atStart => exact ⟨0,Nat.zero_le _,rfl,by rw [pre_0]; exact HO.out,hide (by rw [pre_0]; exact HU.out),hide (by rw [pre_0]; exact HC.out),LR.out,HA.out,HBR.out⟩
    case round =>
     clear HA LR HO HBR HU HC
     obtain ⟨i,hi,rfl,hown2,HU2,HC2,hlr,hla,hbw2⟩:=hrel
     obtain ⟨A2,cc2,rfl,_⟩:=hown2.row
     have HO2:=hide hown2
     have LR:=hide hlr
     have HA:=hide hla
     have HBR2:=hide hbw2
     clear hown2 hlr hla hbw2
     by_cases hlt : i < l.length
     ·obtain ⟨b1,o1,rfl,hb1,hc1⟩:=LR.out (by intro h0; rw [h0] at hlt; exact absurd hlt (Nat.not_lt_zero _))
      have hil : i < (daysL ⟨fr,ev,ct,un,ds,ms,ys⟩ (s / 1440) k).length:=by rw [hday,HDL.out]; exact hlt
      have hle : (daysL ⟨fr,ev,ct,un,ds,ms,ys⟩ (s / 1440) k)[i] = l[i]:=List.getElem_of_eq (by rw [hday]; exact HDL.out) hil
      have hin:=daysL_in ⟨fr,ev,ct,un,ds,ms,ys⟩ (s / 1440) k i hil
      rw [hle,hday,HP.out.1,HP.out.2] at hin
      obtain ⟨x,hx⟩ : ∃ x,l[i] = x:=⟨_,rfl⟩
      rw [hx] at hin hle
      have p1 : wr.cell? ⟨b1,o1 + i,none⟩ = some (.int .i64 x):=by rw [<- hx]; exact hc1 i hlt
      obtain ⟨hx0,hx1,_⟩:=hin
      obtain ⟨mm,hmm⟩ : ∃ mm,x * 1440 + at0 = mm:=⟨_,rfl⟩
      have HM : Hid ((daysL ⟨fr,ev,ct,un,ds,ms,ys⟩ (s / 1440) k)[i] * 1440 + s % 1440 = mm):=hide (by rw [hle,hat]; exact hmm)
      clear hc1 hx hle
      have hi0 : (0 : Int) <= (i : Int):=by omega
      have hi1 : (i : Int) < (l.length : Int):=by omega
      have hi2 : (i : Int) <= 366:=by have h1:=daysL_len ⟨fr,ev,ct,un,ds,ms,ys⟩ (s / 1440) k; omega
      have s0:=cell_keep HBR2.out s0w
      have s1:=cell_keep HBR2.out s1w
      have s2:=cell_keep HBR2.out s2w
      have s3:=cell_keep HBR2.out s3w
      have s4:=cell_keep HBR2.out s4w
      have s5:=cell_keep HBR2.out s5w
      have s6:=cell_keep HBR2.out s6w
      by_cases hsk : mm < s
      ·have HN:=hide (pre_skip ⟨fr,ev,ct,un,ds,ms,ys⟩ s k i hil (by rw [HM.out]; exact hsk))
       go_wp2_with fail
       go_roundw
       case rel => exact ⟨i + 1,by omega,by go_num,by rw [HN.out]; exact HO2.out,by rw [HN.out]; exact HU2,by rw [HN.out]; exact HC2,LR.out,HA.out,HBR2.out⟩
       case measure => simp [intOf]; omega
      ·have KM:=hide (keepU_lo ⟨fr,ev,ct,un,ds,ms,ys⟩ mm hun)
       by_cases hct : 0 < ct
       ·have hcap : capN ⟨fr,ev,ct,un,ds,ms,ys⟩ = ct.toNat:=capN_ct ⟨fr,ev,ct,un,ds,ms,ys⟩ hct
        have hC:=HC2.out
        rw [hcap] at hC
        by_cases hq : ((pre ⟨fr,ev,ct,un,ds,ms,ys⟩ s k i).length : Int) = ct
        ·have HE:=hide (all_full ⟨fr,ev,ct,un,ds,ms,ys⟩ s k i hk2 hil HU2.out (by rw [hcap]; omega))
         have gq : (((pre ⟨fr,ev,ct,un,ds,ms,ys⟩ s k i).length : Int) == ct) = true:=by rw [beq_iff_eq]; exact hq
         clear hq hC hcap
         go_wp2_with fail
         go_ret
         exact ⟨_,rfl,by rw [HE.out]; exact OwnI.low HO2.out HBX.out.size,andthen HBX.out HBR2.out⟩
        ·have gq : (((pre ⟨fr,ev,ct,un,ds,ms,ys⟩ s k i).length : Int) == ct) = false:=by rw [beq_eq_false_iff_ne]; exact hq
         have g40 : ((pre ⟨fr,ev,ct,un,ds,ms,ys⟩ s k i).length : Int) <= 40:=by omega
         have HC4 : Hid (((pre ⟨fr,ev,ct,un,ds,ms,ys⟩ s k i).length) + 1 <= capN ⟨fr,ev,ct,un,ds,ms,ys⟩):=hide (by rw [hcap]; omega)
         clear hq hC hcap
         have HN:=hide (pre_step ⟨fr,ev,ct,un,ds,ms,ys⟩ s k i hil (by rw [HM.out]; omega))
         rw [HM.out] at HN
         have hsz:=HBR2.out.size
         have hown:=HO2.out
         have hln : (pre ⟨fr,ev,ct,un,ds,ms,ys⟩ s k i).length <= 1000000:=by omega
         go_wp2_with (at_builtin; refine wp_oneJ (l:=pre ⟨fr,ev,ct,un,ds,ms,ys⟩ s k i) (p:=mm) rfl _ _ rfl rfl rfl rfl hown hsz hln ?_; intro v3 w3 hown3 hgo3)
         have HO3:=hide hown3
         have HG3:=hide hgo3
         have HB3:=hide (hgo3.to hown HBR2.out hsz)
         have HA3:=hide (hgo3.apart (HA.out b1 o1 rfl) hb1)
         have LR3:=hide (hgo3.row (HA.out b1 o1 rfl) LR.out)
         clear hown hown3 hgo3 hsz hln
         go_wp2_with fail
         go_roundw
         case rel => exact ⟨i + 1,by omega,by go_num,by rw [HN.out]; exact HO3.out,hide (by rw [HN.out]; intro q hq; rcases List.mem_append.1 hq with g | g; exact HU2.out q g; rw [List.mem_singleton] at g; subst g; exact KM.out),hide (by rw [HN.out,List.length_append]; show _ + 1 <= _; have:=HC4.out; omega),LR3.out,(fun b o e => by injection e with e; injection e with e1 e2; subst e1; exact HA3.out),HB3.out⟩
         case measure => simp [intOf]; omega
       ·have hcap : capN ⟨fr,ev,ct,un,ds,ms,ys⟩ = 41:=capN_0 ⟨fr,ev,ct,un,ds,ms,ys⟩ hct
        have hC:=HC2.out
        rw [hcap] at hC
        by_cases hq : 40 < ((pre ⟨fr,ev,ct,un,ds,ms,ys⟩ s k i).length : Int)
        ·have HE:=hide (all_full ⟨fr,ev,ct,un,ds,ms,ys⟩ s k i hk2 hil HU2.out (by rw [hcap]; omega))
         clear hC hcap
         go_wp2_with fail
         go_ret
         exact ⟨_,rfl,by rw [HE.out]; exact OwnI.low HO2.out HBX.out.size,andthen HBX.out HBR2.out⟩
        ·have HC4 : Hid (((pre ⟨fr,ev,ct,un,ds,ms,ys⟩ s k i).length) + 1 <= capN ⟨fr,ev,ct,un,ds,ms,ys⟩):=hide (by rw [hcap]; omega)
         clear hC hcap
         have HN:=hide (pre_step ⟨fr,ev,ct,un,ds,ms,ys⟩ s k i hil (by rw [HM.out]; omega))
         rw [HM.out] at HN
         have hsz:=HBR2.out.size
         have hown:=HO2.out
         have hln : (pre ⟨fr,ev,ct,un,ds,ms,ys⟩ s k i).length <= 1000000:=by omega
         go_wp2_with (at_builtin; refine wp_oneJ (l:=pre ⟨fr,ev,ct,un,ds,ms,ys⟩ s k i) (p:=mm) rfl _ _ rfl rfl rfl rfl hown hsz hln ?_; intro v3 w3 hown3 hgo3)
         have HO3:=hide hown3
         have HG3:=hide hgo3
         have HB3:=hide (hgo3.to hown HBR2.out hsz)
         have HA3:=hide (hgo3.apart (HA.out b1 o1 rfl) hb1)
         have LR3:=hide (hgo3.row (HA.out b1 o1 rfl) LR.out)
         clear hown hown3 hgo3 hsz hln
         go_wp2_with fail
         go_roundw
         case rel => exact ⟨i + 1,by omega,by go_num,by rw [HN.out]; exact HO3.out,hide (by rw [HN.out]; intro q hq; rcases List.mem_append.1 hq with g | g; exact HU2.out q g; rw [List.mem_singleton] at g; subst g; exact KM.out),hide (by rw [HN.out,List.length_append]; show _ + 1 <= _; have:=HC4.out; omega),LR3.out,(fun b o e => by injection e with e; injection e with e1 e2; subst e1; exact HA3.out),HB3.out⟩
         case measure => simp [intOf]; omega
     ·obtain rfl : i = l.length:=by omega
      have HN:=hide (pre_end ⟨fr,ev,ct,un,ds,ms,ys⟩ s k l.length (by rw [hday,HDL.out]))
      go_wp2_with fail
      go_roundw
      case rel => exact ⟨k + 1,by omega,by go_num,by rw [<- HN.out]; exact HO2.out,hide (by rw [<- HN.out]; exact HU2.out),hide (by rw [<- HN.out]; exact HC2.out),HBR2.out⟩
      case measure => simp [intOf]; omega
end Go.Proofs.YtgihekokbgggcaaGreat.R
namespace Go.Proofs.YtgihekokbgggcaaGreat.R
open Go.RowKit Rul Go.Sort
def GivesE (w : World) (x : List Int × Int) (e : Ending) (w' : World) : Prop:=∃ v,e = .returned (.tuple #[v,.int .i64 x.2]) /\ OwnI w' w.heap.size v x.1 /\ Below w.heap.size w w'
theorem gives_e {w w' : World} {x : List Int × Int} {l : List Int} {n : Int} {v : Value} {e : Ending} (hx : x = (l,n)) (he : e = .returned (.tuple #[v,.int .i64 n])) (ho : OwnI w' w.heap.size v l) (hb : Below w.heap.size w w') : GivesE w x e w':=by
 subst hx; exact ⟨v,he,ho,hb⟩
theorem row_one (w : World) (s : Int) : RowI (w.alloc (.cells #[.int .i64 s] 3)) (some ⟨w.heap.size,0,none⟩) [s]:=fun _ =>
 ⟨w.heap.size,0,rfl,by simp,fun i hi => by
  obtain rfl : i = 0:=by simpa using hi
  rw [World.cell?_alloc_at _ _ _ _ rfl]; rfl⟩
theorem starts_12 (r : Rul.T) (s : Int) (ex : List Int) (h : isB r = false) : startsE r s ex = ([],12):=by unfold startsE; rw [if_pos h]
theorem starts_10 (r : Rul.T) (s : Int) (ex : List Int) (h : isB r = true) (hs : s < 0 ∨ 52596000 <= s) : startsE r s ex = ([],10):=by unfold startsE; rw [if_neg (by rw [h]; simp),if_pos hs]
theorem starts_13 (r : Rul.T) (s : Int) (ex L : List Int) (h : isB r = true) (h1 : 0 <= s) (h2 : s < 52596000) (hL : (if r.fr = 0 then [s] else allL r s) = L) (hl : 40 < L.length) : startsE r s ex = ([],13):=by
 unfold startsE; rw [if_neg (by rw [h]; simp),if_neg (by omega),hL,if_pos hl]
theorem starts_at (r : Rul.T) (s : Int) (ex L : List Int) (h : isB r = true) (h1 : 0 <= s) (h2 : s < 52596000) (hL : (if r.fr = 0 then [s] else allL r s) = L) (hl : ¬ 40 < L.length) :
  (L.filter (fun m => !outB ex m) = [] -> startsE r s ex = ([],23)) /\ (L.filter (fun m => !outB ex m) ≠ [] -> startsE r s ex = (L.filter (fun m => !outB ex m),0)):=by
 unfold startsE; rw [if_neg (by rw [h]; simp),if_neg (by omega),hL,if_neg hl]
 exact ⟨fun g => by rw [if_pos g],fun g => by rw [if_neg g]⟩
theorem starts_any (fr ev ct un : Int) (D M Y : Option Addr) (dn dc mn mc yn yc : Nat) (ds : List Wd) (ms ys : List Int) (s : Int) (X : Option Addr) (xn xc : Nat) (ex : List Int) (w : World) (h : Lies w D dn M mn Y yn ds ms ys) (hx : RowI w X ex) (hxn : xn = ex.length) (hxl : ex.length <= 1000) :
  Calls Tryz.prog 56 #[.agg #[.int .i64 fr,.int .i64 ev,.int .i64 ct,.int .i64 un,.slice D dn dc,.slice M mn mc,.slice Y yn yc],.int .i64 s,.slice X xn xc] w (GivesE w (startsE ⟨fr,ev,ct,un,ds,ms,ys⟩ s ex)):=by
 have HBX:=hide (more (start w) (.cells #[.int .i64 fr,.int .i64 ev,.int .i64 ct,.int .i64 un,.slice D dn dc,.slice M mn mc,.slice Y yn yc] 39))
 have HL:=hide (h.keep HBX.out)
 have HX:=hide (hx.keep HBX.out)
 have hAC : ∀ i v,(#[.int .i64 fr,.int .i64 ev,.int .i64 ct,.int .i64 un,.slice D dn dc,.slice M mn mc,.slice Y yn yc] : Array Value)[i]? = some v -> (w.alloc (.cells #[.int .i64 fr,.int .i64 ev,.int .i64 ct,.int .i64 un,.slice D dn dc,.slice M mn mc,.slice Y yn yc] 39)).cell? ⟨w.heap.size,i,none⟩ = some v:=fun i v h => by rw [World.cell?_alloc_at _ _ _ _ rfl]; exact h
 have s0:=hAC 0 _ rfl
 have s1:=hAC 1 _ rfl
 have s2:=hAC 2 _ rfl
 have s3:=hAC 3 _ rfl
 have s4:=hAC 4 _ rfl
 have s5:=hAC 5 _ rfl
 have s6:=hAC 6 _ rfl
 clear hAC
 have HXN:=hide hxn
 clear h hx hxn
 cases hi : isB ⟨fr,ev,ct,un,ds,ms,ys⟩
 ·have HE:=hide (starts_12 ⟨fr,ev,ct,un,ds,ms,ys⟩ s ex hi)
  have HI:=hide hi
  clear hi
  go_enter Tryz.func56,Tryz.ntmps56
  go_wp2_with fail
  generalize (w.alloc (.cells #[.int .i64 fr,.int .i64 ev,.int .i64 ct,.int .i64 un,.slice D dn dc,.slice M mn mc,.slice Y yn yc] 39)) = W at *
  refine (ans_is (is_any fr ev ct un D M Y dn dc mn mc yn yc ds ms ys _ HL.out) HI.out).mono ?_
  rintro e u1 ⟨rfl,hb⟩
  replace HBX:=hide (andthen HBX.out hb)
  replace HL:=hide (HL.out.keep hb)
  replace s0:=cell_keep hb s0
  replace s1:=cell_keep hb s1
  replace s2:=cell_keep hb s2
  replace s3:=cell_keep hb s3
  replace s4:=cell_keep hb s4
  replace s5:=cell_keep hb s5
  replace s6:=cell_keep hb s6
  replace HX:=hide (HX.out.keep hb)
  clear hb
  go_wp2_with fail
  go_ret2
  exact gives_e HE.out rfl (ownI_nil _ _) HBX.out
 have HI:=hide hi
 by_cases hs1 : s < 0
 ·have HE:=hide (starts_10 ⟨fr,ev,ct,un,ds,ms,ys⟩ s ex hi (Or.inl hs1))
  clear hi
  go_enter Tryz.func56,Tryz.ntmps56
  go_wp2_with fail
  generalize (w.alloc (.cells #[.int .i64 fr,.int .i64 ev,.int .i64 ct,.int .i64 un,.slice D dn dc,.slice M mn mc,.slice Y yn yc] 39)) = W at *
  refine (ans_is (is_any fr ev ct un D M Y dn dc mn mc yn yc ds ms ys _ HL.out) HI.out).mono ?_
  rintro e u1 ⟨rfl,hb⟩
  replace HBX:=hide (andthen HBX.out hb)
  replace HL:=hide (HL.out.keep hb)
  replace s0:=cell_keep hb s0
  replace s1:=cell_keep hb s1
  replace s2:=cell_keep hb s2
  replace s3:=cell_keep hb s3
  replace s4:=cell_keep hb s4
  replace s5:=cell_keep hb s5
  replace s6:=cell_keep hb s6
  replace HX:=hide (HX.out.keep hb)
  clear hb
  go_wp2_with fail
  go_ret2
  exact gives_e HE.out rfl (ownI_nil _ _) HBX.out
 by_cases hs2 : 52596000 <= s
 ·have HE:=hide (starts_10 ⟨fr,ev,ct,un,ds,ms,ys⟩ s ex hi (Or.inr hs2))
  clear hi
  go_enter Tryz.func56,Tryz.ntmps56
  go_wp2_with fail
  generalize (w.alloc (.cells #[.int .i64 fr,.int .i64 ev,.int .i64 ct,.int .i64 un,.slice D dn dc,.slice M mn mc,.slice Y yn yc] 39)) = W at *
  refine (ans_is (is_any fr ev ct un D M Y dn dc mn mc yn yc ds ms ys _ HL.out) HI.out).mono ?_
  rintro e u1 ⟨rfl,hb⟩
  replace HBX:=hide (andthen HBX.out hb)
  replace HL:=hide (HL.out.keep hb)
  replace s0:=cell_keep hb s0
  replace s1:=cell_keep hb s1
  replace s2:=cell_keep hb s2
  replace s3:=cell_keep hb s3
  replace s4:=cell_keep hb s4
  replace s5:=cell_keep hb s5
  replace s6:=cell_keep hb s6
  replace HX:=hide (HX.out.keep hb)
  clear hb
  go_wp2_with fail
  go_ret2
  exact gives_e HE.out rfl (ownI_nil _ _) HBX.out
 replace hs1 : 0 <= s:=by omega
 replace hs2 : s < 52596000:=by omega
 by_cases h0 : fr = 0
 ·have HS:=hide (starts_at ⟨fr,ev,ct,un,ds,ms,ys⟩ s ex [s] hi hs1 hs2 (by show (if fr = 0 then _ else _) = _; rw [if_pos h0]) (by simp))
  have f0 : (fr != 0) = false:=by rw [h0]; rfl
  have HLL : Hid ([s].length <= 41):=hide (by simp)
  clear hi h0
  go_enter Tryz.func56,Tryz.ntmps56
  go_wp2_with fail
  generalize (w.alloc (.cells #[.int .i64 fr,.int .i64 ev,.int .i64 ct,.int .i64 un,.slice D dn dc,.slice M mn mc,.slice Y yn yc] 39)) = W at *
  refine (ans_is (is_any fr ev ct un D M Y dn dc mn mc yn yc ds ms ys _ HL.out) HI.out).mono ?_
  rintro e u1 ⟨rfl,hb⟩
  replace HBX:=hide (andthen HBX.out hb)
  replace HL:=hide (HL.out.keep hb)
  replace s0:=cell_keep hb s0
  replace s1:=cell_keep hb s1
  replace s2:=cell_keep hb s2
  replace s3:=cell_keep hb s3
  replace s4:=cell_keep hb s4
  replace s5:=cell_keep hb s5
  replace s6:=cell_keep hb s6
  replace HX:=hide (HX.out.keep hb)
  clear hb
  have hs0 : w.heap.size < u1.heap.size:=block_lt_of_cell s0
  have hb:=more (start u1) (.cells #[.int .i64 s] 3)
  have HR : Hid (RowI (u1.alloc (.cells #[.int .i64 s] 3)) (some ⟨u1.heap.size,0,none⟩) [s]):=hide (row_one u1 s)
  replace HX:=hide (HX.out.keep hb)
  replace HBX:=hide (andthen HBX.out hb)
  replace s0:=cell_keep hb s0
  replace s1:=cell_keep hb s1
  replace s2:=cell_keep hb s2
  replace s3:=cell_keep hb s3
  replace s4:=cell_keep hb s4
  replace s5:=cell_keep hb s5
  replace s6:=cell_keep hb s6
  replace HL:=hide (HL.out.keep hb)
  clear hb
  go_wp2_with fail
  generalize (u1.alloc (.cells #[.int .i64 s] 3)) = U at *
  generalize u1.heap.size = XL at *
  go_loopw [9,10] (fun v i wr => ∃ j : Nat,j <= 1 /\ i = .int .i64 j /\ OwnI wr U.heap.size v (([s].take j).filter (fun m => !outB ex m)) /\ Below U.heap.size U wr) (fun _ i _ => 1 - (intOf i).toNat)
  case atStart => exact ⟨0,Nat.zero_le _,rfl,ownI_nil _ _,start _⟩
  case round =>
   obtain ⟨j,hj,rfl,hown,hbw⟩:=hrel
   have HO:=hide hown
   have HBR:=hide hbw
   clear hown hbw
   by_cases hlt : j < 1
   ·obtain rfl : j = 0:=by omega
    obtain ⟨b1,o1,he,hb1,hc1⟩:=HR.out (by simp)
    injection he with he
    injection he with he1 he2
    subst he1 he2
    obtain ⟨m,hm⟩ : ∃ m,s = m:=⟨_,rfl⟩
    have p1 : wr.cell? ⟨XL,0,none⟩ = some (.int .i64 m):=by rw [<- hm]; exact (HBR.out.cell (p:=⟨XL,_,none⟩) hb1).trans (hc1 0 (by simp))
    have HX2:=hide (HX.out.keep HBR.out)
    clear hc1
    cases ho : outB ex m
    ·have HN:=hide (filt_yes (fun m => !outB ex m) [s] 0 (by simp) (by show (!outB ex s) = _; rw [hm,ho]; rfl))
     rw [show [s][0] = m from hm] at HN
     have HOU:=hide ho
     clear ho hm
     go_wp2_with fail
     refine (ans_is (in_any X xn xc ex m _ HX2.out HXN.out (by omega)) HOU.out).mono ?_
     rintro e v1 ⟨rfl,hb⟩
     replace HO:=hide (HO.out.keep hb)
     replace HBR:=hide (andthen HBR.out hb)
     have p2:=cell_keep hb p1
     clear hb p1
     have hsz:=HBR.out.size
     have hown:=HO.out
     have hln : (([s].take 0).filter (fun m => !outB ex m)).length <= 1000000:=Nat.le_trans (List.length_filter_le _ _) (Nat.le_trans (List.length_take_le _ _) (by omega))
     go_wp2_with (at_builtin; refine wp_oneI (l:=([s].take 0).filter (fun m => !outB ex m)) (p:=m) rfl _ _ rfl rfl rfl rfl hown hsz hln ?_; intro v3 w3 hown3 hb3)
     have HO3:=hide hown3
     have HB3:=hide (HBR.out.trans hb3)
     clear hown hown3 hb3 hsz hln
     go_wp2_with fail
     go_roundw
     case rel => exact ⟨1,by omega,by go_num,by rw [HN.out]; exact HO3.out,HB3.out⟩
     case measure => simp [intOf]
    ·have HN:=hide (filt_no (fun m => !outB ex m) [s] 0 (by simp) (by show (!outB ex s) = _; rw [hm,ho]; rfl))
     have HOU:=hide ho
     clear ho hm
     go_wp2_with fail
     refine (ans_is (in_any X xn xc ex m _ HX2.out HXN.out (by omega)) HOU.out).mono ?_
     rintro e v1 ⟨rfl,hb⟩
     replace HO:=hide (HO.out.keep hb)
     replace HBR:=hide (andthen HBR.out hb)
     clear hb p1
     go_wp2_with fail
     go_roundw
     case rel => exact ⟨1,by omega,by go_num,by rw [HN.out]; exact HO.out,HBR.out⟩
     case measure => simp [intOf]
   ·obtain rfl : j = 1:=by omega
    rw [show [s].take 1 = [s] from rfl] at HO
    obtain ⟨A3,c3,rfl,_⟩:=HO.out.row
    by_cases hz : ([s].filter (fun m => !outB ex m)).length = 0
    ·have HE:=hide (HS.out.1 (List.eq_nil_of_length_eq_zero hz))
     have gz : ((([s].filter (fun m => !outB ex m)).length : Int) == 0) = true:=by rw [beq_iff_eq]; omega
     have gz2 : (([s].filter (fun m => !outB ex m)).length == 0) = true:=by rw [beq_iff_eq]; exact hz
     clear hz
     go_wp2_with fail
     go_ret2
     exact gives_e HE.out rfl (ownI_nil _ _) (andthen HBX.out HBR.out)
    ·have HE:=hide (HS.out.2 (by intro hc; rw [hc] at hz; exact hz rfl))
     have gz : ((([s].filter (fun m => !outB ex m)).length : Int) == 0) = false:=by rw [beq_eq_false_iff_ne]; omega
     have gz2 : (([s].filter (fun m => !outB ex m)).length == 0) = false:=by rw [beq_eq_false_iff_ne]; exact hz
     clear hz
     go_wp2_with fail
     go_ret2
     exact gives_e HE.out rfl (OwnI.low HO.out HBX.out.size) (andthen HBX.out HBR.out)
 ·have hr:=isB_rec _ hi h0
  have HRC:=hide hr
  obtain ⟨L,hL⟩ : ∃ L,allL ⟨fr,ev,ct,un,ds,ms,ys⟩ s = L:=⟨_,rfl⟩
  have HAL:=hide hL
  have hLL : L.length <= 41:=by
   have a:=allL_len ⟨fr,ev,ct,un,ds,ms,ys⟩ s
   rw [hL] at a
   have b : capN ⟨fr,ev,ct,un,ds,ms,ys⟩ <= 41:=by
    have hrng : rngB fr ev ct un = true:=by rw [recB_is,Bool.and_eq_true] at hr; exact hr.1
    rw [rng_iff] at hrng
    unfold capN
    show (if 0 < ct then ct.toNat else 41) <= 41
    split <;> omega
   omega
  have HLL:=hide hLL
  have hLe : (if fr = 0 then [s] else allL ⟨fr,ev,ct,un,ds,ms,ys⟩ s) = L:=by rw [if_neg h0]; exact hL
  have f0 : (fr != 0) = true:=by rw [bne_iff_ne]; exact h0
  by_cases hl : 40 < L.length
  ·have HE:=hide (starts_13 ⟨fr,ev,ct,un,ds,ms,ys⟩ s ex L hi hs1 hs2 hLe hl)
   have gl : (40 : Int) < (L.length : Int):=by omega
   clear hi h0 hr hL hLe hLL
   go_enter Tryz.func56,Tryz.ntmps56
   go_wp2_with fail
   generalize (w.alloc (.cells #[.int .i64 fr,.int .i64 ev,.int .i64 ct,.int .i64 un,.slice D dn dc,.slice M mn mc,.slice Y yn yc] 39)) = W at *
   refine (ans_is (is_any fr ev ct un D M Y dn dc mn mc yn yc ds ms ys _ HL.out) HI.out).mono ?_
   rintro e u1 ⟨rfl,hb⟩
   replace HBX:=hide (andthen HBX.out hb)
   replace HL:=hide (HL.out.keep hb)
   replace s0:=cell_keep hb s0
   replace s1:=cell_keep hb s1
   replace s2:=cell_keep hb s2
   replace s3:=cell_keep hb s3
   replace s4:=cell_keep hb s4
   replace s5:=cell_keep hb s5
   replace s6:=cell_keep hb s6
   replace HX:=hide (HX.out.keep hb)
   clear hb
   have hs0 : w.heap.size < u1.heap.size:=block_lt_of_cell s0
   have hb:=more (start u1) (.cells #[.int .i64 s] 3)
   replace HX:=hide (HX.out.keep hb)
   replace HBX:=hide (andthen HBX.out hb)
   replace s0:=cell_keep hb s0
   replace s1:=cell_keep hb s1
   replace s2:=cell_keep hb s2
   replace s3:=cell_keep hb s3
   replace s4:=cell_keep hb s4
   replace s5:=cell_keep hb s5
   replace s6:=cell_keep hb s6
   replace HL:=hide (HL.out.keep hb)
   clear hb
   go_wp2_with fail
   generalize (u1.alloc (.cells #[.int .i64 s] 3)) = W1 at *
   refine (all_any fr ev ct un D M Y dn dc mn mc yn yc ds ms ys s _ HL.out HRC.out hs1 hs2).mono ?_
   rintro e u2 ⟨v2,rfl,hown,hb⟩
   rw [HAL.out] at hown
   obtain ⟨A,cap,rfl,hrow⟩:=hown.row
   have HR:=hide hrow
   replace HX:=hide (HX.out.keep hb)
   replace HBX:=hide (andthen HBX.out hb)
   clear hb hown hrow
   go_wp2_with fail
   go_ret2
   exact gives_e HE.out rfl (ownI_nil _ _) HBX.out
  ·have HS:=hide (starts_at ⟨fr,ev,ct,un,ds,ms,ys⟩ s ex L hi hs1 hs2 hLe hl)
   have gl : (L.length : Int) <= 40:=by omega
   clear hi h0 hr hL hLe hLL hl
   go_enter Tryz.func56,Tryz.ntmps56
   go_wp2_with fail
   generalize (w.alloc (.cells #[.int .i64 fr,.int .i64 ev,.int .i64 ct,.int .i64 un,.slice D dn dc,.slice M mn mc,.slice Y yn yc] 39)) = W at *
   refine (ans_is (is_any fr ev ct un D M Y dn dc mn mc yn yc ds ms ys _ HL.out) HI.out).mono ?_
   rintro e u1 ⟨rfl,hb⟩
   replace HBX:=hide (andthen HBX.out hb)
   replace HL:=hide (HL.out.keep hb)
   replace s0:=cell_keep hb s0
   replace s1:=cell_keep hb s1
   replace s2:=cell_keep hb s2
   replace s3:=cell_keep hb s3
   replace s4:=cell_keep hb s4
   replace s5:=cell_keep hb s5
   replace s6:=cell_keep hb s6
   replace HX:=hide (HX.out.keep hb)
   clear hb
   have hs0 : w.heap.size < u1.heap.size:=block_lt_of_cell s0
   have hb:=more (start u1) (.cells #[.int .i64 s] 3)
   replace HX:=hide (HX.out.keep hb)
   replace HBX:=hide (andthen HBX.out hb)
   replace s0:=cell_keep hb s0
   replace s1:=cell_keep hb s1
   replace s2:=cell_keep hb s2
   replace s3:=cell_keep hb s3
   replace s4:=cell_keep hb s4
   replace s5:=cell_keep hb s5
   replace s6:=cell_keep hb s6
   replace HL:=hide (HL.out.keep hb)
   clear hb
   go_wp2_with fail
   generalize (u1.alloc (.cells #[.int .i64 s] 3)) = W1 at *
   refine (all_any fr ev ct un D M Y dn dc mn mc yn yc ds ms ys s _ HL.out HRC.out hs1 hs2).mono ?_
   rintro e u2 ⟨v2,rfl,hown,hb⟩
   rw [HAL.out] at hown
   obtain ⟨A,cap,rfl,hrow⟩:=hown.row
   have HR:=hide hrow
   replace HX:=hide (HX.out.keep hb)
   replace HBX:=hide (andthen HBX.out hb)
   clear hb hown hrow
   go_wp2_with fail
   generalize u2 = U at *
   go_loopw [9,10] (fun v i wr => ∃ j : Nat,j <= L.length /\ i = .int .i64 j /\ OwnI wr U.heap.size v ((L.take j).filter (fun m => !outB ex m)) /\ Below U.heap.size U wr) (fun _ i _ => L.length - (intOf i).toNat)
   case atStart => exact ⟨0,Nat.zero_le _,rfl,ownI_nil _ _,start _⟩
   case round =>
    obtain ⟨j,hj,rfl,hown,hbw⟩:=hrel
    have HO:=hide hown
    have HBR:=hide hbw
    clear hown hbw
    by_cases hlt : j < L.length
    ·obtain ⟨b1,o1,rfl,hb1,hc1⟩:=HR.out (by intro h0; rw [h0] at hlt; exact absurd hlt (Nat.not_lt_zero _))
     obtain ⟨m,hm⟩ : ∃ m,L[j] = m:=⟨_,rfl⟩
     have p1 : wr.cell? ⟨b1,o1 + j,none⟩ = some (.int .i64 m):=by rw [<- hm]; exact (HBR.out.cell (p:=⟨b1,_,none⟩) hb1).trans (hc1 j hlt)
     have hi0 : (0 : Int) <= (j : Int):=by omega
     have hi1 : (j : Int) < (L.length : Int):=by omega
     have hi2 : (j : Int) <= 41:=by have:=HLL.out; omega
     have HX2:=hide (HX.out.keep HBR.out)
     clear hc1
     cases ho : outB ex m
     ·have HN:=hide (filt_yes (fun m => !outB ex m) L j hlt (by simp only [hm]; rw [ho]; rfl))
      rw [hm] at HN
      have HOU:=hide ho
      clear ho hm
      go_wp2_with fail
      refine (ans_is (in_any X xn xc ex m _ HX2.out HXN.out (by omega)) HOU.out).mono ?_
      rintro e v1 ⟨rfl,hb⟩
      replace HO:=hide (HO.out.keep hb)
      replace HBR:=hide (andthen HBR.out hb)
      have p2:=cell_keep hb p1
      clear hb p1
      have hsz:=HBR.out.size
      have hown:=HO.out
      have hln : ((L.take j).filter (fun m => !outB ex m)).length <= 1000000:=Nat.le_trans (List.length_filter_le _ _) (Nat.le_trans (List.length_take_le _ _) (by omega))
      go_wp2_with (at_builtin; refine wp_oneI (l:=(L.take j).filter (fun m => !outB ex m)) (p:=m) rfl _ _ rfl rfl rfl rfl hown hsz hln ?_; intro v3 w3 hown3 hb3)
      have HO3:=hide hown3
      have HB3:=hide (HBR.out.trans hb3)
      clear hown hown3 hb3 hsz hln
      go_wp2_with fail
      go_roundw
      case rel => exact ⟨j + 1,by omega,by go_num,by rw [HN.out]; exact HO3.out,HB3.out⟩
      case measure => simp [intOf]; omega
     ·have HN:=hide (filt_no (fun m => !outB ex m) L j hlt (by simp only [hm]; rw [ho]; rfl))
      have HOU:=hide ho
      clear ho hm
      go_wp2_with fail
      refine (ans_is (in_any X xn xc ex m _ HX2.out HXN.out (by omega)) HOU.out).mono ?_
      rintro e v1 ⟨rfl,hb⟩
      replace HO:=hide (HO.out.keep hb)
      replace HBR:=hide (andthen HBR.out hb)
      clear hb p1
      go_wp2_with fail
      go_roundw
      case rel => exact ⟨j + 1,by omega,by go_num,by rw [HN.out]; exact HO.out,HBR.out⟩
      case measure => simp [intOf]; omega
    ·obtain rfl : j = L.length:=by omega
     rw [List.take_length] at HO
     obtain ⟨A3,c3,rfl,_⟩:=HO.out.row
     by_cases hz : (L.filter (fun m => !outB ex m)).length = 0
     ·have HE:=hide (HS.out.1 (List.eq_nil_of_length_eq_zero hz))
      have gz : (((L.filter (fun m => !outB ex m)).length : Int) == 0) = true:=by rw [beq_iff_eq]; omega
      have gz2 : ((L.filter (fun m => !outB ex m)).length == 0) = true:=by rw [beq_iff_eq]; exact hz
      clear hz
      go_wp2_with fail
      go_ret2
      exact gives_e HE.out rfl (ownI_nil _ _) (andthen HBX.out HBR.out)
     ·have HE:=hide (HS.out.2 (by intro hc; rw [hc] at hz; exact hz rfl))
      have gz : (((L.filter (fun m => !outB ex m)).length : Int) == 0) = false:=by rw [beq_eq_false_iff_ne]; omega
      have gz2 : ((L.filter (fun m => !outB ex m)).length == 0) = false:=by rw [beq_eq_false_iff_ne]; exact hz
      clear hz
      go_wp2_with fail
      go_ret2
      exact gives_e HE.out rfl (OwnI.low HO.out HBX.out.size) (andthen HBX.out HBR.out)
end Go.Proofs.YtgihekokbgggcaaGreat.R

import Derived.Test.YtfecnkhoojnkbaaGreatDoorXW9
set_option maxHeartbeats 8000000
set_option maxRecDepth 1000000
namespace Go.Proofs.YtfecnkhoojnkbaaGreatDoor
open Go.RowKit Rul Rt Fo Go.Sort Tryz
theorem jI (A:Option Addr) (n c:Nat) (l:List Int) (w:World) (hl:BS w A l) (hn:n=l.length) (hsz:l.length<=1000) (hb:∀ x∈l,EX x) (ht:Tab w) :
  Calls prog 60 #[.func (.func 58) #[] #[],.slice A n c] w (Ans w (.string (str (AR Lib.itoa l)))):=by
 subst hn;have HR:=A5 hl;have HT:=A5 ht;have HLEN:Hid (∀ p∈l.map Lib.itoa,p.length<=100000):=A5 (fun p hp=>by
  obtain ⟨x,hx,rfl⟩:=List.mem_map.1 hp;exact Nat.le_trans (Lib.itoa_length_le x (hb x hx).1 (hb x hx).2) (by omega))
 have HB:=A5 hb;clear hl ht hb;go_enter func60,ntmps60;go_wp2_with (refine VO rfl _ _ rfl rfl (n:=l.length) rfl rfl (by omega) ?_;intro v0 w0 hown0 hb0);have HO0:=A5 hown0;have HB0:=A5 hb0;clear hown0 hb0;go_wp2_with fail
 go_loopw [5,7,13] (fun v _ i wr=>∃ j:Nat,j<=l.length/\i=.int .i64 j/\BY wr w.heap.size v ((l.take j).map Lib.itoa)/\Below w.heap.size w wr) (fun _ _ i _=>l.length-(intOf i).toNat)
 case atStart=>exact ⟨0,Nat.zero_le _,rfl,HO0.out,HB0.out⟩
 case round =>
  obtain ⟨j,hj,rfl,hown,hbw⟩:=hrel;have HO:=A5 hown;have HBR:=A5 hbw;clear hown hbw
  by_cases hlt:j<l.length
  ·obtain ⟨b1,o1,rfl,hb1,hc1⟩:=HR.out (by intro h0;rw [h0] at hlt;exact absurd hlt (Nat.not_lt_zero _));obtain ⟨m,hm⟩:∃ m,l[j]=m:=⟨_,rfl⟩;have hmr:=HB.out l[j] (List.getElem_mem _);rw [hm] at hmr;have p1:wr.cell? ⟨b1,o1+j,none⟩=some (.int .i64 m):=by rw [<- hm];exact (HBR.out.cell (p:=⟨b1,_,none⟩) hb1).trans (hc1 j hlt)
   have hi0:(0:Int)<=(j:Int):=by omega
   have hi1:(j:Int)<(l.length:Int):=by omega
   have HTK:Hid ((l.take (j+1)).map Lib.itoa=(l.take j).map Lib.itoa++[Lib.itoa m]):=A5 (by rw [List.take_succ_eq_append_getElem hlt,hm,List.map_append];rfl);have HC:=A5 (fun w ht=>KS m w hmr ht);have hln0:((l.take j).map Lib.itoa).length<=1000000:=by rw [List.length_map];exact Nat.le_trans (List.length_take_le _ _) (by omega)
   generalize (l.take j).map Lib.itoa=S at *;obtain ⟨M,hM⟩:∃ M,Lib.itoa m=M:=⟨_,rfl⟩;rw [hM] at HTK HC;clear hc1 hm hM;go_wp2_with fail;refine (HC.out _ (HT.out.below HBR.out (Nat.le_refl _))).mono ?_;rintro e v1 ⟨rfl,hbv⟩;replace HO:=A5 (HO.out.keep hbv);replace HBR:=A5 (andthen HBR.out hbv);have hz:=HBR.out.size;have hown:=HO.out;have hln:=hln0;clear hbv;go_wp2_with (at_builtin;refine DR (l:=S) (p:=M) rfl _ _ rfl rfl rfl rfl hown hz hln ?_;intro v3 w3 hown3 hb3);have HO3:=A5 hown3;have HB3:=A5 (HBR.out.trans hb3);clear hown hown3 hb3 hz hln;go_wp2_with fail
   go_roundw
   case rel=>exact ⟨j+1,by omega,by go_num,by rw [HTK.out];exact HO3.out,HB3.out⟩
   case measure=>simp [intOf];omega
  ·obtain rfl:j=l.length:=by omega
   rw [List.take_length] at HO;obtain ⟨A2,cap2,rfl,hrow,hcap⟩:=BY.row HO.out;have HRW:=A5 hrow;have HCAP:=A5 hcap;have HLM:Hid ((l.map Lib.itoa).length<=1000):=A5 (by rw [List.length_map];exact hsz);obtain ⟨L,hL⟩:∃ L,l.map Lib.itoa=L:=⟨_,rfl⟩;have HLT:Hid (AR Lib.itoa l=AU 44 L):=A5 (by unfold AR;rw [hL]);rw [hL] at HO HRW HCAP HLM HLEN ⊢;clear hrow hcap hL;go_wp2_with fail;refine (fM 44 _ rfl A2 _ cap2 L _ HRW.out rfl HCAP.out HLM.out HLEN.out).mono ?_;rintro e v1 ⟨rfl,hbv⟩;go_wp2_with fail;go_ret;exact ⟨DA (by rw [HLT.out]),andthen HBR.out hbv⟩
theorem jJ (A:Option Addr) (n c:Nat) (l:List Int) (w:World) (hl:BS w A l) (hn:n=l.length) (hsz:l.length<=1000) (ht:Tab w) :
  Calls prog 60 #[.func (.func 57) #[] #[],.slice A n c] w (Ans w (.string (str (AR AZ l)))):=by
 subst hn;have HR:=A5 hl;have HT:=A5 ht;have HLEN:Hid (∀ p∈l.map AZ,p.length<=100000):=A5 (fun p hp=>by
  obtain ⟨x,hx,rfl⟩:=List.mem_map.1 hp;exact Nat.le_trans (IL x) (by omega))
 skip
 clear hl ht;go_enter func60,ntmps60;go_wp2_with (refine VO rfl _ _ rfl rfl (n:=l.length) rfl rfl (by omega) ?_;intro v0 w0 hown0 hb0);have HO0:=A5 hown0;have HB0:=A5 hb0;clear hown0 hb0;go_wp2_with fail
 go_loopw [5,7,13] (fun v _ i wr=>∃ j:Nat,j<=l.length/\i=.int .i64 j/\BY wr w.heap.size v ((l.take j).map AZ)/\Below w.heap.size w wr) (fun _ _ i _=>l.length-(intOf i).toNat)
 case atStart=>exact ⟨0,Nat.zero_le _,rfl,HO0.out,HB0.out⟩
 case round =>
  obtain ⟨j,hj,rfl,hown,hbw⟩:=hrel;have HO:=A5 hown;have HBR:=A5 hbw;clear hown hbw
  by_cases hlt:j<l.length
  ·obtain ⟨b1,o1,rfl,hb1,hc1⟩:=HR.out (by intro h0;rw [h0] at hlt;exact absurd hlt (Nat.not_lt_zero _));obtain ⟨m,hm⟩:∃ m,l[j]=m:=⟨_,rfl⟩
   skip
   skip
   have p1:wr.cell? ⟨b1,o1+j,none⟩=some (.int .i64 m):=by rw [<- hm];exact (HBR.out.cell (p:=⟨b1,_,none⟩) hb1).trans (hc1 j hlt)
   have hi0:(0:Int)<=(j:Int):=by omega
   have hi1:(j:Int)<(l.length:Int):=by omega
   have HTK:Hid ((l.take (j+1)).map AZ=(l.take j).map AZ++[AZ m]):=A5 (by rw [List.take_succ_eq_append_getElem hlt,hm,List.map_append];rfl);have HC:=A5 (fun w ht=>eH m w ht);have hln0:((l.take j).map AZ).length<=1000000:=by rw [List.length_map];exact Nat.le_trans (List.length_take_le _ _) (by omega)
   generalize (l.take j).map AZ=S at *;obtain ⟨M,hM⟩:∃ M,AZ m=M:=⟨_,rfl⟩;rw [hM] at HTK HC;clear hc1 hm hM;go_wp2_with fail;refine (HC.out _ (HT.out.below HBR.out (Nat.le_refl _))).mono ?_;rintro e v1 ⟨rfl,hbv⟩;replace HO:=A5 (HO.out.keep hbv);replace HBR:=A5 (andthen HBR.out hbv);have hz:=HBR.out.size;have hown:=HO.out;have hln:=hln0;clear hbv;go_wp2_with (at_builtin;refine DR (l:=S) (p:=M) rfl _ _ rfl rfl rfl rfl hown hz hln ?_;intro v3 w3 hown3 hb3);have HO3:=A5 hown3;have HB3:=A5 (HBR.out.trans hb3);clear hown hown3 hb3 hz hln;go_wp2_with fail
   go_roundw
   case rel=>exact ⟨j+1,by omega,by go_num,by rw [HTK.out];exact HO3.out,HB3.out⟩
   case measure=>simp [intOf];omega
  ·obtain rfl:j=l.length:=by omega
   rw [List.take_length] at HO;obtain ⟨A2,cap2,rfl,hrow,hcap⟩:=BY.row HO.out;have HRW:=A5 hrow;have HCAP:=A5 hcap;have HLM:Hid ((l.map AZ).length<=1000):=A5 (by rw [List.length_map];exact hsz);obtain ⟨L,hL⟩:∃ L,l.map AZ=L:=⟨_,rfl⟩;have HLT:Hid (AR AZ l=AU 44 L):=A5 (by unfold AR;rw [hL]);rw [hL] at HO HRW HCAP HLM HLEN ⊢;clear hrow hcap hL;go_wp2_with fail;refine (fM 44 _ rfl A2 _ cap2 L _ HRW.out rfl HCAP.out HLM.out HLEN.out).mono ?_;rintro e v1 ⟨rfl,hbv⟩;go_wp2_with fail;go_ret;exact ⟨DA (by rw [HLT.out]),andthen HBR.out hbv⟩
def eU (p:Tx×Tx):Bool:=decide (p.2≠[])
theorem VG (l:List (Tx×Tx)):Ev.wri l=(l.filter eU).map Ev.CZ:=rfl
theorem A0M {l:List (Tx×Tx)} {j:Nat} (hlt:j<l.length) {p:Tx×Tx} (hp:l[j]=p) (h:eU p=true):Ev.wri (l.take (j+1))=Ev.wri (l.take j)++[Ev.CZ p]:=by
 rw [VG,VG,List.take_succ_eq_append_getElem hlt,hp,List.filter_append,List.map_append];simp [h]
theorem A2G {l:List (Tx×Tx)} {j:Nat} (hlt:j<l.length) {p:Tx×Tx} (hp:l[j]=p) (h:eU p=false):Ev.wri (l.take (j+1))=Ev.wri (l.take j):=by
 rw [VG,VG,List.take_succ_eq_append_getElem hlt,hp,List.filter_append,List.map_append];simp [h]
theorem A0N (l:List (Tx×Tx)):(Ev.wri l).length<=l.length:=by rw [VG,List.length_map];exact List.length_filter_le _ _
theorem ZO (A:Option Addr) (n c:Nat) (l:List (Tx×Tx)) (w:World) (hl:RowP w A l) (hn:n=l.length) (hsz:l.length<=1000) (hb:∀ p∈l,p.1.length<=1000/\p.2.length<=90000) :
  Calls prog 56 #[.slice A n c] w (K6 w (Ev.wri l)):=by
 subst hn;have HR:=A5 hl;have HB:=A5 hb;clear hl hb;go_enter func56,ntmps56;go_wp2_with fail
 go_loopw [3,5,8] (fun v _ i wr=>∃ j:Nat,j<=l.length/\i=.int .i64 j/\BY wr w.heap.size v (Ev.wri (l.take j))/\Below w.heap.size w wr) (fun _ _ i _=>l.length-(intOf i).toNat)
 case atStart=>exact ⟨0,Nat.zero_le _,rfl,IK _ _,start _⟩
 case round =>
  obtain ⟨j,hj,rfl,hown,hbw⟩:=hrel;have HO:=A5 hown;have HBR:=A5 hbw;clear hown hbw
  by_cases hlt:j<l.length
  ·obtain ⟨b1,o1,rfl,hb1,hc1⟩:=HR.out (by intro h0;rw [h0] at hlt;exact absurd hlt (Nat.not_lt_zero _));obtain ⟨m,hm⟩:∃ m,l[j]=m:=⟨_,rfl⟩;obtain ⟨nm,vl⟩:=m;have hmr:=HB.out l[j] (List.getElem_mem _);rw [hm] at hmr;have p1:wr.cell? ⟨b1,o1+j*2,none⟩=some (.string (str nm)):=(HBR.out.cell (p:=⟨b1,_,none⟩) hb1).trans (by have:=(hc1 j hlt).1;rwa [hm] at this);have p2:wr.cell? ⟨b1,o1+j*2+1,none⟩=some (.string (str vl)):=(HBR.out.cell (p:=⟨b1,_,none⟩) hb1).trans (by have:=(hc1 j hlt).2;rwa [hm] at this);have hi0:(0:Int)<=(j:Int):=by omega
   have hi1:(j:Int)<(l.length:Int):=by omega
   have hbV:=more (start wr) (.cells #[.string (str nm),.string (str vl)] 102);replace HO:=A5 (HO.out.keep hbV);replace HBR:=A5 (andthen HBR.out hbV);have q1:=AH vl;have z1:(str nm).size<=1000:=by rw [AB];exact hmr.1
   have z2:(str vl).size<=90000:=by rw [AB];exact hmr.2
   have hln0:(Ev.wri (l.take j)).length<=1000000:=Nat.le_trans (A0N _) (Nat.le_trans (List.length_take_le _ _) (by omega));clear hc1 hbV hmr
   by_cases hv:vl=[]
   ·have HN:=A5 (A2G hlt hm (by unfold eU;rw [hv];rfl));have q2:vl.isEmpty=true:=by rw [hv];rfl
    generalize Ev.wri (l.take j)=S at *;clear hm hv;go_wp2_with fail
    go_roundw
    case rel=>exact ⟨j+1,by omega,by go_num,by rw [HN.out];exact HO.out,HBR.out⟩
    case measure=>simp [intOf];omega
   ·have HN:=A5 (A0M hlt hm (by unfold eU;simpa using hv));have q2:vl.isEmpty=false:=by cases vl with|nil=>exact absurd rfl hv|cons _ _=>rfl
    have HE:Hid ((str nm++(⟨#[58]⟩:ByteArray))++str vl=str (Ev.CZ (nm,vl))):=A5 (by unfold Ev.CZ;rw [show (⟨#[58]⟩:ByteArray)=str [58] from rfl,AM,AM];simp);have z3:(str nm++(⟨#[58]⟩:ByteArray)).size<=1001:=by rw [show (⟨#[58]⟩:ByteArray)=str [58] from rfl,AM,AB,z0J];rw [AB] at z1;simp only [List.length_cons,List.length_nil];omega
    obtain ⟨Z,hZ⟩:∃ Z,(str nm++(⟨#[58]⟩:ByteArray))++str vl=Z:=⟨_,rfl⟩;have HZ:Hid (Z=str (Ev.CZ (nm,vl))):=A5 (hZ▸HE.out);generalize Ev.wri (l.take j)=S at *;have hz:=HBR.out.size;have hown:=HO.out;have hln:=hln0;clear hm hv;go_wp2_with (at_builtin;rw [HZ.out];refine DR (l:=S) (p:=Ev.CZ (nm,vl)) rfl _ _ rfl rfl (World.size_alloc _ _) rfl hown hz hln ?_;intro v3 w3 hown3 hb3);have HO3:=A5 hown3;have HB3:=A5 (HBR.out.trans hb3);clear hown hown3 hb3 hz hln;go_wp2_with fail
    go_roundw
    case rel=>exact ⟨j+1,by omega,by go_num,by rw [HN.out];exact HO3.out,HB3.out⟩
    case measure=>simp [intOf];omega
  ·obtain rfl:j=l.length:=by omega
   rw [List.take_length] at HO;go_wp2_with fail;go_ret;exact ⟨_,rfl,HO.out,HBR.out⟩
theorem A1N (b o j:Nat):(⟨b,o,none⟩:Addr).add j=⟨b,o+j,none⟩:=by unfold Addr.add;split <;> simp_all
theorem eV {w:World} (t ty e:TypeId) (i:TypeInfo) (ht:prog.underlying t=some (.slice e)) (hi:prog.info? e=some i) (c:Nat) :
  (Builtin.append_ #[t,t] ty #[.slice none 0 0,.slice none 0 c]).run prog w=.ok (.slice none 0 0) w:=by
 simp [Builtin.append_,run_underlying ht,sizeOf,typeInfo,hi,Builtin.lenOf,Builtin.firstCells]
theorem qF {w:World} {k:List Int} (ty:TypeId) {A:Option Addr} {m c:Nat} (hm:m=k.length) (hrow:BS w A k) (hk:k.length<=1000000) :
  ∃ v' w',(Builtin.append_ #[41,41] ty #[.slice none 0 0,.slice A m c]).run prog w=.ok v' w'/\BV w' w.heap.size v' k/\Below w.heap.size w w':=by
 obtain ⟨i0,hi,hz0,hz1,hz2⟩:=info_parts VL
 cases A with
 | none =>
  have hk0:k=[]:=by
   rcases k with _|⟨z,k⟩
   ·rfl
   ·obtain ⟨_,_,h,_⟩:=hrow (by simp)
    cases h
  subst hk0;subst hm;exact ⟨_,w,eV 41 ty 3 i0 underlying41 hi c,KQ _ _,start _⟩
 | some a =>
  have hnews:∀ j u,(GN k)[j]?=some u->w.cell? (a.add j)=some u:=by
   rcases k with _|⟨z,k0⟩
   ·intro j u hu;simp [GN] at hu
   ·obtain ⟨b,off,he,_,hc⟩:=hrow (by simp);injection he with he;subst he;generalize hkk:z :: k0=k at *;clear hkk;intro j u hu;have hj:j<(GN k).length:=(List.getElem?_eq_some_iff.1 hu).1;rw [LM] at hj;rw [A1N,hc j hj];rw [<- hu];simp [GN,hj]
  subst hm;obtain ⟨v',w',hr,h2,h3,_,_⟩:=run_append_own_at (P:=prog) (w:=w) w.heap.size 41 ty 3 i0 _ 1 8 underlying41 hi hz0 hz1 hz2 rfl (by decide) (.slice none 0 0) 0 [] (KQ w w.heap.size) a k.length c (GN k) (by rw [LM,Nat.mul_one]) hnews (by intro u hu;obtain ⟨z,_,rfl⟩:=List.mem_map.1 hu;rfl) (by unfold maxLen;omega) (by omega) (Nat.le_refl _);exact ⟨v',w',hr,by rw [Nat.zero_add,List.nil_append] at h2;exact h2,(Below.refl w.heap.size w).grown h3 (Nat.le_refl _) fun j hj=>by cases hj⟩
theorem xC {ops:Array Oper} {rest:List Oper} {o:Oper} {a:Act} {Q:Exit->Act->World->Prop} {w:World} {k:List Int} (hgd:o.guard=none) (s x:Operand)
  (ho:o.op=.call { callee:=.builtin .append,args:=#[s,x],argTypes:=#[41,41] }) (hs:a.eval s=.slice none 0 0) {A:Option Addr} {m c:Nat} (hx:a.eval x=.slice A m c) (hm:m=k.length) (hrow:BS w A k) (hk:k.length<=1000000)
  (h:∀ v' w',BV w' w.heap.size v' k->Below w.heap.size w w'->wpList prog ops Q rest (a.put o.dst v') w') :
  wpList prog ops Q (o :: rest) a w:=by
 refine wpList_plain hgd fun K hK=>?_
 obtain ⟨v',w',hr,h2,h3⟩:=qF (c:=c) o.type hm hrow hk;unfold Oper.wp execOp;simp only [ho,resolve,invoke,builtin,Sem.run_bind,Sem.run_pure,Result.andThen_ok,List.map_toArray,List.map_cons,List.map_nil,hs,hx,hr];exact hK _ _ (h v' w' h2 h3)
def CopyI (w:World) (k:List Int) (e:Ending) (w':World):Prop:=∃ v,e=.returned v/\BV w' w.heap.size v k/\Below w.heap.size w w'
theorem xD (A:Option Addr) (m c:Nat) (k:List Int) (w:World) (hrow:BS w A k) (hm:m=k.length) (hk:k.length<=1000000) :
  Calls prog 174 #[.slice A m c] w (CopyI w k):=by
 have HR:=A5 hrow;have HM:=A5 hm;clear hrow hm;go_enter func174,ntmps174;go_wp2_with (at_builtin;refine xC (k:=k) rfl _ _ rfl rfl rfl HM.out HR.out hk ?_;intro v3 w3 hown3 hb3);go_ret;exact ⟨_,rfl,hown3,hb3⟩
theorem qG {w:World} {k:List Wd} (ty:TypeId) {A:Option Addr} {m c:Nat} (hm:m=k.length) (hrow:EL w A k) (hk:k.length<=1000000) :
  ∃ v' w',(Builtin.append_ #[42,42] ty #[.slice none 0 0,.slice A m c]).run prog w=.ok v' w'/\DO w' w.heap.size v' k/\Below w.heap.size w w':=by
 obtain ⟨i0,hi,hz0,hz1,hz2⟩:=info_parts VM
 cases A with
 | none =>
  have hk0:k=[]:=by
   rcases k with _|⟨z,k⟩
   ·rfl
   ·obtain ⟨_,_,h,_⟩:=hrow (by simp)
    cases h
  subst hk0;subst hm;exact ⟨_,w,eV 42 ty 114 i0 underlying42 hi c,Q5 _ _,start _⟩
 | some a =>
  have hnews:∀ j u,(FC k)[j]?=some u->w.cell? (a.add j)=some u:=by
   rcases k with _|⟨z,k0⟩
   ·intro j u hu;simp [FC] at hu
   ·obtain ⟨b,off,he,_,hc⟩:=hrow (by simp);injection he with he;subst he;generalize hkk:z :: k0=k at *;clear hkk;intro j u hu;have hj:j<(FC k).length:=(List.getElem?_eq_some_iff.1 hu).1;rw [JO] at hj;obtain ⟨c1,c2⟩:=LP k (j / 2) (by omega);obtain ⟨r1,r2⟩:=hc (j / 2) (by omega);rw [A1N];rcases Nat.mod_two_eq_zero_or_one j with h0|h0
    ·have e:j / 2*2=j:=by omega
     rw [e] at c1 r1;rw [r1,<- c1,hu]
    ·have e:j / 2*2+1=j:=by omega
     rw [e] at c2;rw [Nat.add_assoc,e] at r2;rw [r2,<- c2,hu]
  subst hm;obtain ⟨v',w',hr,h2,h3,_,_⟩:=run_append_own_at (P:=prog) (w:=w) w.heap.size 42 ty 114 i0 _ 2 16 underlying42 hi hz0 hz1 hz2 rfl (by decide) (.slice none 0 0) 0 [] (Q5 w w.heap.size) a k.length c (FC k) (JO k) hnews (by intro u hu;obtain ⟨z,_,h⟩:=List.mem_flatMap.1 hu;simp only [List.mem_cons,List.not_mem_nil,or_false] at h;rcases h with rfl|rfl <;> rfl) (by unfold maxLen;omega) (by omega) (Nat.le_refl _);exact ⟨v',w',hr,by rw [Nat.zero_add,List.nil_append] at h2;exact h2,(Below.refl w.heap.size w).grown h3 (Nat.le_refl _) fun j hj=>by cases hj⟩
theorem xE {ops:Array Oper} {rest:List Oper} {o:Oper} {a:Act} {Q:Exit->Act->World->Prop} {w:World} {k:List Wd} (hgd:o.guard=none) (s x:Operand)
  (ho:o.op=.call { callee:=.builtin .append,args:=#[s,x],argTypes:=#[42,42] }) (hs:a.eval s=.slice none 0 0) {A:Option Addr} {m c:Nat} (hx:a.eval x=.slice A m c) (hm:m=k.length) (hrow:EL w A k) (hk:k.length<=1000000)
  (h:∀ v' w',DO w' w.heap.size v' k->Below w.heap.size w w'->wpList prog ops Q rest (a.put o.dst v') w') :
  wpList prog ops Q (o :: rest) a w:=by
 refine wpList_plain hgd fun K hK=>?_
 obtain ⟨v',w',hr,h2,h3⟩:=qG (c:=c) o.type hm hrow hk;unfold Oper.wp execOp;simp only [ho,resolve,invoke,builtin,Sem.run_bind,Sem.run_pure,Result.andThen_ok,List.map_toArray,List.map_cons,List.map_nil,hs,hx,hr];exact hK _ _ (h v' w' h2 h3)
def CopyD (w:World) (k:List Wd) (e:Ending) (w':World):Prop:=∃ v,e=.returned v/\DO w' w.heap.size v k/\Below w.heap.size w w'
theorem xF (A:Option Addr) (m c:Nat) (k:List Wd) (w:World) (hrow:EL w A k) (hm:m=k.length) (hk:k.length<=1000000) :
  Calls prog 173 #[.slice A m c] w (CopyD w k):=by
 have HR:=A5 hrow;have HM:=A5 hm;clear hrow hm;go_enter func173,ntmps173;go_wp2_with (at_builtin;refine xE (k:=k) rfl _ _ rfl rfl rfl HM.out HR.out hk ?_;intro v3 w3 hown3 hb3);go_ret;exact ⟨_,rfl,hown3,hb3⟩
structure Mem where
 O:Option Addr
 oc:Nat
 D:Option Addr
 dc:Nat
 M:Option Addr
 mc:Nat
 Y:Option Addr
 yc:Nat
 X:Option Addr
 xc:Nat
abbrev evV (e:Ev.E) (m:Mem):Value:=.agg #[.string (str e.uid),.string (str e.text),.int .i64 e.st,.int .i64 e.lg,.slice m.O e.rooms.length m.oc,.int .i64 e.r.fr,.int .i64 e.r.ev,.int .i64 e.r.ct,.int .i64 e.r.un,.slice m.D e.r.ds.length m.dc,.slice m.M e.r.ms.length m.mc,.slice m.Y e.r.ys.length m.yc,.slice m.X e.ex.length m.xc]
abbrev paV (e:Ev.E) (m:Mem):Value:=.agg #[.string (str e.uid),.string (str e.text),.int .i64 e.st,.int .i64 e.lg,.int .i64 e.r.fr,.int .i64 e.r.ev,.int .i64 e.r.ct,.int .i64 e.r.un,.slice m.D e.r.ds.length m.dc,.slice m.M e.r.ms.length m.mc,.slice m.Y e.r.ys.length m.yc,.slice m.X e.ex.length m.xc,.slice m.O e.rooms.length m.oc]
structure EvL (w:World) (e:Ev.E) (m:Mem):Prop where
 o:BS w m.O e.rooms
 ol:e.rooms.length<=1000
 r:DS w m.D e.r.ds.length m.M e.r.ms.length m.Y e.r.ys.length e.r.ds e.r.ms e.r.ys
 x:BS w m.X e.ex
 xl:e.ex.length<=1000
 ul:e.uid.length<=40000
 tl:e.text.length<=40000
theorem EvL.keep {w w':World} {e:Ev.E} {m:Mem} (h:EvL w e m) (hb:Below w.heap.size w w'):EvL w' e m :=
 ⟨h.o.keep hb,h.ol,h.r.keep hb,h.x.keep hb,h.xl,h.ul,h.tl⟩
end Go.Proofs.YtfecnkhoojnkbaaGreatDoor
namespace Go.Proofs.YtfecnkhoojnkbaaGreatDoor
open Go.RowKit Rul Rt Go.Sort Tryz
theorem AS (w:World) (vs:Array Value) (t:TypeId) (i:Nat) (v:Value) (h:vs[i]?=some v):(w.alloc (.cells vs t)).cell? ⟨w.heap.size,i,none⟩=some v:=by rw [World.cell?_alloc_at _ _ _ _ rfl];exact h
theorem DW (n:Int) (b:Bool) (w:World) (h:Ev.lgB n=b):Calls prog 115 #[.int .i64 n] w (Ans w (.bool b)):=by subst h;exact F6 (U5 n w)
theorem mJ (u:Tx) (b:Bool) (w:World) (hs:u.length<=40000) (h:Ev.FT u=b):Calls prog 112 #[.string (str u)] w (Ans w (.bool b)):=F6 (tN (str u) b w (by rw [AB];omega) (by rw [AD];exact h))
theorem xG (u:Tx) (b:Bool) (w:World) (hs:u.length<=40000) (h:Ev.E0 u=b):Calls prog 113 #[.string (str u)] w (Ans w (.bool b)):=F6 (o8 (str u) b w (by rw [AB];omega) (by rw [AD];exact h))
theorem qH (u t:Tx) (w:World) (hu:u.length<=40000) (ht:t.length<=40000) :
  Calls prog 79 #[.agg #[.string (str u),.string (str t)]] w (Ans w (.bool (Ev.FT u&&Ev.E0 t))):=by
 have HBX:=A5 (more (start w) (.cells #[.string (str u),.string (str t)] 90));have s1:=AS w #[.string (str u),.string (str t)] 90 1 _ rfl
 cases h1:Ev.FT u
 ·have H1:=A5 (fun w=>mJ u false w hu h1);clear h1 s1;generalize str u=U at *;generalize str t=T at *;go_enter func79,ntmps79;go_wp2_with fail;refine (H1.out _).mono ?_;rintro e w1 ⟨rfl,hb⟩;replace HBX:=A5 (andthen HBX.out hb);go_wp2_with fail;go_ret;exact ⟨rfl,HBX.out⟩
 ·have H1:=A5 (fun w=>mJ u true w hu h1);have H2:=A5 (fun w=>xG t _ w ht rfl);rw [Bool.true_and];generalize Ev.E0 t=B at *;clear h1;generalize str u=U at *;generalize str t=T at *;go_enter func79,ntmps79;go_wp2_with fail;refine (H1.out _).mono ?_;rintro e w1 ⟨rfl,hb⟩;replace HBX:=A5 (andthen HBX.out hb);replace s1:=A9 hb s1;clear hb;go_wp2_with fail;refine (H2.out _).mono ?_;rintro e w2 ⟨rfl,hb⟩;replace HBX:=A5 (andthen HBX.out hb);clear hb;go_wp2_with fail;go_ret;exact ⟨rfl,HBX.out⟩
theorem qI (e:Ev.E) (m:Mem) (w:World) (h:EvL w e m) :
  Calls prog 80 #[.agg #[.int .i64 e.st,.int .i64 e.lg,.int .i64 e.r.fr,.int .i64 e.r.ev,.int .i64 e.r.ct,.int .i64 e.r.un,.slice m.D e.r.ds.length m.dc,.slice m.M e.r.ms.length m.mc,.slice m.Y e.r.ys.length m.yc,.slice m.X e.ex.length m.xc]] w (Ans w (.bool (Ev.OH e))):=by
 have h1:Ev.OH e=(Ev.FQ e.st&&(Ev.lgB e.lg&&(isB e.r&&(Ev.exB e.ex&&(decide (e.ex.length=0)||!C9 e.r once))))):=rfl;rw [h1];clear h1;have hr:=h.r;have hx:=h.x;have hxl:=h.xl;clear h;obtain ⟨_,_,s,l,_,⟨fr,ev,ct,un,ds,ms,ys⟩,x⟩:=e;obtain ⟨_,_,D,dc,M,mc,Y,yc,X,xc⟩:=m;simp only at hr hx hxl ⊢;have HBX:=A5 (more (start w) (.cells #[.int .i64 s,.int .i64 l,.int .i64 fr,.int .i64 ev,.int .i64 ct,.int .i64 un,.slice D ds.length dc,.slice M ms.length mc,.slice Y ys.length yc,.slice X x.length xc] 92));have HR:=A5 (hr.keep HBX.out);have HX:=A5 (hx.keep HBX.out);clear hr hx;have s0:=AS w #[.int .i64 s,.int .i64 l,.int .i64 fr,.int .i64 ev,.int .i64 ct,.int .i64 un,.slice D ds.length dc,.slice M ms.length mc,.slice Y ys.length yc,.slice X x.length xc] 92 0 _ rfl;have s1:=AS w #[.int .i64 s,.int .i64 l,.int .i64 fr,.int .i64 ev,.int .i64 ct,.int .i64 un,.slice D ds.length dc,.slice M ms.length mc,.slice Y ys.length yc,.slice X x.length xc] 92 1 _ rfl;have s2:=AS w #[.int .i64 s,.int .i64 l,.int .i64 fr,.int .i64 ev,.int .i64 ct,.int .i64 un,.slice D ds.length dc,.slice M ms.length mc,.slice Y ys.length yc,.slice X x.length xc] 92 2 _ rfl;have s3:=AS w #[.int .i64 s,.int .i64 l,.int .i64 fr,.int .i64 ev,.int .i64 ct,.int .i64 un,.slice D ds.length dc,.slice M ms.length mc,.slice Y ys.length yc,.slice X x.length xc] 92 3 _ rfl;have s4:=AS w #[.int .i64 s,.int .i64 l,.int .i64 fr,.int .i64 ev,.int .i64 ct,.int .i64 un,.slice D ds.length dc,.slice M ms.length mc,.slice Y ys.length yc,.slice X x.length xc] 92 4 _ rfl;have s5:=AS w #[.int .i64 s,.int .i64 l,.int .i64 fr,.int .i64 ev,.int .i64 ct,.int .i64 un,.slice D ds.length dc,.slice M ms.length mc,.slice Y ys.length yc,.slice X x.length xc] 92 5 _ rfl;have s6:=AS w #[.int .i64 s,.int .i64 l,.int .i64 fr,.int .i64 ev,.int .i64 ct,.int .i64 un,.slice D ds.length dc,.slice M ms.length mc,.slice Y ys.length yc,.slice X x.length xc] 92 6 _ rfl;have s7:=AS w #[.int .i64 s,.int .i64 l,.int .i64 fr,.int .i64 ev,.int .i64 ct,.int .i64 un,.slice D ds.length dc,.slice M ms.length mc,.slice Y ys.length yc,.slice X x.length xc] 92 7 _ rfl;have s8:=AS w #[.int .i64 s,.int .i64 l,.int .i64 fr,.int .i64 ev,.int .i64 ct,.int .i64 un,.slice D ds.length dc,.slice M ms.length mc,.slice Y ys.length yc,.slice X x.length xc] 92 8 _ rfl;have s9:=AS w #[.int .i64 s,.int .i64 l,.int .i64 fr,.int .i64 ev,.int .i64 ct,.int .i64 un,.slice D ds.length dc,.slice M ms.length mc,.slice Y ys.length yc,.slice X x.length xc] 92 9 _ rfl
 cases h1:Ev.FQ s
 ·simp only [Bool.false_and];have H1:=A5 h1;clear h1;go_enter func80,ntmps80;go_wp2_with fail;generalize w.alloc (.cells #[.int .i64 s,.int .i64 l,.int .i64 fr,.int .i64 ev,.int .i64 ct,.int .i64 un,.slice D ds.length dc,.slice M ms.length mc,.slice Y ys.length yc,.slice X x.length xc] 92)=W at *;have f0:=fun d os=>cell_regrown s0 d os
  have f1:=fun d os=>cell_regrown s1 d os
  have f2:=fun d os=>cell_regrown s2 d os
  have f3:=fun d os=>cell_regrown s3 d os
  have f4:=fun d os=>cell_regrown s4 d os
  have f5:=fun d os=>cell_regrown s5 d os
  have f6:=fun d os=>cell_regrown s6 d os
  have f7:=fun d os=>cell_regrown s7 d os
  have f8:=fun d os=>cell_regrown s8 d os
  have f9:=fun d os=>cell_regrown s9 d os
  have L1:=A5 (fun d os=>DS.keep HR.out (below_regrown W d os));have L2:=A5 (fun d os=>BS.keep HX.out (below_regrown W d os));clear HR HX s0 s1 s2 s3 s4 s5 s6 s7 s8 s9;refine wp_region_quiet_below (by kernel_rfl) (by kernel_rfl) ?_
  repeat (first|go_big_quiet_step ((first|(go_at_call 114;exact Calls.regrown_of (BX s false _ H1.out))))|quiet_step ((first|(go_at_call 114;exact Calls.regrown_of (BX s false _ H1.out)))))
  refine wpQuiet_nil ?_;intro _ hw';obtain ⟨⟨nq,osq⟩,hw''⟩:=hw';subst hw'';replace HBX:=A5 (andthen HBX.out (below_regrown W nq osq));go_wp2_with fail;go_ret;exact ⟨rfl,HBX.out⟩
 ·cases h2:Ev.lgB l
  ·simp only [Bool.true_and,Bool.false_and];have H1:=A5 h1;have H2:=A5 h2;clear h1 h2;go_enter func80,ntmps80;go_wp2_with fail;generalize w.alloc (.cells #[.int .i64 s,.int .i64 l,.int .i64 fr,.int .i64 ev,.int .i64 ct,.int .i64 un,.slice D ds.length dc,.slice M ms.length mc,.slice Y ys.length yc,.slice X x.length xc] 92)=W at *;have f0:=fun d os=>cell_regrown s0 d os
   have f1:=fun d os=>cell_regrown s1 d os
   have f2:=fun d os=>cell_regrown s2 d os
   have f3:=fun d os=>cell_regrown s3 d os
   have f4:=fun d os=>cell_regrown s4 d os
   have f5:=fun d os=>cell_regrown s5 d os
   have f6:=fun d os=>cell_regrown s6 d os
   have f7:=fun d os=>cell_regrown s7 d os
   have f8:=fun d os=>cell_regrown s8 d os
   have f9:=fun d os=>cell_regrown s9 d os
   have L1:=A5 (fun d os=>DS.keep HR.out (below_regrown W d os));have L2:=A5 (fun d os=>BS.keep HX.out (below_regrown W d os));clear HR HX s0 s1 s2 s3 s4 s5 s6 s7 s8 s9;refine wp_region_quiet_below (by kernel_rfl) (by kernel_rfl) ?_
   repeat (first|go_big_quiet_step ((first|(go_at_call 114;exact Calls.regrown_of (BX s true _ H1.out))|(go_at_call 115;exact Calls.regrown_of (DW l false _ H2.out))))|quiet_step ((first|(go_at_call 114;exact Calls.regrown_of (BX s true _ H1.out))|(go_at_call 115;exact Calls.regrown_of (DW l false _ H2.out)))))
   refine wpQuiet_nil ?_;intro _ hw';obtain ⟨⟨nq,osq⟩,hw''⟩:=hw';subst hw'';replace HBX:=A5 (andthen HBX.out (below_regrown W nq osq));go_wp2_with fail;go_ret;exact ⟨rfl,HBX.out⟩
  ·cases h3:isB ⟨fr,ev,ct,un,ds,ms,ys⟩
   ·simp only [Bool.true_and,Bool.false_and];have H1:=A5 h1;have H2:=A5 h2;have H3:=A5 h3;clear h1 h2 h3;go_enter func80,ntmps80;go_wp2_with fail;generalize w.alloc (.cells #[.int .i64 s,.int .i64 l,.int .i64 fr,.int .i64 ev,.int .i64 ct,.int .i64 un,.slice D ds.length dc,.slice M ms.length mc,.slice Y ys.length yc,.slice X x.length xc] 92)=W at *;have f0:=fun d os=>cell_regrown s0 d os
    have f1:=fun d os=>cell_regrown s1 d os
    have f2:=fun d os=>cell_regrown s2 d os
    have f3:=fun d os=>cell_regrown s3 d os
    have f4:=fun d os=>cell_regrown s4 d os
    have f5:=fun d os=>cell_regrown s5 d os
    have f6:=fun d os=>cell_regrown s6 d os
    have f7:=fun d os=>cell_regrown s7 d os
    have f8:=fun d os=>cell_regrown s8 d os
    have f9:=fun d os=>cell_regrown s9 d os
    have L1:=A5 (fun d os=>DS.keep HR.out (below_regrown W d os));have L2:=A5 (fun d os=>BS.keep HX.out (below_regrown W d os));clear HR HX s0 s1 s2 s3 s4 s5 s6 s7 s8 s9;refine wp_region_quiet_below (by kernel_rfl) (by kernel_rfl) ?_
    repeat (first|go_big_quiet_step ((first|(go_at_call 114;exact Calls.regrown_of (BX s true _ H1.out))|(go_at_call 115;exact Calls.regrown_of (DW l true _ H2.out))|(go_at_call 88;exact Calls.regrown_of (AF (CY fr ev ct un D M Y _ dc _ mc _ yc ds ms ys _ (L1.out _ _)) H3.out))))|quiet_step ((first|(go_at_call 114;exact Calls.regrown_of (BX s true _ H1.out))|(go_at_call 115;exact Calls.regrown_of (DW l true _ H2.out))|(go_at_call 88;exact Calls.regrown_of (AF (CY fr ev ct un D M Y _ dc _ mc _ yc ds ms ys _ (L1.out _ _)) H3.out)))))
    refine wpQuiet_nil ?_;intro _ hw';obtain ⟨⟨nq,osq⟩,hw''⟩:=hw';subst hw'';replace HBX:=A5 (andthen HBX.out (below_regrown W nq osq));go_wp2_with fail;go_ret;exact ⟨rfl,HBX.out⟩
   ·cases h4:Ev.exB x
    ·simp only [Bool.true_and,Bool.false_and];have H1:=A5 h1;have H2:=A5 h2;have H3:=A5 h3;have H4:=A5 h4;clear h1 h2 h3 h4;go_enter func80,ntmps80;go_wp2_with fail;generalize w.alloc (.cells #[.int .i64 s,.int .i64 l,.int .i64 fr,.int .i64 ev,.int .i64 ct,.int .i64 un,.slice D ds.length dc,.slice M ms.length mc,.slice Y ys.length yc,.slice X x.length xc] 92)=W at *;have f0:=fun d os=>cell_regrown s0 d os
     have f1:=fun d os=>cell_regrown s1 d os
     have f2:=fun d os=>cell_regrown s2 d os
     have f3:=fun d os=>cell_regrown s3 d os
     have f4:=fun d os=>cell_regrown s4 d os
     have f5:=fun d os=>cell_regrown s5 d os
     have f6:=fun d os=>cell_regrown s6 d os
     have f7:=fun d os=>cell_regrown s7 d os
     have f8:=fun d os=>cell_regrown s8 d os
     have f9:=fun d os=>cell_regrown s9 d os
     have L1:=A5 (fun d os=>DS.keep HR.out (below_regrown W d os));have L2:=A5 (fun d os=>BS.keep HX.out (below_regrown W d os));clear HR HX s0 s1 s2 s3 s4 s5 s6 s7 s8 s9;refine wp_region_quiet_below (by kernel_rfl) (by kernel_rfl) ?_
     repeat (first|go_big_quiet_step ((first|(go_at_call 114;exact Calls.regrown_of (BX s true _ H1.out))|(go_at_call 115;exact Calls.regrown_of (DW l true _ H2.out))|(go_at_call 88;exact Calls.regrown_of (AF (CY fr ev ct un D M Y _ dc _ mc _ yc ds ms ys _ (L1.out _ _)) H3.out))|(go_at_call 116;exact Calls.regrown_of (DX X _ xc x false _ (L2.out _ _) rfl (by omega) H4.out))))|quiet_step ((first|(go_at_call 114;exact Calls.regrown_of (BX s true _ H1.out))|(go_at_call 115;exact Calls.regrown_of (DW l true _ H2.out))|(go_at_call 88;exact Calls.regrown_of (AF (CY fr ev ct un D M Y _ dc _ mc _ yc ds ms ys _ (L1.out _ _)) H3.out))|(go_at_call 116;exact Calls.regrown_of (DX X _ xc x false _ (L2.out _ _) rfl (by omega) H4.out)))))
     refine wpQuiet_nil ?_;intro _ hw';obtain ⟨⟨nq,osq⟩,hw''⟩:=hw';subst hw'';replace HBX:=A5 (andthen HBX.out (below_regrown W nq osq));go_wp2_with fail;go_ret;exact ⟨rfl,HBX.out⟩
    ·by_cases h5:x.length=0
     ·simp only [Bool.true_and,z0H h5,Bool.true_or];have H1:=A5 h1;have H2:=A5 h2;have H3:=A5 h3;have H4:=A5 h4;have q0:((x.length:Int)==0)=true:=by rw [beq_iff_eq];omega
      have q1:(x.length==0)=true:=by rw [beq_iff_eq];omega
      clear h1 h2 h3 h4 h5;go_enter func80,ntmps80;go_wp2_with fail;generalize w.alloc (.cells #[.int .i64 s,.int .i64 l,.int .i64 fr,.int .i64 ev,.int .i64 ct,.int .i64 un,.slice D ds.length dc,.slice M ms.length mc,.slice Y ys.length yc,.slice X x.length xc] 92)=W at *;have f0:=fun d os=>cell_regrown s0 d os
      have f1:=fun d os=>cell_regrown s1 d os
      have f2:=fun d os=>cell_regrown s2 d os
      have f3:=fun d os=>cell_regrown s3 d os
      have f4:=fun d os=>cell_regrown s4 d os
      have f5:=fun d os=>cell_regrown s5 d os
      have f6:=fun d os=>cell_regrown s6 d os
      have f7:=fun d os=>cell_regrown s7 d os
      have f8:=fun d os=>cell_regrown s8 d os
      have f9:=fun d os=>cell_regrown s9 d os
      have L1:=A5 (fun d os=>DS.keep HR.out (below_regrown W d os));have L2:=A5 (fun d os=>BS.keep HX.out (below_regrown W d os));clear HR HX s0 s1 s2 s3 s4 s5 s6 s7 s8 s9;refine wp_region_quiet_below (by kernel_rfl) (by kernel_rfl) ?_
      repeat (first|go_big_quiet_step ((first|(go_at_call 114;exact Calls.regrown_of (BX s true _ H1.out))|(go_at_call 115;exact Calls.regrown_of (DW l true _ H2.out))|(go_at_call 88;exact Calls.regrown_of (AF (CY fr ev ct un D M Y _ dc _ mc _ yc ds ms ys _ (L1.out _ _)) H3.out))|(go_at_call 116;exact Calls.regrown_of (DX X _ xc x true _ (L2.out _ _) rfl (by omega) H4.out))))|quiet_step ((first|(go_at_call 114;exact Calls.regrown_of (BX s true _ H1.out))|(go_at_call 115;exact Calls.regrown_of (DW l true _ H2.out))|(go_at_call 88;exact Calls.regrown_of (AF (CY fr ev ct un D M Y _ dc _ mc _ yc ds ms ys _ (L1.out _ _)) H3.out))|(go_at_call 116;exact Calls.regrown_of (DX X _ xc x true _ (L2.out _ _) rfl (by omega) H4.out)))))
      refine wpQuiet_nil ?_;intro _ hw';obtain ⟨⟨nq,osq⟩,hw''⟩:=hw';subst hw'';replace HBX:=A5 (andthen HBX.out (below_regrown W nq osq));go_wp2_with fail;go_ret;exact ⟨rfl,HBX.out⟩
     ·cases h6:C9 ⟨fr,ev,ct,un,ds,ms,ys⟩ once
      ·simp only [Bool.true_and,z0G h5,Bool.false_or,Bool.not_false];have H1:=A5 h1;have H2:=A5 h2;have H3:=A5 h3;have H4:=A5 h4;have q0:((x.length:Int)==0)=false:=by rw [beq_eq_false_iff_ne];omega
       have q1:(x.length==0)=false:=by rw [beq_eq_false_iff_ne];omega
       have H6:=A5 h6;clear h1 h2 h3 h4 h5 h6;go_enter func80,ntmps80;go_wp2_with fail;generalize w.alloc (.cells #[.int .i64 s,.int .i64 l,.int .i64 fr,.int .i64 ev,.int .i64 ct,.int .i64 un,.slice D ds.length dc,.slice M ms.length mc,.slice Y ys.length yc,.slice X x.length xc] 92)=W at *;have f0:=fun d os=>cell_regrown s0 d os
       have f1:=fun d os=>cell_regrown s1 d os
       have f2:=fun d os=>cell_regrown s2 d os
       have f3:=fun d os=>cell_regrown s3 d os
       have f4:=fun d os=>cell_regrown s4 d os
       have f5:=fun d os=>cell_regrown s5 d os
       have f6:=fun d os=>cell_regrown s6 d os
       have f7:=fun d os=>cell_regrown s7 d os
       have f8:=fun d os=>cell_regrown s8 d os
       have f9:=fun d os=>cell_regrown s9 d os
       have L1:=A5 (fun d os=>DS.keep HR.out (below_regrown W d os));have L2:=A5 (fun d os=>BS.keep HX.out (below_regrown W d os));clear HR HX s0 s1 s2 s3 s4 s5 s6 s7 s8 s9;refine wp_region_quiet_below (by kernel_rfl) (by kernel_rfl) ?_
       repeat (first|go_big_quiet_step ((first|(go_at_call 114;exact Calls.regrown_of (BX s true _ H1.out))|(go_at_call 115;exact Calls.regrown_of (DW l true _ H2.out))|(go_at_call 88;exact Calls.regrown_of (AF (CY fr ev ct un D M Y _ dc _ mc _ yc ds ms ys _ (L1.out _ _)) H3.out))|(go_at_call 116;exact Calls.regrown_of (DX X _ xc x true _ (L2.out _ _) rfl (by omega) H4.out))|(go_at_call 90;exact Calls.regrown_of (DE _))|(go_at_call 89;exact Calls.regrown_of (AF (E7 fr ev ct un D M Y _ dc _ mc _ yc 0 0 0 (-1) none none none 0 0 0 0 0 0 ds ms ys [] [] [] _ (L1.out _ _) (C7 _)) H6.out))))|quiet_step ((first|(go_at_call 114;exact Calls.regrown_of (BX s true _ H1.out))|(go_at_call 115;exact Calls.regrown_of (DW l true _ H2.out))|(go_at_call 88;exact Calls.regrown_of (AF (CY fr ev ct un D M Y _ dc _ mc _ yc ds ms ys _ (L1.out _ _)) H3.out))|(go_at_call 116;exact Calls.regrown_of (DX X _ xc x true _ (L2.out _ _) rfl (by omega) H4.out))|(go_at_call 90;exact Calls.regrown_of (DE _))|(go_at_call 89;exact Calls.regrown_of (AF (E7 fr ev ct un D M Y _ dc _ mc _ yc 0 0 0 (-1) none none none 0 0 0 0 0 0 ds ms ys [] [] [] _ (L1.out _ _) (C7 _)) H6.out)))))
       refine wpQuiet_nil ?_;intro _ hw';obtain ⟨⟨nq,osq⟩,hw''⟩:=hw';subst hw'';replace HBX:=A5 (andthen HBX.out (below_regrown W nq osq));go_wp2_with fail;go_ret;exact ⟨rfl,HBX.out⟩
      ·simp only [Bool.true_and,z0G h5,Bool.false_or,Bool.not_true];have H1:=A5 h1;have H2:=A5 h2;have H3:=A5 h3;have H4:=A5 h4;have q0:((x.length:Int)==0)=false:=by rw [beq_eq_false_iff_ne];omega
       have q1:(x.length==0)=false:=by rw [beq_eq_false_iff_ne];omega
       have H6:=A5 h6;clear h1 h2 h3 h4 h5 h6;go_enter func80,ntmps80;go_wp2_with fail;generalize w.alloc (.cells #[.int .i64 s,.int .i64 l,.int .i64 fr,.int .i64 ev,.int .i64 ct,.int .i64 un,.slice D ds.length dc,.slice M ms.length mc,.slice Y ys.length yc,.slice X x.length xc] 92)=W at *;have f0:=fun d os=>cell_regrown s0 d os
       have f1:=fun d os=>cell_regrown s1 d os
       have f2:=fun d os=>cell_regrown s2 d os
       have f3:=fun d os=>cell_regrown s3 d os
       have f4:=fun d os=>cell_regrown s4 d os
       have f5:=fun d os=>cell_regrown s5 d os
       have f6:=fun d os=>cell_regrown s6 d os
       have f7:=fun d os=>cell_regrown s7 d os
       have f8:=fun d os=>cell_regrown s8 d os
       have f9:=fun d os=>cell_regrown s9 d os
       have L1:=A5 (fun d os=>DS.keep HR.out (below_regrown W d os));have L2:=A5 (fun d os=>BS.keep HX.out (below_regrown W d os));clear HR HX s0 s1 s2 s3 s4 s5 s6 s7 s8 s9;refine wp_region_quiet_below (by kernel_rfl) (by kernel_rfl) ?_
       repeat (first|go_big_quiet_step ((first|(go_at_call 114;exact Calls.regrown_of (BX s true _ H1.out))|(go_at_call 115;exact Calls.regrown_of (DW l true _ H2.out))|(go_at_call 88;exact Calls.regrown_of (AF (CY fr ev ct un D M Y _ dc _ mc _ yc ds ms ys _ (L1.out _ _)) H3.out))|(go_at_call 116;exact Calls.regrown_of (DX X _ xc x true _ (L2.out _ _) rfl (by omega) H4.out))|(go_at_call 90;exact Calls.regrown_of (DE _))|(go_at_call 89;exact Calls.regrown_of (AF (E7 fr ev ct un D M Y _ dc _ mc _ yc 0 0 0 (-1) none none none 0 0 0 0 0 0 ds ms ys [] [] [] _ (L1.out _ _) (C7 _)) H6.out))))|quiet_step ((first|(go_at_call 114;exact Calls.regrown_of (BX s true _ H1.out))|(go_at_call 115;exact Calls.regrown_of (DW l true _ H2.out))|(go_at_call 88;exact Calls.regrown_of (AF (CY fr ev ct un D M Y _ dc _ mc _ yc ds ms ys _ (L1.out _ _)) H3.out))|(go_at_call 116;exact Calls.regrown_of (DX X _ xc x true _ (L2.out _ _) rfl (by omega) H4.out))|(go_at_call 90;exact Calls.regrown_of (DE _))|(go_at_call 89;exact Calls.regrown_of (AF (E7 fr ev ct un D M Y _ dc _ mc _ yc 0 0 0 (-1) none none none 0 0 0 0 0 0 ds ms ys [] [] [] _ (L1.out _ _) (C7 _)) H6.out)))))
       refine wpQuiet_nil ?_;intro _ hw';obtain ⟨⟨nq,osq⟩,hw''⟩:=hw';subst hw'';replace HBX:=A5 (andthen HBX.out (below_regrown W nq osq));go_wp2_with fail;go_ret;exact ⟨rfl,HBX.out⟩
theorem xH (e:Ev.E) (m:Mem) (b:Bool) (w:World) (h:EvL w e m) (hb:Ev.OH e=b) :
  Calls prog 80 #[.agg #[.int .i64 e.st,.int .i64 e.lg,.int .i64 e.r.fr,.int .i64 e.r.ev,.int .i64 e.r.ct,.int .i64 e.r.un,.slice m.D e.r.ds.length m.dc,.slice m.M e.r.ms.length m.mc,.slice m.Y e.r.ys.length m.yc,.slice m.X e.ex.length m.xc]] w (Ans w (.bool b)):=by subst hb;exact qI e m w h
theorem xI (u t:Tx) (b:Bool) (w:World) (hu:u.length<=40000) (ht:t.length<=40000) (h:(Ev.FT u&&Ev.E0 t)=b) :
  Calls prog 79 #[.agg #[.string (str u),.string (str t)]] w (Ans w (.bool b)):=by subst h;exact qH u t w hu ht
theorem XY (e:Ev.E) (m:Mem) (w:World) (h:EvL w e m) :
  Calls prog 53 #[paV e m] w (Ans w (.bool (Ev.isE e))):=by
 have HBX:=A5 (more (start w) (.cells #[.string (str e.uid),.string (str e.text),.int .i64 e.st,.int .i64 e.lg,.int .i64 e.r.fr,.int .i64 e.r.ev,.int .i64 e.r.ct,.int .i64 e.r.un,.slice m.D e.r.ds.length m.dc,.slice m.M e.r.ms.length m.mc,.slice m.Y e.r.ys.length m.yc,.slice m.X e.ex.length m.xc,.slice m.O e.rooms.length m.oc] 96));have H0:Ev.isE e=(Ev.Z6 e&&(Ev.OH e&&Ev.EZ e.rooms)):=rfl;rw [H0];clear H0;have HL:=A5 (h.keep HBX.out);have hul:=h.ul;have htl:=h.tl;have hol:=h.ol;have key:∀ (bw bt:Bool),Ev.Z6 e=bw->Ev.OH e=bt->Calls prog 53 #[paV e m] w (Ans w (.bool (bw&&(bt&&Ev.EZ e.rooms)))):=by
  intro bw bt h1 h2;have C1:=A5 (fun w=>xI e.uid e.text bw w hul htl h1);have C2:=A5 (fun w h=>xH e m bt w h h2);have C3:=A5 (fun w h=>P9 m.O _ m.oc e.rooms w h rfl (by omega));clear h1 h2 h;generalize Ev.EZ e.rooms=RB at *;obtain ⟨u,t,s,l,o,⟨fr,ev,ct,un,ds,ms,ys⟩,x⟩:=e;obtain ⟨O,oc,D,dc,M,mc,Y,yc,X,xc⟩:=m;simp only [paV] at HBX HL C1 C2 C3 ⊢;generalize str u=U at *;generalize str t=T at *;have HT:=A5 (fun w (h:EvL w ⟨u,t,s,l,o,⟨fr,ev,ct,un,ds,ms,ys⟩,x⟩ ⟨O,oc,D,dc,M,mc,Y,yc,X,xc⟩)=>h.o);simp only at HT;have s0:=AS w #[.string U,.string T,.int .i64 s,.int .i64 l,.int .i64 fr,.int .i64 ev,.int .i64 ct,.int .i64 un,.slice D ds.length dc,.slice M ms.length mc,.slice Y ys.length yc,.slice X x.length xc,.slice O o.length oc] 96 0 _ rfl;have s1:=AS w #[.string U,.string T,.int .i64 s,.int .i64 l,.int .i64 fr,.int .i64 ev,.int .i64 ct,.int .i64 un,.slice D ds.length dc,.slice M ms.length mc,.slice Y ys.length yc,.slice X x.length xc,.slice O o.length oc] 96 1 _ rfl;have s2:=AS w #[.string U,.string T,.int .i64 s,.int .i64 l,.int .i64 fr,.int .i64 ev,.int .i64 ct,.int .i64 un,.slice D ds.length dc,.slice M ms.length mc,.slice Y ys.length yc,.slice X x.length xc,.slice O o.length oc] 96 2 _ rfl;have s3:=AS w #[.string U,.string T,.int .i64 s,.int .i64 l,.int .i64 fr,.int .i64 ev,.int .i64 ct,.int .i64 un,.slice D ds.length dc,.slice M ms.length mc,.slice Y ys.length yc,.slice X x.length xc,.slice O o.length oc] 96 3 _ rfl;have s4:=AS w #[.string U,.string T,.int .i64 s,.int .i64 l,.int .i64 fr,.int .i64 ev,.int .i64 ct,.int .i64 un,.slice D ds.length dc,.slice M ms.length mc,.slice Y ys.length yc,.slice X x.length xc,.slice O o.length oc] 96 4 _ rfl;have s5:=AS w #[.string U,.string T,.int .i64 s,.int .i64 l,.int .i64 fr,.int .i64 ev,.int .i64 ct,.int .i64 un,.slice D ds.length dc,.slice M ms.length mc,.slice Y ys.length yc,.slice X x.length xc,.slice O o.length oc] 96 5 _ rfl;have s6:=AS w #[.string U,.string T,.int .i64 s,.int .i64 l,.int .i64 fr,.int .i64 ev,.int .i64 ct,.int .i64 un,.slice D ds.length dc,.slice M ms.length mc,.slice Y ys.length yc,.slice X x.length xc,.slice O o.length oc] 96 6 _ rfl;have s7:=AS w #[.string U,.string T,.int .i64 s,.int .i64 l,.int .i64 fr,.int .i64 ev,.int .i64 ct,.int .i64 un,.slice D ds.length dc,.slice M ms.length mc,.slice Y ys.length yc,.slice X x.length xc,.slice O o.length oc] 96 7 _ rfl;have s8:=AS w #[.string U,.string T,.int .i64 s,.int .i64 l,.int .i64 fr,.int .i64 ev,.int .i64 ct,.int .i64 un,.slice D ds.length dc,.slice M ms.length mc,.slice Y ys.length yc,.slice X x.length xc,.slice O o.length oc] 96 8 _ rfl;have s9:=AS w #[.string U,.string T,.int .i64 s,.int .i64 l,.int .i64 fr,.int .i64 ev,.int .i64 ct,.int .i64 un,.slice D ds.length dc,.slice M ms.length mc,.slice Y ys.length yc,.slice X x.length xc,.slice O o.length oc] 96 9 _ rfl;have s10:=AS w #[.string U,.string T,.int .i64 s,.int .i64 l,.int .i64 fr,.int .i64 ev,.int .i64 ct,.int .i64 un,.slice D ds.length dc,.slice M ms.length mc,.slice Y ys.length yc,.slice X x.length xc,.slice O o.length oc] 96 10 _ rfl;have s11:=AS w #[.string U,.string T,.int .i64 s,.int .i64 l,.int .i64 fr,.int .i64 ev,.int .i64 ct,.int .i64 un,.slice D ds.length dc,.slice M ms.length mc,.slice Y ys.length yc,.slice X x.length xc,.slice O o.length oc] 96 11 _ rfl;have s12:=AS w #[.string U,.string T,.int .i64 s,.int .i64 l,.int .i64 fr,.int .i64 ev,.int .i64 ct,.int .i64 un,.slice D ds.length dc,.slice M ms.length mc,.slice Y ys.length yc,.slice X x.length xc,.slice O o.length oc] 96 12 _ rfl
  cases bw
  ·clear C2 C3 HT HL s2 s3 s4 s5 s6 s7 s8 s9 s10 s11 s12;go_enter func53,ntmps53;go_wp2_with fail;refine (C1.out _).mono ?_;rintro e w1 ⟨rfl,hb⟩;replace HBX:=A5 (andthen HBX.out hb);clear hb;go_wp2_with fail;go_ret;exact ⟨rfl,HBX.out⟩
  cases bt
  ·go_enter func53,ntmps53;go_wp2_with fail;refine (C1.out _).mono ?_;rintro e w1 ⟨rfl,hb⟩;replace HBX:=A5 (andthen HBX.out hb);replace HL:=A5 (HL.out.keep hb);replace s2:=A9 hb s2;replace s3:=A9 hb s3;replace s4:=A9 hb s4;replace s5:=A9 hb s5;replace s6:=A9 hb s6;replace s7:=A9 hb s7;replace s8:=A9 hb s8;replace s9:=A9 hb s9;replace s10:=A9 hb s10;replace s11:=A9 hb s11;replace s12:=A9 hb s12;clear hb;go_wp2_with fail;refine (C2.out _ HL.out).mono ?_;rintro e w2 ⟨rfl,hb⟩;replace HBX:=A5 (andthen HBX.out hb);clear hb;go_wp2_with fail;go_ret;exact ⟨rfl,HBX.out⟩
  ·go_enter func53,ntmps53;go_wp2_with fail;refine (C1.out _).mono ?_;rintro e w1 ⟨rfl,hb⟩;replace HBX:=A5 (andthen HBX.out hb);replace HL:=A5 (HL.out.keep hb);replace s2:=A9 hb s2;replace s3:=A9 hb s3;replace s4:=A9 hb s4;replace s5:=A9 hb s5;replace s6:=A9 hb s6;replace s7:=A9 hb s7;replace s8:=A9 hb s8;replace s9:=A9 hb s9;replace s10:=A9 hb s10;replace s11:=A9 hb s11;replace s12:=A9 hb s12;clear hb;go_wp2_with fail;refine (C2.out _ HL.out).mono ?_;rintro e w2 ⟨rfl,hb⟩;replace HBX:=A5 (andthen HBX.out hb);replace HL:=A5 (HL.out.keep hb);replace s12:=A9 hb s12;clear hb;go_wp2_with fail;refine (C3.out _ (HT.out _ HL.out)).mono ?_;rintro e w3 ⟨rfl,hb⟩;replace HBX:=A5 (andthen HBX.out hb);clear hb;go_wp2_with fail;go_ret;exact ⟨rfl,HBX.out⟩
 exact key _ _ rfl rfl
theorem ZP (U T:ByteArray) (s l fr ev ct un:Int) (O D M Y X:Option Addr) (on oc dn dc mn mc yn yc xn xc:Nat) (w:World) :
  Calls prog 52 #[.agg #[.string U,.string T,.int .i64 s,.int .i64 l,.slice O on oc,.int .i64 fr,.int .i64 ev,.int .i64 ct,.int .i64 un,.slice D dn dc,.slice M mn mc,.slice Y yn yc,.slice X xn xc]] w (Ans w (.agg #[.string U,.string T,.int .i64 s,.int .i64 l,.int .i64 fr,.int .i64 ev,.int .i64 ct,.int .i64 un,.slice D dn dc,.slice M mn mc,.slice Y yn yc,.slice X xn xc,.slice O on oc])):=by
 go_enter func52,ntmps52;go_wp2_with fail;exact bodyPost_ret (v:=.agg #[.string U,.string T,.int .i64 s,.int .i64 l,.int .i64 fr,.int .i64 ev,.int .i64 ct,.int .i64 un,.slice D dn dc,.slice M mn mc,.slice Y yn yc,.slice X xn xc,.slice O on oc]) (by simp [results,Tryz.results52,go_sem]) rfl ⟨rfl,more (more (start _) _) _⟩
theorem mK (e:Ev.E) (m:Mem) (w:World) (h:EvL w e m) :
  Calls prog 26 #[evV e m] w (Ans w (.bool (Ev.isE e))):=by
 have HBX:=A5 (more (start w) (.cells #[.string (str e.uid),.string (str e.text),.int .i64 e.st,.int .i64 e.lg,.slice m.O e.rooms.length m.oc,.int .i64 e.r.fr,.int .i64 e.r.ev,.int .i64 e.r.ct,.int .i64 e.r.un,.slice m.D e.r.ds.length m.dc,.slice m.M e.r.ms.length m.mc,.slice m.Y e.r.ys.length m.yc,.slice m.X e.ex.length m.xc] 47));have HL:=A5 (h.keep HBX.out);have HV:=A5 (fun w h=>XY e m w h);clear h;generalize Ev.isE e=RB at *;obtain ⟨u,t,s,l,o,⟨fr,ev,ct,un,ds,ms,ys⟩,x⟩:=e;obtain ⟨O,oc,D,dc,M,mc,Y,yc,X,xc⟩:=m;simp only [evV,paV] at HBX HL HV ⊢;generalize str u=U at *;generalize str t=T at *;have s0:=AS w #[.string U,.string T,.int .i64 s,.int .i64 l,.slice O o.length oc,.int .i64 fr,.int .i64 ev,.int .i64 ct,.int .i64 un,.slice D ds.length dc,.slice M ms.length mc,.slice Y ys.length yc,.slice X x.length xc] 47 0 _ rfl;have s1:=AS w #[.string U,.string T,.int .i64 s,.int .i64 l,.slice O o.length oc,.int .i64 fr,.int .i64 ev,.int .i64 ct,.int .i64 un,.slice D ds.length dc,.slice M ms.length mc,.slice Y ys.length yc,.slice X x.length xc] 47 1 _ rfl;have s2:=AS w #[.string U,.string T,.int .i64 s,.int .i64 l,.slice O o.length oc,.int .i64 fr,.int .i64 ev,.int .i64 ct,.int .i64 un,.slice D ds.length dc,.slice M ms.length mc,.slice Y ys.length yc,.slice X x.length xc] 47 2 _ rfl;have s3:=AS w #[.string U,.string T,.int .i64 s,.int .i64 l,.slice O o.length oc,.int .i64 fr,.int .i64 ev,.int .i64 ct,.int .i64 un,.slice D ds.length dc,.slice M ms.length mc,.slice Y ys.length yc,.slice X x.length xc] 47 3 _ rfl;have s4:=AS w #[.string U,.string T,.int .i64 s,.int .i64 l,.slice O o.length oc,.int .i64 fr,.int .i64 ev,.int .i64 ct,.int .i64 un,.slice D ds.length dc,.slice M ms.length mc,.slice Y ys.length yc,.slice X x.length xc] 47 4 _ rfl;have s5:=AS w #[.string U,.string T,.int .i64 s,.int .i64 l,.slice O o.length oc,.int .i64 fr,.int .i64 ev,.int .i64 ct,.int .i64 un,.slice D ds.length dc,.slice M ms.length mc,.slice Y ys.length yc,.slice X x.length xc] 47 5 _ rfl;have s6:=AS w #[.string U,.string T,.int .i64 s,.int .i64 l,.slice O o.length oc,.int .i64 fr,.int .i64 ev,.int .i64 ct,.int .i64 un,.slice D ds.length dc,.slice M ms.length mc,.slice Y ys.length yc,.slice X x.length xc] 47 6 _ rfl;have s7:=AS w #[.string U,.string T,.int .i64 s,.int .i64 l,.slice O o.length oc,.int .i64 fr,.int .i64 ev,.int .i64 ct,.int .i64 un,.slice D ds.length dc,.slice M ms.length mc,.slice Y ys.length yc,.slice X x.length xc] 47 7 _ rfl;have s8:=AS w #[.string U,.string T,.int .i64 s,.int .i64 l,.slice O o.length oc,.int .i64 fr,.int .i64 ev,.int .i64 ct,.int .i64 un,.slice D ds.length dc,.slice M ms.length mc,.slice Y ys.length yc,.slice X x.length xc] 47 8 _ rfl;have s9:=AS w #[.string U,.string T,.int .i64 s,.int .i64 l,.slice O o.length oc,.int .i64 fr,.int .i64 ev,.int .i64 ct,.int .i64 un,.slice D ds.length dc,.slice M ms.length mc,.slice Y ys.length yc,.slice X x.length xc] 47 9 _ rfl;have s10:=AS w #[.string U,.string T,.int .i64 s,.int .i64 l,.slice O o.length oc,.int .i64 fr,.int .i64 ev,.int .i64 ct,.int .i64 un,.slice D ds.length dc,.slice M ms.length mc,.slice Y ys.length yc,.slice X x.length xc] 47 10 _ rfl;have s11:=AS w #[.string U,.string T,.int .i64 s,.int .i64 l,.slice O o.length oc,.int .i64 fr,.int .i64 ev,.int .i64 ct,.int .i64 un,.slice D ds.length dc,.slice M ms.length mc,.slice Y ys.length yc,.slice X x.length xc] 47 11 _ rfl;have s12:=AS w #[.string U,.string T,.int .i64 s,.int .i64 l,.slice O o.length oc,.int .i64 fr,.int .i64 ev,.int .i64 ct,.int .i64 un,.slice D ds.length dc,.slice M ms.length mc,.slice Y ys.length yc,.slice X x.length xc] 47 12 _ rfl;go_enter func26,ntmps26;go_wp2_with fail;refine (ZP _ _ _ _ _ _ _ _ _ _ _ _ _ _ _ _ _ _ _ _ _ _ _ _).mono ?_;rintro e w1 ⟨rfl,hb⟩;replace HBX:=A5 (andthen HBX.out hb);replace HL:=A5 (HL.out.keep hb);clear hb s0 s1 s2 s3 s4 s5 s6 s7 s8 s9 s10 s11 s12;go_wp2_with fail
 refine (HV.out _ HL.out).mono ?_;rintro e w2 ⟨rfl,hb⟩;replace HBX:=A5 (andthen HBX.out hb);clear hb;go_wp2_with fail;go_ret;exact ⟨rfl,HBX.out⟩
end Go.Proofs.YtfecnkhoojnkbaaGreatDoor

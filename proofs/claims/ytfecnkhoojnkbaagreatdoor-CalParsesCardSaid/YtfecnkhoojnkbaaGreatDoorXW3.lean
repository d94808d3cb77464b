import Derived.Great.BuildSlice
import Derived.Lib.ItoaLen
import Derived.Test.YtfecnkhoojnkbaaGreatDoorXW2
import Derived.Test.YtfecnkhoojnkbaaGreatDoorXM2
set_option maxHeartbeats 8000000
set_option maxRecDepth 1000000
namespace Go.Proofs.YtfecnkhoojnkbaaGreatDoor
open Go.RowKit Rul Rt Go.Sort Tryz
def BU (w:World) (A:Option Addr) (l:List Tx):Prop :=
 l≠[]->∃ b off,A=some ⟨b,off,none⟩/\b<w.heap.size/\∀ i (h:i<l.length),w.cell? ⟨b,off+i,none⟩=some (.string (str l[i]))
theorem BU.keep {w w':World} {A:Option Addr} {l:List Tx} (h:BU w A l) (hb:Below w.heap.size w w'):BU w' A l:=fun hn=>by
 obtain ⟨b,off,e,hl,hc⟩:=h hn;exact ⟨b,off,e,Nat.lt_of_lt_of_le hl hb.size,fun i hi=>(hb.cell (p:=⟨b,_,none⟩) hl).trans (hc i hi)⟩
theorem BU.nil (w:World) (A:Option Addr):BU w A []:=fun h=>absurd rfl h
def FV (l:List Tx):List Value:=l.map fun t=>Value.string (str t)
theorem K5 (l k:List Tx):FV (l++k)=FV l++FV k:=List.map_append
theorem VN (l:List Tx):(FV l).length=l.length:=List.length_map _
abbrev BY (w:World) (B:Nat) (v:Value) (l:List Tx):Prop:=w.ownsRow B 9 1 v l.length (FV l)
theorem BY.row {w:World} {B:Nat} {v:Value} {l:List Tx} (h:BY w B v l):∃ A cap,v=.slice A l.length cap/\BU w A l/\l.length<=cap:=by
 have h2:=h.2;rcases h2 with ⟨rfl,hn⟩|⟨g,cap,cur,rfl,hb,hg,hnc,hcm,hcs,htake⟩
 ·refine ⟨none,0,by rw [hn],fun hl=>absurd (List.eq_nil_of_length_eq_zero hn) hl,by omega⟩
 ·refine ⟨some ⟨g,0,none⟩,cap,rfl,fun _=>⟨g,0,rfl,(h.lt g rfl).2,fun i hi=>?_⟩,hnc⟩;have hc:=World.ownsRow.cells h (g:=g) rfl;have g1:=hc i (.string (str l[i])) (by simp [FV,hi]);rw [plus] at g1;rw [Nat.zero_add];exact g1
theorem BY.keep {w w1:World} {B:Nat} {v:Value} {l:List Tx} (h:BY w B v l) (hb:Below w.heap.size w w1):BY w1 B v l :=
 World.ownsRow.kept (row:=none) h ⟨hb.os,hb.tape,hb.output,hb.size,fun i hi _=>hb.block i hi⟩ (by cases v.ownBlock <;> simp)
theorem IK (w:World) (B:Nat):BY w B (.slice none 0 0) []:=World.ownsRow_nil _ _ _ _
theorem BY.low {w:World} {B B2:Nat} {v:Value} {l:List Tx} (h:BY w B v l) (hb:B2<=B):BY w B2 v l:=by
 refine ⟨h.1,?_⟩;rcases h.2 with g|⟨g,cap,cur,e,hg,r⟩
 ·exact Or.inl g
 ·exact Or.inr ⟨g,cap,cur,e,Nat.le_trans hb hg,r⟩
theorem K3:(prog.info? 9).map (fun i=>(i.zero,i.size,i.bytes))=some (some (.string ByteArray.empty),1,16):=by kernel_rfl
theorem DR {ops:Array Oper} {rest:List Oper} {o:Oper} {a:Act} {Q:Exit->Act->World->Prop} {w:World} {B:Nat} {v:Value} {l:List Tx} {p:Tx} (hgd:o.guard=none) (s x:Operand)
  (ho:o.op=.call { callee:=.builtin .append,args:=#[s,x],argTypes:=#[52,52] }) (hs:a.eval s=v) {N:Nat} (hN:w.heap.size=N) (hx:a.eval x=.slice (some ⟨N,0,none⟩) 1 1)
  (hown:BY w B v l) (hB:B<=w.heap.size) (hn:l.length<=1000000)
  (h:∀ v' w',BY w' B v' (l++[p])->Below B w w'->wpList prog ops Q rest (a.put o.dst v') w') :
  wpList prog ops Q (o :: rest) a (w.alloc (.cells #[.string (str p)] 9)):=by
 subst hN;obtain ⟨i0,hi,hz0,hz1,hz2⟩:=info_parts K3;refine wpList_append_own _ hgd s x 52 ho B 9 i0 _ 1 16 underlying52 hi hz0 hz1 hz2 rfl (by decide) v l.length (FV l) hs (hown.alloc _) ⟨w.heap.size,0,none⟩ 1 1 [.string (str p)] hx rfl ?_ ?_ ?_ ?_ ?_ ?_
 ·intro j u hu;rw [plus,World.cell?_alloc_at _ _ _ _ rfl];exact (by simpa using hu)
 ·intro u hu;simp only [List.mem_cons,List.not_mem_nil,or_false] at hu;subst hu;rfl
 ·unfold maxLen;omega
 ·omega
 ·simp only [World.size_alloc];omega
 ·intro v' w' h2 h3 _;refine h v' w' (by rw [BY,K5,z0J];exact h2) (((Below.refl B w).alloc hB _).grown h3 (by simp only [World.size_alloc];omega) fun j hj=>(hown.lt j hj).1)
theorem VO {ops:Array Oper} {rest:List Oper} {o:Oper} {a:Act} {Q:Exit->Act->World->Prop} {w:World} (hgd:o.guard=none) (l c:Operand)
  (ho:o.op=.makeSlice 52 l c) (hl:a.eval l=.int .i64 0) {C:Int} {n:Nat} (hc:a.eval c=.int .i64 C) (hC:C=(n:Int)) (hn:n<=1000000)
  (h:∀ v w',BY w' w.heap.size v []->Below w.heap.size w w'->wpList prog ops Q rest (a.put o.dst v) w') :
  wpList prog ops Q (o :: rest) a w:=by
 obtain ⟨i0,hi,hz0,hz1,hz2⟩:=info_parts K3;refine wpList_make_own w hgd l c 52 ho w.heap.size 9 i0 _ 1 underlying52 hi hz0 hz1 .i64 .i64 C n hl hc hC (by rw [hz2];omega) (by unfold maxLen;omega) (Nat.le_refl _) ?_;intro w' h2 h3;exact h _ w' h2 ((Below.refl w.heap.size w).grown h3 (Nat.le_refl _) fun j hj=>by cases hj)
theorem AO (a b:Tx):(a==b)=decide (a=b):=by
 by_cases h:a=b
 ·subst h;simp
 ·simp [h]
def ixE (l:List Tx) (x:Tx):Int:=match F2 l x with
 | some k=>k
 | none=>-1
theorem aC {x:Tx}:∀ (l:List Tx) (j:Nat) (hj:j<l.length),(∀ i (hi:i<l.length),i<j->l[i]≠x)->l[j]=x->F2 l x=some j
 | [],j,hj,_,_=>by simp at hj
 | y :: l,0,hj,_,h=>by
  have:y=x:=h;unfold F2;rw [if_pos this]
 | y :: l,j+1,hj,hn,h=>by
  have h0:y≠x:=hn 0 (by simp) (by omega);unfold F2;rw [if_neg h0,aC l j (by simpa using hj) (fun i hi hij=>hn (i+1) (by simpa using hi) (by omega)) h];rfl
theorem LR {x:Tx}:∀ (l:List Tx),(∀ i (hi:i<l.length),l[i]≠x)->F2 l x=none
 | [],_=>rfl
 | y :: l,hn=>by
  have h0:y≠x:=hn 0 (by simp);unfold F2;rw [if_neg h0,LR l fun i hi=>hn (i+1) (by simpa using hi)];rfl
theorem A2V (l:List Tx) (x:Tx) (j:Nat) (hj:j<l.length) (hn:∀ i (hi:i<l.length),i<j->l[i]≠x) (h:l[j]=x):ixE l x=j:=by
 unfold ixE;rw [aC l j hj hn h]
theorem A2W (l:List Tx) (x:Tx) (hn:∀ i (hi:i<l.length),l[i]≠x):ixE l x=-1:=by
 unfold ixE;rw [LR l hn]
theorem A11 (l:List Tx) (x:Tx):decide (0<=ixE l x)=decide (x∈l):=by
 unfold ixE
 cases h:F2 l x with
 | none=>rw [z0G (X6 h)];rfl
 | some k=>rw [z0H (List.mem_of_getElem? (FO h))];exact z0H (Int.natCast_nonneg k)
theorem aD (m:Tx) (A:Option Addr) (n c:Nat) (l:List Tx) (w:World) (hl:BU w A l) (hn:n=l.length) (hsz:l.length<=1000) :
  Calls prog 215 #[.slice A n c,.string (str m)] w (Ans w (.int .i64 (ixE l m))):=by
 subst hn
 by_cases hnil:l=[]
 ·subst hnil;go_enter func215,ntmps215;go_wp2_with fail;refine wp_loop_rounds 1 ?_;rw [rounds_succ];go_wp2_with fail;go_ret;exact ⟨rfl,start _⟩
 ·obtain ⟨b1,o1,rfl,hb1,hc1⟩:=hl hnil;have HC1:=A5 hc1;clear hl hc1 hnil;go_enter func215,ntmps215;go_wp2_with fail
  go_loopw [8] (fun i wr=>∃ j:Nat,j<=l.length/\i=.int .i64 j/\(∀ i (hi:i<l.length),i<j->l[i]≠m)/\Below w.heap.size w wr) (fun i _=>l.length-(intOf i).toNat)
  case atStart=>exact ⟨0,Nat.zero_le _,rfl,fun i hi h=>absurd h (Nat.not_lt_zero _),start _⟩
  case round =>
   obtain ⟨j,hj,rfl,heq,hbw⟩:=hrel;have HE:=A5 heq;clear heq
   by_cases hlt:j<l.length
   ·obtain ⟨x,hx⟩:∃ x,l[j]=x:=⟨_,rfl⟩;have p1:wr.cell? ⟨b1,o1+j,none⟩=some (.string (str x)):=by rw [<- hx];exact (hbw.cell (p:=⟨b1,_,none⟩) hb1).trans (HC1.out j hlt)
    have hi0:(0:Int)<=(j:Int):=by omega
    have hi1:(j:Int)<(l.length:Int):=by omega
    have q1:=AH x;have q2:=AH m
    by_cases hq:m=x
    ·have HN:=A5 (A2V l m j hlt HE.out (by rw [hx,hq]));have q3:(m==x)=true:=by rw [AO,z0H hq]
     have q4:(x==m)=true:=by rw [AO,z0H hq.symm]
     clear hx hq;go_wp2_with fail;go_ret;exact ⟨FZ HN.out.symm,hbw⟩
    ·have HN:Hid (∀ i (hi:i<l.length),i<j+1->l[i]≠m):=A5 (fun i hi hij=>by
      rcases Nat.lt_or_ge i j with g|g
      ·exact HE.out i hi g
      ·obtain rfl:i=j:=by omega
       rw [hx];exact fun e=>hq e.symm)
     have q3:(m==x)=false:=by rw [AO,z0G hq]
     have q4:(x==m)=false:=by rw [AO,z0G fun e=>hq e.symm]
     clear hx hq;go_wp2_with fail
     go_roundw
     case rel=>exact ⟨j+1,by omega,by go_num,HN.out,hbw⟩
     case measure=>simp [intOf];omega
   ·obtain rfl:j=l.length:=by omega
    have HF:=A5 (A2W l m fun i hi=>HE.out i hi hi);go_wp2_with fail;go_ret;exact ⟨FZ HF.out.symm,hbw⟩
theorem I5 (m:Tx) (A:Option Addr) (n c:Nat) (l:List Tx) (w:World) (hl:BU w A l) (hn:n=l.length) (hsz:l.length<=1000) :
  Calls prog 203 #[.slice A n c,.string (str m)] w (Ans w (.bool (decide (m∈l)))):=by
 subst hn;have HL:=A5 hl;have HM:=A5 (A11 l m);clear hl;go_enter func203,ntmps203;go_wp2_with fail;refine (aD m A _ c l _ HL.out rfl hsz).mono ?_;rintro e w1 ⟨rfl,hb⟩;go_wp2_with fail;go_ret;exact ⟨AA HM.out,hb⟩
end Go.Proofs.YtfecnkhoojnkbaaGreatDoor
namespace Go.Proofs.YtfecnkhoojnkbaaGreatDoor
open Go.RowKit Rul Rt Tryz
theorem bs1 (p:Int) (w:World):(Instr.buildSlice 32 1 #[(0,.int .u8 p)]).run prog w=.ok (.slice (some ⟨w.heap.size,0,none⟩) 1 1) (w.alloc (.cells #[.int .u8 p] 5)):=by kernel_rfl
theorem cv1 (p:Int) (w:World) (b:Nat) (p1:0<=p) (p2:p<=255) (hc:w.cell? ⟨b,0,none⟩=some (.int .u8 p)) :
  (convert 32 9 (.slice (some ⟨b,0,none⟩) 1 1)).run prog w=.ok (.string (str [UInt8.ofNat p.toNat])) w:=by
 refine run_convert_bytes_back (P:=prog) w 32 9 5 ⟨b,0,none⟩ 1 [UInt8.ofNat p.toNat] underlying32 underlying5 underlying9 ?_;intro j hj;have hj2:j=0:=by simp at hj;omega
 subst hj2;simp [Addr.add,hc];omega
theorem VP (n:Int) (w:World) (h1:0<=n) (h2:n<10) :
  Calls prog 39 #[.int .i64 n] w (Ans w (.string (str (Lib.itoa n)))):=by
 have hbs:=bs1;have hcv:=cv1 (48+n) (w.alloc (.cells #[.int .u8 (48+n)] 5)) w.heap.size (by omega) (by omega) (by rw [World.cell?_alloc_at _ _ _ _ rfl];rfl);have HG:Hid ([UInt8.ofNat (48+n).toNat]=Lib.itoa n):=A5 (by rw [IA n h1,EI _ (by omega)];congr 2;omega);go_enter func39,ntmps39;go_wp2_with fail;go_ret;exact ⟨DA (by rw [HG.out]),more (start _) _⟩
theorem rJ (n:Int) (w:World) (h1:10<=n) (h2:n<=1000000000) (ih:∀ w,Calls prog 39 #[.int .i64 (n / 10)] w (Ans w (.string (str (Lib.itoa (n / 10)))))) :
  Calls prog 39 #[.int .i64 n] w (Ans w (.string (str (Lib.itoa n)))):=by
 have hbs:=bs1;have hcv:=fun w b=>cv1 (48+n % 10) w b (by omega) (by omega)
 have HG:Hid (Lib.itoa (n / 10)++[UInt8.ofNat (48+n % 10).toNat]=Lib.itoa n):=A5 (by
  rw [IA n (by omega),IA (n / 10) (by omega),L8 n.toNat (by omega)]
  congr 1
  ·congr 1;omega
  ·congr 2;omega)
 have HI:=A5 ih;have hlen:(Lib.itoa (n / 10)).length<=20:=by
  rw [IA (n / 10) (by omega)];have:=PA 9 (n / 10).toNat (by omega);omega
 generalize Lib.itoa (n / 10)=L at *;have hsz:(str L).size<=20:=by rw [AB];exact hlen
 have hsd:(str [UInt8.ofNat (48+n % 10).toNat]).size=1:=by rw [AB];rfl
 clear ih hlen;go_enter func39,ntmps39;go_wp2_with fail;have E1:IntKind.i64.wrap (n.tdiv 10)=n / 10:=by rw [Int.tdiv_eq_ediv_of_nonneg (by omega)];exact IntWalk.i64_in _ (by omega)
 have E2:n.tmod 10=n % 10:=Int.tmod_eq_emod_of_nonneg (by omega);have E3:IntKind.i64.wrap (48+n % 10)=48+n % 10:=IntWalk.i64_in _ (by omega);have E4:IntKind.u8.wrap (48+n % 10)=48+n % 10:=IntWalk.u8_in _ (by omega);have hcx0:(w.alloc (.cells #[.int .u8 (48+n % 10)] 5)).drew.cell? ⟨w.heap.size,0,none⟩=some (.int .u8 (48+n % 10)):=by simp
 go_region_with (first|(go_at_call 39;with_reducible refine (HI.out (w.alloc (.cells #[.int .u8 (48+n % 10)] 5)).drew).mono ?_;rintro e w2 ⟨rfl,hb⟩;have hcx:=A9 hb hcx0)|(go_at_call 39;with_reducible refine (HI.out _).mono ?_;rintro e w2 ⟨rfl,hb⟩))
 all_goals
  go_wp2_with fail;go_ret;refine ⟨DA (by rw [AM,HG.out]),?_⟩
  first
   | exact more (andthen (start w).drew hb) _
   | exact andthen ((more (start w) _).drew) hb
theorem VQ:∀ (k:Nat) (n:Int) (w:World),0<=n->n<=1000000000->n.toNat<=k →
  Calls prog 39 #[.int .i64 n] w (Ans w (.string (str (Lib.itoa n))))
 | 0,n,w,h0,h1,hk=>VP n w h0 (by omega)
 | k+1,n,w,h0,h1,hk=>by
  by_cases h:n<10
  ·exact VP n w h0 h
  ·exact rJ n w (by omega) h1 fun w'=>VQ k (n / 10) w' (by omega) (by omega) (by omega)
theorem F7 (n:Int) (w:World) (h0:-1000000000<=n) (h1:n<=1000000000) :
  Calls prog 39 #[.int .i64 n] w (Ans w (.string (str (Lib.itoa n)))):=by
 by_cases h:0<=n
 ·exact VQ n.toNat n w h h1 (Nat.le_refl _)
 ·have HG:Hid ([45]++Lib.itoa (-n)=Lib.itoa n):=A5 (by rw [TA n (by omega),IA (-n) (by omega),show (-n).toNat=n.natAbs by omega];rfl);have hlen:(Lib.itoa (-n)).length<=20:=by
   rw [IA (-n) (by omega)];have:=PA 9 (-n).toNat (by omega);omega
  have HI:=A5 (fun w=>VQ (-n).toNat (-n) w (by omega) (by omega) (Nat.le_refl _));generalize Lib.itoa (-n)=L at *;have hsz:(str L).size<=20:=by rw [AB];exact hlen
  clear hlen;go_enter func39,ntmps39;go_wp2_with fail;refine (HI.out _).mono ?_;rintro e w2 ⟨rfl,hb⟩;go_wp2_with fail;go_ret;exact ⟨DA (by rw [<- HG.out,<- AM];rfl),hb⟩
end Go.Proofs.YtfecnkhoojnkbaaGreatDoor
namespace Go.Proofs.YtfecnkhoojnkbaaGreatDoor
open Go.RowKit Rul Rt Go.Sort Tryz
def K6 (w:World) (l:List Tx) (e:Ending) (w':World):Prop:=∃ v,e=.returned v/\BY w' w.heap.size v l/\Below w.heap.size w w'
theorem AE (s:ByteArray):s.data.toList.length=s.size:=by simp
theorem BN (a b:UInt8):((a.toNat:Int)==(b.toNat:Int))=decide (a=b):=by
 by_cases h:a=b
 ·subst h;simp
 ·rw [z0G h,beq_eq_false_iff_ne];intro e;exact h (UInt8.toNat_inj.1 (by omega))
theorem K7 (s:ByteArray):s=str s.data.toList:=by apply ByteArray.ext;simp [str]
theorem GO (s:ByteArray) (a b:Nat):s.extract a b=str ((s.data.toList.take b).drop a):=by
 rw [K7 (s.extract a b),Lib.extract_data]
 congr 1
 rw [List.drop_take]
theorem I6 (s:ByteArray) (a:Nat):s.extract a s.size=str (s.data.toList.drop a):=by
 rw [GO]
 congr 2
 exact List.take_of_length_le (by simp)
theorem CV (s:ByteArray) (k:Nat) (h:k<s.size):s.data.toList.take (k+1)=s.data.toList.take k++[s[k]]:=by
 rw [List.take_succ_eq_append_getElem (by simpa using h)];rfl
theorem yE (c:UInt8) (l:Tx) (done:List Tx) (x:Tx) (h:cutAt c l=done++[x]):cutAt c (l++[c])=(done++[x])++[[]]:=by
 rw [OB,if_pos rfl,h]
theorem rK (c b:UInt8) (hb:b≠c) (l:Tx) (done:List Tx) (x:Tx) (h:cutAt c l=done++[x]):cutAt c (l++[b])=done++[x++[b]]:=by
 rw [OB,if_neg hb,h];simp
theorem MS (s:ByteArray) (c:UInt8) (C:Int) (w:World) (hC:C=(c.toNat:Int)) (hs:s.size<=100000) :
  Calls prog 165 #[.string s,.int .u8 C] w (K6 w (cutAt c s.data.toList)):=by
 have HC:=A5 hC;clear hC;go_enter func165,ntmps165;go_wp2_with fail
 go_loopw [5,6,7] (fun v f i wr=>∃ (j k:Nat) (done:List Tx),j<=s.size/\k<=j/\i=.int .i64 j/\f=.int .i64 k/\BY wr w.heap.size v done/\Hid (cutAt c (s.data.toList.take j)=done++[(s.data.toList.take j).drop k])/\Hid (done.length<=j)/\Below w.heap.size w wr) (fun _ _ i _=>s.size-(intOf i).toNat)
 case atStart=>exact ⟨0,0,[],Nat.zero_le _,Nat.le_refl _,rfl,rfl,IK _ _,A5 rfl,A5 (Nat.zero_le _),start _⟩
 case round =>
  obtain ⟨j,k,done,hj,hk,rfl,rfl,hown,HD,HL,hbw⟩:=hrel;have HO:=A5 hown;have HBR:=A5 hbw;clear hown hbw
  by_cases hlt:j<s.size
  ·have HT:=A5 (CV s j hlt)
   by_cases hq:s[j]=c
   ·have q:((s[j].toNat:Int)==C)=true:=by rw [HC.out,BN,z0H hq]
    have HN:Hid (cutAt c (s.data.toList.take (j+1))=(done++[(s.data.toList.take j).drop k])++[(s.data.toList.take (j+1)).drop (j+1)]):=A5 (by
     have e:(s.data.toList.take (j+1)).drop (j+1)=[]:=List.drop_eq_nil_of_le (by rw [List.length_take];omega);rw [e,HT.out,hq];exact yE c _ done _ HD.out)
    have HE:=A5 (GO s k j);have hz:=HBR.out.size;have hown:=HO.out;have hln:done.length<=1000000:=by have:=HL.out;omega
    have hkz:(0:Int)<=(k:Int):=by omega
    have hkj:(k:Int)<=(j:Int):=by omega
    have hjs:(j:Int)<=(s.size:Int):=by omega
    obtain ⟨X,hX⟩:∃ X,s.extract k j=X:=⟨_,rfl⟩;have HX:Hid (X=str ((s.data.toList.take j).drop k)):=A5 (hX▸HE.out);clear hq;go_wp2_with (at_builtin;rw [HX.out];refine DR (l:=done) (p:=(s.data.toList.take j).drop k) rfl _ _ rfl rfl rfl rfl hown hz hln ?_;intro v3 w3 hown3 hb3);have HO3:=A5 hown3;have HB3:=A5 (HBR.out.trans hb3);clear hown hown3 hb3 hz hln;go_wp2_with fail
    go_roundw
    case rel=>exact ⟨j+1,j+1,_,by omega,Nat.le_refl _,by go_num,by go_num,HO3.out,HN,A5 (by rw [z0J];have:=HL.out;simp;omega),HB3.out⟩
    case measure=>simp [intOf];omega
   ·have q:((s[j].toNat:Int)==C)=false:=by rw [HC.out,BN,z0G hq]
    have HN:Hid (cutAt c (s.data.toList.take (j+1))=done++[(s.data.toList.take (j+1)).drop k]):=A5 (by
     rw [HT.out,List.drop_append_of_le_length (by rw [List.length_take];simp;omega)];exact rK c _ hq _ done _ HD.out)
    clear hq;go_wp2_with fail
    go_roundw
    case rel=>exact ⟨j+1,k,done,by omega,by omega,by go_num,rfl,HO.out,HN,A5 (by have:=HL.out;omega),HBR.out⟩
    case measure=>simp [intOf];omega
  ·obtain rfl:j=s.size:=by omega
   have HF:Hid (cutAt c s.data.toList=done++[s.data.toList.drop k]):=A5 (by
    have:=HD.out;rw [List.take_of_length_le (by simp)] at this;exact this)
   have HE:=A5 (I6 s k);have hz:=HBR.out.size;have hown:=HO.out;have hln:done.length<=1000000:=by have:=HL.out;omega
   have hkz:(0:Int)<=(k:Int):=by omega
   have hkj:(k:Int)<=(s.size:Int):=by omega
   obtain ⟨X,hX⟩:∃ X,s.extract k s.size=X:=⟨_,rfl⟩;have HX:Hid (X=str (s.data.toList.drop k)):=A5 (hX▸HE.out);go_wp2_with (at_builtin;rw [HX.out];refine DR (l:=done) (p:=s.data.toList.drop k) rfl _ _ rfl rfl rfl rfl hown hz hln ?_;intro v3 w3 hown3 hb3);have HO3:=A5 hown3;have HB3:=A5 (HBR.out.trans hb3);clear hown hown3 hb3 hz hln;go_wp2_with fail;go_ret;exact ⟨_,rfl,by rw [HF.out];exact HO3.out,HB3.out⟩
def aF (t:Tx) (b:Bool):Value:=.tuple #[.int .i64 ((B8 t b).getD 0),.bool (B8 t b).isSome]
theorem BG {t:Tx} {b:Bool} (h:B8 t b=none):aF t b=.tuple #[.int .i64 0,.bool false]:=by unfold aF;rw [h];rfl
theorem EO {t:Tx} {b:Bool} {n:Int} (h:B8 t b=some n):aF t b=.tuple #[.int .i64 n,.bool true]:=by unfold aF;rw [h];rfl
theorem RI (t:Tx) (neg:Bool) (h1:1<=t.length) (h8:t.length<=8) (h0:(t.head?==some 48&&(decide (1<t.length)||neg))=false):FN t neg=t.all dgt:=by
 unfold FN;rw [z0H h1,z0H h8,h0];rfl
theorem G2 (s:ByteArray) (k:Nat) (h:k<s.size) (hd:dgt s[k]=false):s.data.toList.all dgt=false:=by
 rw [Bool.eq_false_iff];intro ha;rw [List.all_eq_true] at ha;have:=ha s[k] (by simp [ByteArray.getElem_eq_getElem_data]);rw [hd] at this
 cases this
theorem IS (c:UInt8) (h:(c.toNat:Int)<48∨57<(c.toNat:Int)):dgt c=false:=by
 rw [Bool.eq_false_iff];intro hc;rw [IW] at hc;omega
theorem NI (c:UInt8) (h1:¬ (c.toNat:Int)<48) (h2:¬ 57<(c.toNat:Int)):dgt c=true:=by rw [IW];omega
theorem F8 (t:Tx) (k:Nat) (hk:k<=8) (h:(t.take k).all dgt=true):vl (t.take k)<100000000:=by
 have h1:=lF _ _ rfl h;have h2:(t.take k).length<=8:=by rw [List.length_take];omega
 have h3:(10:Nat) ^ (t.take k).length<=10 ^ 8:=Nat.pow_le_pow_right (by omega) h2;omega
theorem I7 (s:ByteArray) (h:0<s.size):s.data.toList.head?=some s[0]:=by
 have hl:0<s.data.toList.length:=by simpa using h
 rw [List.head?_eq_getElem?,List.getElem?_eq_getElem hl];rfl
theorem yF (s:ByteArray) (b:Bool) (w:World) (hs:s.size<=100000) (hm:G6 s.data.toList b=true):
  Calls prog 132 #[.string s,.bool b] w fun e w'=>e=.returned (aF s.data.toList b)/\w=w':=by
 have hmm:=hm;unfold G6 at hmm;simp only [Bool.and_eq_true,decide_eq_true_eq,beq_iff_eq] at hmm;obtain ⟨hb,hl2,hh⟩:=hmm;subst hb;have hl1:1<s.size:=by simpa using hl2
 have hq:((s[0].toNat:Int)==45)=true:=by
  rw [I7 s (by omega)] at hh;injection hh with hh;rw [hh];rfl
 obtain ⟨T,hT⟩:∃ T,s.extract 1 s.size=T:=⟨_,rfl⟩;have hTl:T.data.toList=s.data.toList.tail:=by rw [<- hT,I6,AD,List.drop_one]
 have hTs:T.size+1=s.size:=by rw [<- hT,ByteArray.size_extract];omega
 have HR:Hid (B8 s.data.toList true=if FN T.data.toList true=true then some (-(vl T.data.toList:Int)) else none):=A5 (by unfold B8;rw [if_pos hm,hTl]);have g1:(1:Int)<(s.size:Int):=by omega
 have g0:(0:Int)<=(s.size:Int):=by omega
 clear hm hl2 hh hTl;have h1:¬ T.size<1:=by omega
 have z1:¬ (T.size:Int)<1:=by omega
 by_cases h8:8<T.size
 ·have hmag:FN T.data.toList true=false:=by unfold FN;rw [z0H (by rw [AE];omega),z0G (by rw [AE];omega)];rfl
  have HN:Hid (B8 s.data.toList true=none):=A5 (by rw [HR.out,if_neg (by rw [hmag];simp)]);have HA:=A5 (BG HN.out);have z8:(8:Int)<(T.size:Int):=by omega
  clear h1 h8 hmag;go_enter func132,ntmps132;go_wp2_with fail;go_ret2;exact ⟨by rw [HA.out];rfl,rfl⟩
 have z8:¬ (8:Int)<(T.size:Int):=by omega
 have z0:0<T.size:=by omega
 by_cases hc:T[0]=48
 ·have hmag:FN T.data.toList true=false:=by unfold FN;rw [z0H (by rw [AE];omega),z0H (by rw [AE];omega),I7 T z0,hc];simp
  have HN:Hid (B8 s.data.toList true=none):=A5 (by rw [HR.out,if_neg (by rw [hmag];simp)]);have HA:=A5 (BG HN.out);have hn:((T[0].toNat:Int)==48)=true:=by rw [hc];rfl
  clear hmag hc
  by_cases h2:1<T.size
  ·have z2:(1:Int)<(T.size:Int):=by omega
   go_enter func132,ntmps132;go_wp2_with fail;go_ret2;exact ⟨by rw [HA.out];rfl,rfl⟩
  ·have z2:¬ (1:Int)<(T.size:Int):=by omega
   go_enter func132,ntmps132;go_wp2_with fail;go_ret2;exact ⟨by rw [HA.out];rfl,rfl⟩
 ·have h0:(T.data.toList.head?==some 48&&(decide (1<T.data.toList.length)||true))=false:=by rw [I7 T z0,Bool.and_eq_false_iff];left;simpa using hc
  have hn:((T[0].toNat:Int)==48)=false:=by rw [show (48:Int)=((48:UInt8).toNat:Int) from rfl,BN,z0G hc]
  clear hc;have hmag:FN T.data.toList true=T.data.toList.all dgt:=RI _ _ (by rw [AE];omega) (by rw [AE];omega) h0;have HG:=A5 hmag;clear hmag h0;go_enter func132,ntmps132;go_wp2_with fail
  go_loop [8,9] (fun n i=>∃ k:Nat,k<=T.size/\i=.int .i64 k/\n=.int .i64 (vl (T.data.toList.take k):Int)/\Hid ((T.data.toList.take k).all dgt=true)) (fun _ i=>T.size-(intOf i).toNat)
  case atStart=>exact ⟨0,Nat.zero_le _,rfl,rfl,A5 rfl⟩
  case round =>
   obtain ⟨k,hk,rfl,rfl,HD⟩:=hrel
   by_cases hlt:k<T.size
   ·have hu:(T[k].toNat:Int)<=255:=by have:=UInt8.toNat_lt T[k];omega
    by_cases c1:(T[k].toNat:Int)<48
    ·have HN:Hid (B8 s.data.toList true=none):=A5 (by rw [HR.out,HG.out,G2 T k hlt (IS _ (Or.inl c1))];rfl);have HA:=A5 (BG HN.out)
     go_wp2
     go_ret2;exact ⟨by rw [HA.out];rfl,rfl⟩
    ·by_cases c2:57<(T[k].toNat:Int)
     ·have HN:Hid (B8 s.data.toList true=none):=A5 (by rw [HR.out,HG.out,G2 T k hlt (IS _ (Or.inr c2))];rfl);have HA:=A5 (BG HN.out)
      go_wp2
      go_ret2;exact ⟨by rw [HA.out];rfl,rfl⟩
     ·have hv:=F8 T.data.toList k (by omega) HD.out;have HN:Hid ((vl (T.data.toList.take (k+1)):Int)=10*(vl (T.data.toList.take k):Int)+((T[k].toNat:Int)-48)):=A5 (by rw [CV T k hlt,IV];omega);have HD2:Hid ((T.data.toList.take (k+1)).all dgt=true):=A5 (by rw [CV T k hlt,List.all_append,HD.out];simp [NI _ c1 c2]);generalize vl (T.data.toList.take k)=V at *
      go_wp2
      go_round
      case rel=>exact ⟨k+1,by omega,by go_num,by rw [HN.out],HD2⟩
      case measure=>simp [intOf];omega
   ·obtain rfl:k=T.size:=by omega
    have HF:Hid (T.data.toList.take T.size=T.data.toList):=A5 (List.take_of_length_le (by simp));have hv:=F8 T.data.toList T.size (by omega) HD.out;rw [HF.out] at HD hv ⊢;have HN:Hid (B8 s.data.toList true=some (-(vl T.data.toList:Int))):=A5 (by rw [HR.out,HG.out,HD.out];rfl);have HA:=A5 (EO HN.out);generalize vl T.data.toList=V at *
    go_wp2
    go_ret2;exact ⟨by rw [HA.out];rfl,rfl⟩
theorem A2X (s:ByteArray) (w:World) (hs:s.size<=100000) :
  Calls prog 132 #[.string s,.bool false] w fun e w'=>e=.returned (aF s.data.toList false)/\w=w':=by
 have hm:G6 s.data.toList false=false:=rfl;have HR:Hid (B8 s.data.toList false=if FN s.data.toList false=true then some (vl s.data.toList:Int) else none):=A5 (by unfold B8;rw [if_neg (by rw [hm];simp)]);clear hm
 by_cases h1:s.size<1
 ·have hmag:FN s.data.toList false=false:=by unfold FN;rw [z0G (by rw [AE];omega)];rfl
  have HN:Hid (B8 s.data.toList false=none):=A5 (by rw [HR.out,if_neg (by rw [hmag];simp)]);have HA:=A5 (BG HN.out);have z1:(s.size:Int)<1:=by omega
  clear h1 hmag;go_enter func132,ntmps132;go_wp2_with fail;go_ret2;exact ⟨by rw [HA.out];rfl,rfl⟩
 have z1:¬ (s.size:Int)<1:=by omega
 by_cases h8:8<s.size
 ·have hmag:FN s.data.toList false=false:=by unfold FN;rw [z0H (by rw [AE];omega),z0G (by rw [AE];omega)];rfl
  have HN:Hid (B8 s.data.toList false=none):=A5 (by rw [HR.out,if_neg (by rw [hmag];simp)]);have HA:=A5 (BG HN.out);have z8:(8:Int)<(s.size:Int):=by omega
  clear h1 h8 hmag;go_enter func132,ntmps132;go_wp2_with fail;go_ret2;exact ⟨by rw [HA.out];rfl,rfl⟩
 have z8:¬ (8:Int)<(s.size:Int):=by omega
 have z0:0<s.size:=by omega
 by_cases hc:s[0]=48
 ·have hn:((s[0].toNat:Int)==48)=true:=by rw [hc];rfl
  by_cases h2:1<s.size
  ·have hmag:FN s.data.toList false=false:=by unfold FN;rw [z0H (by rw [AE];omega),z0H (by rw [AE];omega),I7 s z0,hc,z0H (by rw [AE];exact h2)];simp
   have HN:Hid (B8 s.data.toList false=none):=A5 (by rw [HR.out,if_neg (by rw [hmag];simp)]);have HA:=A5 (BG HN.out);have z2:(1:Int)<(s.size:Int):=by omega
   clear hmag hc;go_enter func132,ntmps132;go_wp2_with fail;go_ret2;exact ⟨by rw [HA.out];rfl,rfl⟩
  ·have z2:¬ (1:Int)<(s.size:Int):=by omega
   have h0:(s.data.toList.head?==some 48&&(decide (1<s.data.toList.length)||false))=false:=by rw [Bool.and_eq_false_iff];right;rw [z0G (by rw [AE];exact h2)];rfl
   clear hc;have hmag:FN s.data.toList false=s.data.toList.all dgt:=RI _ _ (by rw [AE];omega) (by rw [AE];omega) h0;have HG:=A5 hmag;clear hmag h0;go_enter func132,ntmps132;go_wp2_with fail
   go_loop [8,9] (fun n i=>∃ k:Nat,k<=s.size/\i=.int .i64 k/\n=.int .i64 (vl (s.data.toList.take k):Int)/\Hid ((s.data.toList.take k).all dgt=true)) (fun _ i=>s.size-(intOf i).toNat)
   case atStart=>exact ⟨0,Nat.zero_le _,rfl,rfl,A5 rfl⟩
   case round =>
    obtain ⟨k,hk,rfl,rfl,HD⟩:=hrel
    by_cases hlt:k<s.size
    ·have hu:(s[k].toNat:Int)<=255:=by have:=UInt8.toNat_lt s[k];omega
     by_cases c1:(s[k].toNat:Int)<48
     ·have HN:Hid (B8 s.data.toList false=none):=A5 (by rw [HR.out,HG.out,G2 s k hlt (IS _ (Or.inl c1))];rfl);have HA:=A5 (BG HN.out)
      go_wp2
      go_ret2;exact ⟨by rw [HA.out];rfl,rfl⟩
     ·by_cases c2:57<(s[k].toNat:Int)
      ·have HN:Hid (B8 s.data.toList false=none):=A5 (by rw [HR.out,HG.out,G2 s k hlt (IS _ (Or.inr c2))];rfl);have HA:=A5 (BG HN.out)
       go_wp2
       go_ret2;exact ⟨by rw [HA.out];rfl,rfl⟩
      ·have hv:=F8 s.data.toList k (by omega) HD.out;have HN:Hid ((vl (s.data.toList.take (k+1)):Int)=10*(vl (s.data.toList.take k):Int)+((s[k].toNat:Int)-48)):=A5 (by rw [CV s k hlt,IV];omega);have HD2:Hid ((s.data.toList.take (k+1)).all dgt=true):=A5 (by rw [CV s k hlt,List.all_append,HD.out];simp [NI _ c1 c2]);generalize vl (s.data.toList.take k)=V at *
       go_wp2
       go_round
       case rel=>exact ⟨k+1,by omega,by go_num,by rw [HN.out],HD2⟩
       case measure=>simp [intOf];omega
    ·obtain rfl:k=s.size:=by omega
     have HF:Hid (s.data.toList.take s.size=s.data.toList):=A5 (List.take_of_length_le (by simp));have hv:=F8 s.data.toList s.size (by omega) HD.out;rw [HF.out] at HD hv ⊢;have HN:Hid (B8 s.data.toList false=some (vl s.data.toList:Int)):=A5 (by rw [HR.out,HG.out,HD.out];rfl);have HA:=A5 (EO HN.out);generalize vl s.data.toList=V at *
     go_wp2
     go_ret2;exact ⟨by rw [HA.out];rfl,rfl⟩
 ·have h0:(s.data.toList.head?==some 48&&(decide (1<s.data.toList.length)||false))=false:=by rw [I7 s z0,Bool.and_eq_false_iff];left;simpa using hc
  have hn:((s[0].toNat:Int)==48)=false:=by rw [show (48:Int)=((48:UInt8).toNat:Int) from rfl,BN,z0G hc]
  clear hc;have hmag:FN s.data.toList false=s.data.toList.all dgt:=RI _ _ (by rw [AE];omega) (by rw [AE];omega) h0;have HG:=A5 hmag;clear hmag h0;go_enter func132,ntmps132;go_wp2_with fail
  go_loop [8,9] (fun n i=>∃ k:Nat,k<=s.size/\i=.int .i64 k/\n=.int .i64 (vl (s.data.toList.take k):Int)/\Hid ((s.data.toList.take k).all dgt=true)) (fun _ i=>s.size-(intOf i).toNat)
  case atStart=>exact ⟨0,Nat.zero_le _,rfl,rfl,A5 rfl⟩
  case round =>
   obtain ⟨k,hk,rfl,rfl,HD⟩:=hrel
   by_cases hlt:k<s.size
   ·have hu:(s[k].toNat:Int)<=255:=by have:=UInt8.toNat_lt s[k];omega
    by_cases c1:(s[k].toNat:Int)<48
    ·have HN:Hid (B8 s.data.toList false=none):=A5 (by rw [HR.out,HG.out,G2 s k hlt (IS _ (Or.inl c1))];rfl);have HA:=A5 (BG HN.out)
     go_wp2
     go_ret2;exact ⟨by rw [HA.out];rfl,rfl⟩
    ·by_cases c2:57<(s[k].toNat:Int)
     ·have HN:Hid (B8 s.data.toList false=none):=A5 (by rw [HR.out,HG.out,G2 s k hlt (IS _ (Or.inr c2))];rfl);have HA:=A5 (BG HN.out)
      go_wp2
      go_ret2;exact ⟨by rw [HA.out];rfl,rfl⟩
     ·have hv:=F8 s.data.toList k (by omega) HD.out;have HN:Hid ((vl (s.data.toList.take (k+1)):Int)=10*(vl (s.data.toList.take k):Int)+((s[k].toNat:Int)-48)):=A5 (by rw [CV s k hlt,IV];omega);have HD2:Hid ((s.data.toList.take (k+1)).all dgt=true):=A5 (by rw [CV s k hlt,List.all_append,HD.out];simp [NI _ c1 c2]);generalize vl (s.data.toList.take k)=V at *
      go_wp2
      go_round
      case rel=>exact ⟨k+1,by omega,by go_num,by rw [HN.out],HD2⟩
      case measure=>simp [intOf];omega
   ·obtain rfl:k=s.size:=by omega
    have HF:Hid (s.data.toList.take s.size=s.data.toList):=A5 (List.take_of_length_le (by simp));have hv:=F8 s.data.toList s.size (by omega) HD.out;rw [HF.out] at HD hv ⊢;have HN:Hid (B8 s.data.toList false=some (vl s.data.toList:Int)):=A5 (by rw [HR.out,HG.out,HD.out];rfl);have HA:=A5 (EO HN.out);generalize vl s.data.toList=V at *
    go_wp2
    go_ret2;exact ⟨by rw [HA.out];rfl,rfl⟩
theorem A2Y (s:ByteArray) (w:World) (hs:s.size<=100000) (hl:¬ 1<s.size) :
  Calls prog 132 #[.string s,.bool true] w fun e w'=>e=.returned (aF s.data.toList true)/\w=w':=by
 have hm:G6 s.data.toList true=false:=by unfold G6;rw [z0G (by rw [AE];exact hl)];rfl
 have y1:¬ (1:Int)<(s.size:Int):=by omega
 have HR:Hid (B8 s.data.toList true=if FN s.data.toList false=true then some (vl s.data.toList:Int) else none):=A5 (by unfold B8;rw [if_neg (by rw [hm];simp)]);clear hm
 by_cases h1:s.size<1
 ·have hmag:FN s.data.toList false=false:=by unfold FN;rw [z0G (by rw [AE];omega)];rfl
  have HN:Hid (B8 s.data.toList true=none):=A5 (by rw [HR.out,if_neg (by rw [hmag];simp)]);have HA:=A5 (BG HN.out);have z1:(s.size:Int)<1:=by omega
  clear h1 hmag;go_enter func132,ntmps132;go_wp2_with fail;go_ret2;exact ⟨by rw [HA.out];rfl,rfl⟩
 have z1:¬ (s.size:Int)<1:=by omega
 by_cases h8:8<s.size
 ·have hmag:FN s.data.toList false=false:=by unfold FN;rw [z0H (by rw [AE];omega),z0G (by rw [AE];omega)];rfl
  have HN:Hid (B8 s.data.toList true=none):=A5 (by rw [HR.out,if_neg (by rw [hmag];simp)]);have HA:=A5 (BG HN.out);have z8:(8:Int)<(s.size:Int):=by omega
  clear h1 h8 hmag;go_enter func132,ntmps132;go_wp2_with fail;go_ret2;exact ⟨by rw [HA.out];rfl,rfl⟩
 have z8:¬ (8:Int)<(s.size:Int):=by omega
 have z0:0<s.size:=by omega
 by_cases hc:s[0]=48
 ·have hn:((s[0].toNat:Int)==48)=true:=by rw [hc];rfl
  by_cases h2:1<s.size
  ·exact absurd h2 hl
  ·have z2:¬ (1:Int)<(s.size:Int):=by omega
   have h0:(s.data.toList.head?==some 48&&(decide (1<s.data.toList.length)||false))=false:=by rw [Bool.and_eq_false_iff];right;rw [z0G (by rw [AE];exact h2)];rfl
   clear hc;have hmag:FN s.data.toList false=s.data.toList.all dgt:=RI _ _ (by rw [AE];omega) (by rw [AE];omega) h0;have HG:=A5 hmag;clear hmag h0;go_enter func132,ntmps132;go_wp2_with fail
   go_loop [8,9] (fun n i=>∃ k:Nat,k<=s.size/\i=.int .i64 k/\n=.int .i64 (vl (s.data.toList.take k):Int)/\Hid ((s.data.toList.take k).all dgt=true)) (fun _ i=>s.size-(intOf i).toNat)
   case atStart=>exact ⟨0,Nat.zero_le _,rfl,rfl,A5 rfl⟩
   case round =>
    obtain ⟨k,hk,rfl,rfl,HD⟩:=hrel
    by_cases hlt:k<s.size
    ·have hu:(s[k].toNat:Int)<=255:=by have:=UInt8.toNat_lt s[k];omega
     by_cases c1:(s[k].toNat:Int)<48
     ·have HN:Hid (B8 s.data.toList true=none):=A5 (by rw [HR.out,HG.out,G2 s k hlt (IS _ (Or.inl c1))];rfl);have HA:=A5 (BG HN.out)
      go_wp2
      go_ret2;exact ⟨by rw [HA.out];rfl,rfl⟩
     ·by_cases c2:57<(s[k].toNat:Int)
      ·have HN:Hid (B8 s.data.toList true=none):=A5 (by rw [HR.out,HG.out,G2 s k hlt (IS _ (Or.inr c2))];rfl);have HA:=A5 (BG HN.out)
       go_wp2
       go_ret2;exact ⟨by rw [HA.out];rfl,rfl⟩
      ·have hv:=F8 s.data.toList k (by omega) HD.out;have HN:Hid ((vl (s.data.toList.take (k+1)):Int)=10*(vl (s.data.toList.take k):Int)+((s[k].toNat:Int)-48)):=A5 (by rw [CV s k hlt,IV];omega);have HD2:Hid ((s.data.toList.take (k+1)).all dgt=true):=A5 (by rw [CV s k hlt,List.all_append,HD.out];simp [NI _ c1 c2]);generalize vl (s.data.toList.take k)=V at *
       go_wp2
       go_round
       case rel=>exact ⟨k+1,by omega,by go_num,by rw [HN.out],HD2⟩
       case measure=>simp [intOf];omega
    ·obtain rfl:k=s.size:=by omega
     have HF:Hid (s.data.toList.take s.size=s.data.toList):=A5 (List.take_of_length_le (by simp));have hv:=F8 s.data.toList s.size (by omega) HD.out;rw [HF.out] at HD hv ⊢;have HN:Hid (B8 s.data.toList true=some (vl s.data.toList:Int)):=A5 (by rw [HR.out,HG.out,HD.out];rfl);have HA:=A5 (EO HN.out);generalize vl s.data.toList=V at *
     go_wp2
     go_ret2;exact ⟨by rw [HA.out];rfl,rfl⟩
 ·have h0:(s.data.toList.head?==some 48&&(decide (1<s.data.toList.length)||false))=false:=by rw [I7 s z0,Bool.and_eq_false_iff];left;simpa using hc
  have hn:((s[0].toNat:Int)==48)=false:=by rw [show (48:Int)=((48:UInt8).toNat:Int) from rfl,BN,z0G hc]
  clear hc;have hmag:FN s.data.toList false=s.data.toList.all dgt:=RI _ _ (by rw [AE];omega) (by rw [AE];omega) h0;have HG:=A5 hmag;clear hmag h0;go_enter func132,ntmps132;go_wp2_with fail
  go_loop [8,9] (fun n i=>∃ k:Nat,k<=s.size/\i=.int .i64 k/\n=.int .i64 (vl (s.data.toList.take k):Int)/\Hid ((s.data.toList.take k).all dgt=true)) (fun _ i=>s.size-(intOf i).toNat)
  case atStart=>exact ⟨0,Nat.zero_le _,rfl,rfl,A5 rfl⟩
  case round =>
   obtain ⟨k,hk,rfl,rfl,HD⟩:=hrel
   by_cases hlt:k<s.size
   ·have hu:(s[k].toNat:Int)<=255:=by have:=UInt8.toNat_lt s[k];omega
    by_cases c1:(s[k].toNat:Int)<48
    ·have HN:Hid (B8 s.data.toList true=none):=A5 (by rw [HR.out,HG.out,G2 s k hlt (IS _ (Or.inl c1))];rfl);have HA:=A5 (BG HN.out)
     go_wp2
     go_ret2;exact ⟨by rw [HA.out];rfl,rfl⟩
    ·by_cases c2:57<(s[k].toNat:Int)
     ·have HN:Hid (B8 s.data.toList true=none):=A5 (by rw [HR.out,HG.out,G2 s k hlt (IS _ (Or.inr c2))];rfl);have HA:=A5 (BG HN.out)
      go_wp2
      go_ret2;exact ⟨by rw [HA.out];rfl,rfl⟩
     ·have hv:=F8 s.data.toList k (by omega) HD.out;have HN:Hid ((vl (s.data.toList.take (k+1)):Int)=10*(vl (s.data.toList.take k):Int)+((s[k].toNat:Int)-48)):=A5 (by rw [CV s k hlt,IV];omega);have HD2:Hid ((s.data.toList.take (k+1)).all dgt=true):=A5 (by rw [CV s k hlt,List.all_append,HD.out];simp [NI _ c1 c2]);generalize vl (s.data.toList.take k)=V at *
      go_wp2
      go_round
      case rel=>exact ⟨k+1,by omega,by go_num,by rw [HN.out],HD2⟩
      case measure=>simp [intOf];omega
   ·obtain rfl:k=s.size:=by omega
    have HF:Hid (s.data.toList.take s.size=s.data.toList):=A5 (List.take_of_length_le (by simp));have hv:=F8 s.data.toList s.size (by omega) HD.out;rw [HF.out] at HD hv ⊢;have HN:Hid (B8 s.data.toList true=some (vl s.data.toList:Int)):=A5 (by rw [HR.out,HG.out,HD.out];rfl);have HA:=A5 (EO HN.out);generalize vl s.data.toList=V at *
    go_wp2
    go_ret2;exact ⟨by rw [HA.out];rfl,rfl⟩
theorem A2Z (s:ByteArray) (w:World) (hs:s.size<=100000) (hl:1<s.size) (hq:s[0]≠45) :
  Calls prog 132 #[.string s,.bool true] w fun e w'=>e=.returned (aF s.data.toList true)/\w=w':=by
 have hm:G6 s.data.toList true=false:=by unfold G6;rw [I7 s (by omega),Bool.and_eq_false_iff,Bool.and_eq_false_iff];right;right;simpa using hq
 have y1:(1:Int)<(s.size:Int):=by omega
 have yq:((s[0].toNat:Int)==45)=false:=by rw [show (45:Int)=((45:UInt8).toNat:Int) from rfl,BN,z0G hq]
 clear hq;have HR:Hid (B8 s.data.toList true=if FN s.data.toList false=true then some (vl s.data.toList:Int) else none):=A5 (by unfold B8;rw [if_neg (by rw [hm];simp)]);clear hm;have h1:¬ s.size<1:=by omega
 have z1:¬ (s.size:Int)<1:=by omega
 by_cases h8:8<s.size
 ·have hmag:FN s.data.toList false=false:=by unfold FN;rw [z0H (by rw [AE];omega),z0G (by rw [AE];omega)];rfl
  have HN:Hid (B8 s.data.toList true=none):=A5 (by rw [HR.out,if_neg (by rw [hmag];simp)]);have HA:=A5 (BG HN.out);have z8:(8:Int)<(s.size:Int):=by omega
  clear h1 h8 hmag;go_enter func132,ntmps132;go_wp2_with fail;go_ret2;exact ⟨by rw [HA.out];rfl,rfl⟩
 have z8:¬ (8:Int)<(s.size:Int):=by omega
 have z0:0<s.size:=by omega
 by_cases hc:s[0]=48
 ·have hn:((s[0].toNat:Int)==48)=true:=by rw [hc];rfl
  have h2:1<s.size:=by omega
  have hmag:FN s.data.toList false=false:=by unfold FN;rw [z0H (by rw [AE];omega),z0H (by rw [AE];omega),I7 s z0,hc,z0H (by rw [AE];exact h2)];simp
  have HN:Hid (B8 s.data.toList true=none):=A5 (by rw [HR.out,if_neg (by rw [hmag];simp)]);have HA:=A5 (BG HN.out);have z2:(1:Int)<(s.size:Int):=by omega
  clear hmag hc;go_enter func132,ntmps132;go_wp2_with fail;go_ret2;exact ⟨by rw [HA.out];rfl,rfl⟩
 ·have h0:(s.data.toList.head?==some 48&&(decide (1<s.data.toList.length)||false))=false:=by rw [I7 s z0,Bool.and_eq_false_iff];left;simpa using hc
  have hn:((s[0].toNat:Int)==48)=false:=by rw [show (48:Int)=((48:UInt8).toNat:Int) from rfl,BN,z0G hc]
  clear hc;have hmag:FN s.data.toList false=s.data.toList.all dgt:=RI _ _ (by rw [AE];omega) (by rw [AE];omega) h0;have HG:=A5 hmag;clear hmag h0;go_enter func132,ntmps132;go_wp2_with fail
  go_loop [8,9] (fun n i=>∃ k:Nat,k<=s.size/\i=.int .i64 k/\n=.int .i64 (vl (s.data.toList.take k):Int)/\Hid ((s.data.toList.take k).all dgt=true)) (fun _ i=>s.size-(intOf i).toNat)
  case atStart=>exact ⟨0,Nat.zero_le _,rfl,rfl,A5 rfl⟩
  case round =>
   obtain ⟨k,hk,rfl,rfl,HD⟩:=hrel
   by_cases hlt:k<s.size
   ·have hu:(s[k].toNat:Int)<=255:=by have:=UInt8.toNat_lt s[k];omega
    by_cases c1:(s[k].toNat:Int)<48
    ·have HN:Hid (B8 s.data.toList true=none):=A5 (by rw [HR.out,HG.out,G2 s k hlt (IS _ (Or.inl c1))];rfl);have HA:=A5 (BG HN.out)
     go_wp2
     go_ret2;exact ⟨by rw [HA.out];rfl,rfl⟩
    ·by_cases c2:57<(s[k].toNat:Int)
     ·have HN:Hid (B8 s.data.toList true=none):=A5 (by rw [HR.out,HG.out,G2 s k hlt (IS _ (Or.inr c2))];rfl);have HA:=A5 (BG HN.out)
      go_wp2
      go_ret2;exact ⟨by rw [HA.out];rfl,rfl⟩
     ·have hv:=F8 s.data.toList k (by omega) HD.out;have HN:Hid ((vl (s.data.toList.take (k+1)):Int)=10*(vl (s.data.toList.take k):Int)+((s[k].toNat:Int)-48)):=A5 (by rw [CV s k hlt,IV];omega);have HD2:Hid ((s.data.toList.take (k+1)).all dgt=true):=A5 (by rw [CV s k hlt,List.all_append,HD.out];simp [NI _ c1 c2]);generalize vl (s.data.toList.take k)=V at *
      go_wp2
      go_round
      case rel=>exact ⟨k+1,by omega,by go_num,by rw [HN.out],HD2⟩
      case measure=>simp [intOf];omega
   ·obtain rfl:k=s.size:=by omega
    have HF:Hid (s.data.toList.take s.size=s.data.toList):=A5 (List.take_of_length_le (by simp));have hv:=F8 s.data.toList s.size (by omega) HD.out;rw [HF.out] at HD hv ⊢;have HN:Hid (B8 s.data.toList true=some (vl s.data.toList:Int)):=A5 (by rw [HR.out,HG.out,HD.out];rfl);have HA:=A5 (EO HN.out);generalize vl s.data.toList=V at *
    go_wp2
    go_ret2;exact ⟨by rw [HA.out];rfl,rfl⟩
theorem MT (s:ByteArray) (b:Bool) (w:World) (hs:s.size<=100000) :
  Calls prog 132 #[.string s,.bool b] w fun e w'=>e=.returned (aF s.data.toList b)/\w=w':=by
 cases hm:G6 s.data.toList b
 ·cases b
  ·exact A2X s w hs
  ·by_cases hl:1<s.size
   ·refine A2Z s w hs hl fun e=>?_
    unfold G6 at hm;rw [I7 s (by omega),e,z0H (by rw [AE];exact hl)] at hm
    cases hm
   ·exact A2Y s w hs hl
 ·exact yF s b w hs hm
theorem A12 (w:World):Calls prog 66 #[.int .i64 1] w (Ans w (.string (str (IU 1)))):=by
 have ix:∀ w,(Instr.index 138 (.agg #[.string ⟨#[]⟩,.string ⟨#[68,65,73,76,89]⟩,.string ⟨#[87,69,69,75,76,89]⟩,.string ⟨#[77,79,78,84,72,76,89]⟩,.string ⟨#[89,69,65,82,76,89]⟩]) (.int .i64 1)).run prog w=.ok (.string ⟨#[68,65,73,76,89]⟩) w:=fun _=>by kernel_rfl
 go_enter func66,ntmps66;go_wp2_with fail;go_ret;exact ⟨rfl,start _⟩
theorem A13 (w:World):Calls prog 66 #[.int .i64 2] w (Ans w (.string (str (IU 2)))):=by
 have ix:∀ w,(Instr.index 138 (.agg #[.string ⟨#[]⟩,.string ⟨#[68,65,73,76,89]⟩,.string ⟨#[87,69,69,75,76,89]⟩,.string ⟨#[77,79,78,84,72,76,89]⟩,.string ⟨#[89,69,65,82,76,89]⟩]) (.int .i64 2)).run prog w=.ok (.string ⟨#[87,69,69,75,76,89]⟩) w:=fun _=>by kernel_rfl
 go_enter func66,ntmps66;go_wp2_with fail;go_ret;exact ⟨rfl,start _⟩
theorem A14 (w:World):Calls prog 66 #[.int .i64 3] w (Ans w (.string (str (IU 3)))):=by
 have ix:∀ w,(Instr.index 138 (.agg #[.string ⟨#[]⟩,.string ⟨#[68,65,73,76,89]⟩,.string ⟨#[87,69,69,75,76,89]⟩,.string ⟨#[77,79,78,84,72,76,89]⟩,.string ⟨#[89,69,65,82,76,89]⟩]) (.int .i64 3)).run prog w=.ok (.string ⟨#[77,79,78,84,72,76,89]⟩) w:=fun _=>by kernel_rfl
 go_enter func66,ntmps66;go_wp2_with fail;go_ret;exact ⟨rfl,start _⟩
theorem A15 (w:World):Calls prog 66 #[.int .i64 4] w (Ans w (.string (str (IU 4)))):=by
 have ix:∀ w,(Instr.index 138 (.agg #[.string ⟨#[]⟩,.string ⟨#[68,65,73,76,89]⟩,.string ⟨#[87,69,69,75,76,89]⟩,.string ⟨#[77,79,78,84,72,76,89]⟩,.string ⟨#[89,69,65,82,76,89]⟩]) (.int .i64 4)).run prog w=.ok (.string ⟨#[89,69,65,82,76,89]⟩) w:=fun _=>by kernel_rfl
 go_enter func66,ntmps66;go_wp2_with fail;go_ret;exact ⟨rfl,start _⟩
theorem Y6 (n:Int) (w:World) (h1:1<=n) (h2:n<=4):Calls prog 66 #[.int .i64 n] w (Ans w (.string (str (IU n)))):=by
 rcases (by omega:n=1∨n=2∨n=3∨n=4) with rfl|rfl|rfl|rfl
 ·exact A12 w
 ·exact A13 w
 ·exact A14 w
 ·exact A15 w
theorem A16  (w:World):Calls prog 68 #[.agg #[.int .i64 0,.int .i64 0]] w (Ans w (.string (str (CC (0,0))))):=by
 have hx:(⟨#[77,79,84,85,87,69,84,72,70,82,83,65,83,85]⟩:ByteArray).extract 0 2=⟨#[77,79]⟩:=by decide +kernel
 go_enter func68,ntmps68;go_wp2_with fail;go_ret;exact ⟨rfl,more (start _) _⟩
theorem A17 (n:Int) (w:World) (h0:¬ n=0) (b1:-1000000000<=n) (b2:n<=1000000000):Calls prog 68 #[.agg #[.int .i64 n,.int .i64 0]] w (Ans w (.string (str (CC (n,0))))):=by
 have hx:(⟨#[77,79,84,85,87,69,84,72,70,82,83,65,83,85]⟩:ByteArray).extract 0 2=⟨#[77,79]⟩:=by decide +kernel
 have hd:Hid (CC (n,0)=Lib.itoa n++[77,79]):=A5 (by unfold CC;rw [if_pos (by simp),if_neg h0];rfl);have hq:(n==0)=false:=by rw [beq_eq_false_iff_ne];exact h0
 have hsz:(str (Lib.itoa n)).size<=30:=by rw [AB];exact Nat.le_trans (Lib.itoa_length_le n (by omega) (by omega)) (by omega)
 have HC:=A5 (fun w=>F7 n w b1 b2);generalize Lib.itoa n=L at *;clear h0;go_enter func68,ntmps68;go_wp2_with fail;refine (HC.out _).mono ?_;rintro e w2 ⟨rfl,hb⟩;go_wp2_with fail;go_ret;exact ⟨DA (by rw [hd.out,<- AM];rfl),andthen (more (start w) _) hb⟩
theorem A18  (w:World):Calls prog 68 #[.agg #[.int .i64 0,.int .i64 1]] w (Ans w (.string (str (CC (0,1))))):=by
 have hx:(⟨#[77,79,84,85,87,69,84,72,70,82,83,65,83,85]⟩:ByteArray).extract 2 4=⟨#[84,85]⟩:=by decide +kernel
 go_enter func68,ntmps68;go_wp2_with fail;go_ret;exact ⟨rfl,more (start _) _⟩
theorem A19 (n:Int) (w:World) (h0:¬ n=0) (b1:-1000000000<=n) (b2:n<=1000000000):Calls prog 68 #[.agg #[.int .i64 n,.int .i64 1]] w (Ans w (.string (str (CC (n,1))))):=by
 have hx:(⟨#[77,79,84,85,87,69,84,72,70,82,83,65,83,85]⟩:ByteArray).extract 2 4=⟨#[84,85]⟩:=by decide +kernel
 have hd:Hid (CC (n,1)=Lib.itoa n++[84,85]):=A5 (by unfold CC;rw [if_pos (by simp),if_neg h0];rfl);have hq:(n==0)=false:=by rw [beq_eq_false_iff_ne];exact h0
 have hsz:(str (Lib.itoa n)).size<=30:=by rw [AB];exact Nat.le_trans (Lib.itoa_length_le n (by omega) (by omega)) (by omega)
 have HC:=A5 (fun w=>F7 n w b1 b2);generalize Lib.itoa n=L at *;clear h0;go_enter func68,ntmps68;go_wp2_with fail;refine (HC.out _).mono ?_;rintro e w2 ⟨rfl,hb⟩;go_wp2_with fail;go_ret;exact ⟨DA (by rw [hd.out,<- AM];rfl),andthen (more (start w) _) hb⟩
theorem A1a  (w:World):Calls prog 68 #[.agg #[.int .i64 0,.int .i64 2]] w (Ans w (.string (str (CC (0,2))))):=by
 have hx:(⟨#[77,79,84,85,87,69,84,72,70,82,83,65,83,85]⟩:ByteArray).extract 4 6=⟨#[87,69]⟩:=by decide +kernel
 go_enter func68,ntmps68;go_wp2_with fail;go_ret;exact ⟨rfl,more (start _) _⟩
theorem A1b (n:Int) (w:World) (h0:¬ n=0) (b1:-1000000000<=n) (b2:n<=1000000000):Calls prog 68 #[.agg #[.int .i64 n,.int .i64 2]] w (Ans w (.string (str (CC (n,2))))):=by
 have hx:(⟨#[77,79,84,85,87,69,84,72,70,82,83,65,83,85]⟩:ByteArray).extract 4 6=⟨#[87,69]⟩:=by decide +kernel
 have hd:Hid (CC (n,2)=Lib.itoa n++[87,69]):=A5 (by unfold CC;rw [if_pos (by simp),if_neg h0];rfl);have hq:(n==0)=false:=by rw [beq_eq_false_iff_ne];exact h0
 have hsz:(str (Lib.itoa n)).size<=30:=by rw [AB];exact Nat.le_trans (Lib.itoa_length_le n (by omega) (by omega)) (by omega)
 have HC:=A5 (fun w=>F7 n w b1 b2);generalize Lib.itoa n=L at *;clear h0;go_enter func68,ntmps68;go_wp2_with fail;refine (HC.out _).mono ?_;rintro e w2 ⟨rfl,hb⟩;go_wp2_with fail;go_ret;exact ⟨DA (by rw [hd.out,<- AM];rfl),andthen (more (start w) _) hb⟩
theorem A1c  (w:World):Calls prog 68 #[.agg #[.int .i64 0,.int .i64 3]] w (Ans w (.string (str (CC (0,3))))):=by
 have hx:(⟨#[77,79,84,85,87,69,84,72,70,82,83,65,83,85]⟩:ByteArray).extract 6 8=⟨#[84,72]⟩:=by decide +kernel
 go_enter func68,ntmps68;go_wp2_with fail;go_ret;exact ⟨rfl,more (start _) _⟩
theorem A1d (n:Int) (w:World) (h0:¬ n=0) (b1:-1000000000<=n) (b2:n<=1000000000):Calls prog 68 #[.agg #[.int .i64 n,.int .i64 3]] w (Ans w (.string (str (CC (n,3))))):=by
 have hx:(⟨#[77,79,84,85,87,69,84,72,70,82,83,65,83,85]⟩:ByteArray).extract 6 8=⟨#[84,72]⟩:=by decide +kernel
 have hd:Hid (CC (n,3)=Lib.itoa n++[84,72]):=A5 (by unfold CC;rw [if_pos (by simp),if_neg h0];rfl);have hq:(n==0)=false:=by rw [beq_eq_false_iff_ne];exact h0
 have hsz:(str (Lib.itoa n)).size<=30:=by rw [AB];exact Nat.le_trans (Lib.itoa_length_le n (by omega) (by omega)) (by omega)
 have HC:=A5 (fun w=>F7 n w b1 b2);generalize Lib.itoa n=L at *;clear h0;go_enter func68,ntmps68;go_wp2_with fail;refine (HC.out _).mono ?_;rintro e w2 ⟨rfl,hb⟩;go_wp2_with fail;go_ret;exact ⟨DA (by rw [hd.out,<- AM];rfl),andthen (more (start w) _) hb⟩
theorem A1e  (w:World):Calls prog 68 #[.agg #[.int .i64 0,.int .i64 4]] w (Ans w (.string (str (CC (0,4))))):=by
 have hx:(⟨#[77,79,84,85,87,69,84,72,70,82,83,65,83,85]⟩:ByteArray).extract 8 10=⟨#[70,82]⟩:=by decide +kernel
 go_enter func68,ntmps68;go_wp2_with fail;go_ret;exact ⟨rfl,more (start _) _⟩
theorem A1f (n:Int) (w:World) (h0:¬ n=0) (b1:-1000000000<=n) (b2:n<=1000000000):Calls prog 68 #[.agg #[.int .i64 n,.int .i64 4]] w (Ans w (.string (str (CC (n,4))))):=by
 have hx:(⟨#[77,79,84,85,87,69,84,72,70,82,83,65,83,85]⟩:ByteArray).extract 8 10=⟨#[70,82]⟩:=by decide +kernel
 have hd:Hid (CC (n,4)=Lib.itoa n++[70,82]):=A5 (by unfold CC;rw [if_pos (by simp),if_neg h0];rfl);have hq:(n==0)=false:=by rw [beq_eq_false_iff_ne];exact h0
 have hsz:(str (Lib.itoa n)).size<=30:=by rw [AB];exact Nat.le_trans (Lib.itoa_length_le n (by omega) (by omega)) (by omega)
 have HC:=A5 (fun w=>F7 n w b1 b2);generalize Lib.itoa n=L at *;clear h0;go_enter func68,ntmps68;go_wp2_with fail;refine (HC.out _).mono ?_;rintro e w2 ⟨rfl,hb⟩;go_wp2_with fail;go_ret;exact ⟨DA (by rw [hd.out,<- AM];rfl),andthen (more (start w) _) hb⟩
theorem A1g  (w:World):Calls prog 68 #[.agg #[.int .i64 0,.int .i64 5]] w (Ans w (.string (str (CC (0,5))))):=by
 have hx:(⟨#[77,79,84,85,87,69,84,72,70,82,83,65,83,85]⟩:ByteArray).extract 10 12=⟨#[83,65]⟩:=by decide +kernel
 go_enter func68,ntmps68;go_wp2_with fail;go_ret;exact ⟨rfl,more (start _) _⟩
theorem A1h (n:Int) (w:World) (h0:¬ n=0) (b1:-1000000000<=n) (b2:n<=1000000000):Calls prog 68 #[.agg #[.int .i64 n,.int .i64 5]] w (Ans w (.string (str (CC (n,5))))):=by
 have hx:(⟨#[77,79,84,85,87,69,84,72,70,82,83,65,83,85]⟩:ByteArray).extract 10 12=⟨#[83,65]⟩:=by decide +kernel
 have hd:Hid (CC (n,5)=Lib.itoa n++[83,65]):=A5 (by unfold CC;rw [if_pos (by simp),if_neg h0];rfl);have hq:(n==0)=false:=by rw [beq_eq_false_iff_ne];exact h0
 have hsz:(str (Lib.itoa n)).size<=30:=by rw [AB];exact Nat.le_trans (Lib.itoa_length_le n (by omega) (by omega)) (by omega)
 have HC:=A5 (fun w=>F7 n w b1 b2);generalize Lib.itoa n=L at *;clear h0;go_enter func68,ntmps68;go_wp2_with fail;refine (HC.out _).mono ?_;rintro e w2 ⟨rfl,hb⟩;go_wp2_with fail;go_ret;exact ⟨DA (by rw [hd.out,<- AM];rfl),andthen (more (start w) _) hb⟩
theorem A1i  (w:World):Calls prog 68 #[.agg #[.int .i64 0,.int .i64 6]] w (Ans w (.string (str (CC (0,6))))):=by
 have hx:(⟨#[77,79,84,85,87,69,84,72,70,82,83,65,83,85]⟩:ByteArray).extract 12 14=⟨#[83,85]⟩:=by decide +kernel
 go_enter func68,ntmps68;go_wp2_with fail;go_ret;exact ⟨rfl,more (start _) _⟩
theorem A1j (n:Int) (w:World) (h0:¬ n=0) (b1:-1000000000<=n) (b2:n<=1000000000):Calls prog 68 #[.agg #[.int .i64 n,.int .i64 6]] w (Ans w (.string (str (CC (n,6))))):=by
 have hx:(⟨#[77,79,84,85,87,69,84,72,70,82,83,65,83,85]⟩:ByteArray).extract 12 14=⟨#[83,85]⟩:=by decide +kernel
 have hd:Hid (CC (n,6)=Lib.itoa n++[83,85]):=A5 (by unfold CC;rw [if_pos (by simp),if_neg h0];rfl);have hq:(n==0)=false:=by rw [beq_eq_false_iff_ne];exact h0
 have hsz:(str (Lib.itoa n)).size<=30:=by rw [AB];exact Nat.le_trans (Lib.itoa_length_le n (by omega) (by omega)) (by omega)
 have HC:=A5 (fun w=>F7 n w b1 b2);generalize Lib.itoa n=L at *;clear h0;go_enter func68,ntmps68;go_wp2_with fail;refine (HC.out _).mono ?_;rintro e w2 ⟨rfl,hb⟩;go_wp2_with fail;go_ret;exact ⟨DA (by rw [hd.out,<- AM];rfl),andthen (more (start w) _) hb⟩
theorem yG (n d:Int) (w:World) (h:d<0):Calls prog 68 #[.agg #[.int .i64 n,.int .i64 d]] w (Ans w (.string (str (CC (n,d))))):=by
 have hd:Hid (CC (n,d)=[]):=A5 (by unfold CC;rw [if_neg (by simp only;omega)]);go_enter func68,ntmps68;go_wp2_with fail;go_ret;exact ⟨by rw [hd.out];rfl,more (start _) _⟩
theorem rL (n d:Int) (w:World) (h:6<d):Calls prog 68 #[.agg #[.int .i64 n,.int .i64 d]] w (Ans w (.string (str (CC (n,d))))):=by
 have hd:Hid (CC (n,d)=[]):=A5 (by unfold CC;rw [if_neg (by simp only;omega)]);have h2:decide (d<0)=false:=z0G (by omega);go_enter func68,ntmps68;go_wp2_with fail;go_ret;exact ⟨by rw [hd.out];rfl,more (start _) _⟩
theorem fL (n d:Int) (w:World) (b1:-1000000000<=n) (b2:n<=1000000000):Calls prog 68 #[.agg #[.int .i64 n,.int .i64 d]] w (Ans w (.string (str (CC (n,d))))):=by
 by_cases hl:d<0
 ·exact yG n d w hl
 by_cases hh:6<d
 ·exact rL n d w hh
 by_cases h0:n=0
 ·subst h0;rcases (by omega:d=0∨d=1∨d=2∨d=3∨d=4∨d=5∨d=6) with rfl|rfl|rfl|rfl|rfl|rfl|rfl
  ·exact A16 w
  ·exact A18 w
  ·exact A1a w
  ·exact A1c w
  ·exact A1e w
  ·exact A1g w
  ·exact A1i w
 ·rcases (by omega:d=0∨d=1∨d=2∨d=3∨d=4∨d=5∨d=6) with rfl|rfl|rfl|rfl|rfl|rfl|rfl
  ·exact A17 n w h0 b1 b2
  ·exact A19 n w h0 b1 b2
  ·exact A1b n w h0 b1 b2
  ·exact A1d n w h0 b1 b2
  ·exact A1f n w h0 b1 b2
  ·exact A1h n w h0 b1 b2
  ·exact A1j n w h0 b1 b2
theorem VR {α:Type} (f:α->Tx) (l:List α) (x:α) (h:l≠[]):AR f (l++[x])=AR f l++[44]++f x:=by
 unfold AR;rw [List.map_append,List.map_singleton,QO 44 _ _ (by simpa using h)];simp
theorem Q6 (c:UInt8) (K:Nat):∀ ps:List Tx,(∀ p∈ps,p.length<=K)->(AU c ps).length<=ps.length*(K+1)
 | [],_=>by simp [AU]
 | [p],h=>by have:=h p (by simp);simp [AU];omega
 | p :: q :: r,h=>by
  have h1:=h p (by simp);have h2:=Q6 c K (q :: r) fun x hx=>h x (List.mem_cons_of_mem _ hx)
  rw [AU,z0J,List.length_cons,List.length_cons (a:=p),Nat.succ_mul];omega
theorem FA {α:Type} (f:α->Tx) (K:Nat) (l:List α) (h:∀ x∈l,(f x).length<=K):(AR f l).length<=l.length*(K+1):=by
 have:=Q6 44 K (l.map f) fun p hp=>by
  obtain ⟨x,hx,rfl⟩:=List.mem_map.1 hp;exact h x hx
 rwa [List.length_map] at this
theorem SN (A:Option Addr) (n c:Nat) (l:List Int) (w:World) (hl:BS w A l) (hn:n=l.length) (hsz:l.length<=1000) (hb:∀ x∈l,-1000000000<=x/\x<=1000000000) :
  Calls prog 67 #[.slice A n c] w (Ans w (.string (str (AR Lib.itoa l)))):=by
 subst hn;have HR:=A5 hl;have HB:=A5 hb;have hc44:(⟨#[44]⟩:ByteArray)=str [44]:=rfl;clear hl hb;go_enter func67,ntmps67;go_wp2_with fail
 go_loopw [3,4] (fun s i wr=>∃ j:Nat,j<=l.length/\i=.int .i64 j/\s=.string (str (AR Lib.itoa (l.take j)))/\Below w.heap.size w wr) (fun _ i _=>l.length-(intOf i).toNat)
 case atStart=>exact ⟨0,Nat.zero_le _,rfl,rfl,start _⟩
 case round =>
  obtain ⟨j,hj,rfl,rfl,hbw⟩:=hrel;have HBR:=A5 hbw;clear hbw
  by_cases hlt:j<l.length
  ·obtain ⟨b1,o1,rfl,hb1,hc1⟩:=HR.out (by intro h0;rw [h0] at hlt;exact absurd hlt (Nat.not_lt_zero _));obtain ⟨m,hm⟩:∃ m,l[j]=m:=⟨_,rfl⟩;have hmr:=HB.out l[j] (List.getElem_mem _);rw [hm] at hmr;have p1:wr.cell? ⟨b1,o1+j,none⟩=some (.int .i64 m):=by rw [<- hm];exact (HBR.out.cell (p:=⟨b1,_,none⟩) hb1).trans (hc1 j hlt)
   have hi0:(0:Int)<=(j:Int):=by omega
   have hi1:(j:Int)<(l.length:Int):=by omega
   have hTK:l.take (j+1)=l.take j++[m]:=by rw [List.take_succ_eq_append_getElem hlt,hm]
   have hL:(AR Lib.itoa (l.take j)).length<=31000:=by
    have h1:=FA Lib.itoa 30 (l.take j) fun x hx=>Nat.le_trans (Lib.itoa_length_le x (by have:=HB.out x (List.mem_of_mem_take hx);omega) (by have:=HB.out x (List.mem_of_mem_take hx);omega)) (by omega)
    have h2:(l.take j).length<=1000:=by rw [List.length_take];omega
    omega
   have hM:(str (Lib.itoa m)).size<=30:=by rw [AB];exact Nat.le_trans (Lib.itoa_length_le m (by omega) (by omega)) (by omega)
   have h44:(str [44]).size=1:=rfl;have HC:=A5 (fun w=>F7 m w hmr.1 hmr.2);clear hc1 hm hmr
   by_cases h0:j=0
   ·subst h0;have HN:Hid (AR Lib.itoa (l.take (0+1))=AR Lib.itoa (l.take 0)++Lib.itoa m):=A5 (by rw [hTK];rfl);have hS:(str (AR Lib.itoa (l.take 0))).size<=31000:=by rw [AB];exact hL
    have p0:=p1;rw [Nat.add_zero] at p0;generalize AR Lib.itoa (l.take 0)=S at *;generalize Lib.itoa m=M at *;clear hTK hL;go_wp2_with fail;refine (HC.out _).mono ?_;rintro e w2 ⟨rfl,hb⟩;replace HBR:=A5 (andthen HBR.out hb);go_wp2_with fail
    go_roundw
    case rel=>exact ⟨0+1,by omega,by go_num,by rw [HN.out,<- AM],HBR.out⟩
    case measure=>simp [intOf];omega
   ·have HN:Hid (AR Lib.itoa (l.take (j+1))=AR Lib.itoa (l.take j)++[44]++Lib.itoa m):=A5 (by
     rw [hTK,VR _ _ _ (by intro e;have:=congrArg List.length e;rw [List.length_take,List.length_nil] at this;omega)])
    have hS:(str (AR Lib.itoa (l.take j))).size<=31000:=by rw [AB];exact hL
    have hj0:(0:Int)<(j:Int):=by omega
    have hS2:(str (AR Lib.itoa (l.take j))++str [44]).size<=31001:=by rw [AM,AB,z0J];simp only [List.length_cons,List.length_nil];omega
    generalize AR Lib.itoa (l.take j)=S at *;generalize Lib.itoa m=M at *;clear hTK hL h0;go_wp2_with fail;refine (HC.out _).mono ?_;rintro e w2 ⟨rfl,hb⟩;replace HBR:=A5 (andthen HBR.out hb);go_wp2_with fail
    go_roundw
    case rel=>exact ⟨j+1,by omega,by go_num,by rw [HN.out,<- AM,<- AM],HBR.out⟩
    case measure=>simp [intOf];omega
  ·obtain rfl:j=l.length:=by omega
   have HF:Hid (l.take l.length=l):=A5 List.take_length;go_wp2_with fail;go_ret;exact ⟨by rw [HF.out];rfl,HBR.out⟩
end Go.Proofs.YtfecnkhoojnkbaaGreatDoor

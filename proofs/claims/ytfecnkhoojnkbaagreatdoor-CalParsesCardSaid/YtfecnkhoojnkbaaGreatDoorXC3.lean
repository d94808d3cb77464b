import Derived.Test.YtfecnkhoojnkbaaGreatDoorXC2
set_option maxHeartbeats 8000000
set_option maxRecDepth 1000000
namespace Go.Proofs.YtfecnkhoojnkbaaGreatDoor
open Go.RowKit Rul Rt Go.Sort Tryz
def nL (l:Tx) (k:Nat):Prop:=Li.AW (l.take k)=Ca.DI.take k
theorem zP (k:Nat) (h:k<9):(Ca.DI[k]'h).toNat∈[86,69,78,84,67,65,76,68,82]:=by
 have:∀ k:Fin 9,(Ca.DI[k.val]'k.isLt).toNat∈[86,69,78,84,67,65,76,68,82]:=by decide
 exact this ⟨k,h⟩
theorem YQ (k:Nat) (h:k<9):65<=(Ca.DI[k]'h).toNat/\(Ca.DI[k]'h).toNat<=90:=by
 have:∀ k:Fin 9,65<=(Ca.DI[k.val]'k.isLt).toNat/\(Ca.DI[k.val]'k.isLt).toNat<=90:=by decide
 exact this ⟨k,h⟩
theorem nM {l:Tx} {k:Nat} (h:nL l k) (hk:k<l.length) (h6:k<9) (hu:Li.up l[k]=Ca.DI[k]'h6):nL l (k+1):=by
 unfold nL at h ⊢;unfold Li.AW at h ⊢;have e2:Ca.DI.take (k+1)=Ca.DI.take k++[Ca.DI[k]'h6]:=List.take_succ_eq_append_getElem h6;rw [List.take_succ_eq_append_getElem hk,List.map_append,h,e2,List.map_singleton,hu]
theorem bJ {l:Tx} {k:Nat} (hk:k<l.length) (h6:k<9) (hu:Li.up l[k]≠Ca.DI[k]'h6):Li.AW l≠Ca.DI:=fun g=>by
 apply hu
 have hk2:k<(Li.AW l).length:=by rw [Li.DZ];exact hk
 have:(Li.AW l)[k]'hk2=Li.up l[k]:=by simp [Li.AW]
 rw [<- this];simp only [g];rfl
theorem sU {l:Tx} (h:nL l 9) (hl:l.length=9):Li.AW l=Ca.DI:=by
 unfold nL at h;rw [List.take_of_length_le (by omega)] at h;exact h
theorem sV {l:Tx} (hl:l.length≠9):Li.AW l≠Ca.DI:=fun g=>hl (by have:=congrArg List.length g;rw [Li.DZ] at this;exact this)
structure OddC (s:ByteArray) (k:Nat):Prop where
 k6:k<9
 ks:k<s.size
 high:128<=(s[k]'ks).toNat
theorem OddC.no {s:ByteArray} {k:Nat} (h:OddC s k):Li.AW s.data.toList≠Ca.DI:=by
 have hk:k<s.data.toList.length:=by rw [AE];exact h.ks
 refine bJ hk h.k6 ?_;rw [E9 s k h.ks hk];intro g;have hb:=YQ k h.k6;rcases (YH _ _ hb).1 g with e|e
 ·have:=h.high;rw [e] at this;omega
 ·have:=h.high;omega
theorem A1G (k:Nat) (h6:k<9) (h:k<(str Ca.DI).size):(str Ca.DI)[k]'h=Ca.DI[k]'h6:=by
 have:=E9 (str Ca.DI) k h (by rw [AE];exact h);rw [<- this];simp only [AD];rfl
theorem gR (s:ByteArray) (w:World) (hf:G3 w) (hs:s.size<=100000) :
    Calls prog 75 #[.string s,.string (str Ca.DI)] w (Ans w (.bool (decide (Li.AW s.data.toList=Ca.DI)))):=by
  have HF:=A5 hf;obtain ⟨T,hT⟩:∃ T,str Ca.DI=T:=⟨_,rfl⟩;have hTs:T.size=9:=by rw [<- hT];rfl
  have HT:=A5 hT;rw [hT];clear hT hf;obtain ⟨M,hM⟩:∃ M:Nat,min (s.size:Int) 9=(M:Int):=⟨min s.size 9,by omega⟩;have hMs:M<=s.size:=by omega
  have hMt:M<=9:=by omega
  have hMe:M=s.size∨M=9:=by omega
  go_enter func75,ntmps75;go_wp2_with fail;refine wp_scope_jumps 0 (fun a' w'=>w'=w/\∃ k:Nat,OddC s k/\∃ u,a'=FF s T k u) (fun _ _=>0) rfl ?_ ?_
  · go_wp2_with fail
    go_loopg [5] M (fun g s5 wx=>w=wx/\∃ i:Nat,i+g=M/\s5=.int .i64 i/\Hid (nL s.data.toList i))
    case atStart=>exact ⟨rfl,0,by omega,rfl,A5 rfl⟩
    case round =>
      obtain ⟨rfl,i,hig,rfl,HP⟩:=hrel
      cases gk with
      | zero =>
        have hiM:¬ ((i:Int)<(M:Int)):=by omega
        obtain rfl:i=M:=by omega
        by_cases hst:s.size=9
        · have hb:((s.size:Int)==9)=true:=beq_iff_eq.2 (by omega)
          have HE:Hid (decide (Li.AW s.data.toList=Ca.DI)=true):=A5 (z0H (by
            have h6:i=9:=by omega
            have:=HP.out;rw [h6] at this;exact sU this (by rw [AE];omega)))
          go_wp2_with fail;simp only [Exit.jump];go_ret;exact ⟨by rw [HE.out];rfl,start _⟩
        · have hb:((s.size:Int)==9)=false:=beq_eq_false_iff_ne.2 (by omega)
          have HE:Hid (decide (Li.AW s.data.toList=Ca.DI)=false):=A5 (z0G (sV (by rw [AE];omega)));go_wp2_with fail;simp only [Exit.jump];go_ret;exact ⟨by rw [HE.out];rfl,start _⟩
      | succ g =>
        have hiM:(i:Int)<(M:Int):=by omega
        have hisz:(i:Int)<(s.size:Int):=by omega
        have hitz:(i:Int)<9:=by omega
        have hin:i<s.size:=by omega
        have h6:i<9:=by omega
        obtain ⟨x,hx⟩:∃ x:UInt8,s[i]'hin=x:=⟨_,rfl⟩;obtain ⟨y,hy⟩:∃ y:UInt8,T[i]'(by omega)=y:=⟨_,rfl⟩;have hyw:y=Ca.DI[i]'h6:=by
          rw [<- hy];have:=HT.out;subst this;exact A1G i h6 _
        have hyb:=YQ i h6;rw [<- hyw] at hyb;have hxl:i<s.data.toList.length:=by rw [AE];exact hin
        have hxd:s.data.toList[i]=x:=by rw [E9 s i hin,hx]
        have hor:bits .or .u8 (x.toNat:Int) (y.toNat:Int)=((x.toNat ||| y.toNat:Nat):Int):=u8_or_nat _ _ (by have:=x.toNat_lt;omega) (by omega)
        by_cases hx128:x.toNat<128
        · have hor128:¬ ((128:Int)<=((x.toNat ||| y.toNat:Nat):Int)):=by have:=Nat.or_lt_two_pow (n:=7) hx128 (show y.toNat<2 ^ 7 by omega);omega
          by_cases hu:x=y∨x.toNat=y.toNat+32
          · have HN:=A5 (nM HP.out hxl h6 (by rw [hxd,<- hyw];exact (YH x y hyb).2 hu))
            clear hyw hxd hxl;go_wp2_with fail
            all_goals (try simp only [beq_iff_eq,beq_eq_false_iff_ne,ne_eq] at *)
            all_goals first
              | (go_roundg g
                 case measure=>omega
                 case rel=>exact ⟨rfl,i+1,by omega,by first|rfl|simp,HN⟩)
              | (exfalso;rcases hu with rfl | hu <;> omega)
          · have HE:Hid (decide (Li.AW s.data.toList=Ca.DI)=false):=A5 (z0G (bJ hxl h6 (by rw [hxd,<- hyw];exact fun g=>hu ((YH x y hyb).1 g))))
            have hu1:x.toNat≠y.toNat:=fun g=>hu (Or.inl (UInt8.toNat_inj.1 g))
            have hu2:x.toNat≠y.toNat+32:=fun g=>hu (Or.inr g)
            clear hyw hxd hxl hu;go_wp2_with fail
            all_goals (try simp only [beq_eq_false_iff_ne,ne_eq] at *)
            all_goals first
              | (simp only [Exit.jump]
                 go_ret;exact ⟨by rw [HE.out];rfl,start _⟩)
              | (exfalso;omega)
        · have hor128:(128:Int)<=((x.toNat ||| y.toNat:Nat):Int):=by have:x.toNat<=x.toNat ||| y.toNat:=Nat.left_le_or;omega
          have HO:Hid (OddC s i):=A5 ⟨h6,hin,by rw [hx];omega⟩;clear hyw hxd hxl;go_wp2_with fail
          go_step3
          exact ⟨rfl,rfl,i,HO.out,A1W rfl⟩
  · rintro a' w' ⟨rfl,k,ho,u,rfl⟩
    unfold FF;have hk6:=ho.k6;have hks:=ho.ks;have HE:Hid (decide (Li.AW s.data.toList=Ca.DI)=false):=A5 (z0G ho.no);have k0:(0:Int)<=(k:Int):=by omega
    have k1:(k:Int)<=(s.size:Int):=by omega
    have k2:(k:Int)<=9:=by omega
    have hTk:=HT.out;go_wp2_with fail;have hz1:0<(s.extract k s.size).size:=by rw [ByteArray.size_extract];omega
    have hz2:(s.extract k s.size)[0]'hz1=s[k]'hks:=by rw [ByteArray.getElem_extract];simp
    have hz3:128<=((s.extract k s.size)[0]'hz1).toNat:=by rw [hz2];exact ho.high
    have hy1:0<(T.extract k 9).size:=by rw [ByteArray.size_extract];omega
    have hy2:((T.extract k 9)[0]'hy1).toNat=(Ca.DI[k]'hk6).toNat:=by
      subst hTk;rw [ByteArray.getElem_extract];simp only [Nat.add_zero];rw [A1G k hk6]
    have hd:=zP k hk6;have hdb:=YQ k hk6;generalize s.extract k s.size=S2 at *;generalize T.extract k 9=T2 at *;generalize (Ca.DI[k]'hk6).toNat=d at *;have hdh:=(decode_high S2 0 hz1 hz3).1;have hdl:=decode_le S2 0;have hnx:=fun ty=>run_next_any (P:=prog) w' S2 0 ty hz1
    have hbit:Below w'.heap.size w' (w'.iter S2 (0+(Utf8.decode S2 0).2)):=by exact more (start w') _
    generalize (Utf8.decode S2 0).2=n2 at *;generalize (Utf8.decode S2 0).1=R at *;rw [Nat.zero_add] at hbit;have t0:((T2.size:Int)==0)=false:=by rw [beq_eq_false_iff_ne];omega
    have t1:(1:Int)<=(T2.size:Int):=by omega
    have t2:((d:Int)==R)=false:=by rw [beq_eq_false_iff_ne];omega
    have t3:(d:Int)<R:=by omega
    have t4:¬ R<128:=by omega
    have t5:(((d:Int)+32) != (d:Int))=true:=by rw [bne_iff_ne];omega
    have t6:(d:Int)+32<R:=by omega
    have t7:((d:Int) != (d:Int))=false:=by simp
    have hF1:=(HF.out d hd).1;have hF2:=(HF.out d hd).2;have hG1:=A5 (QE d (d+32) (w'.iter S2 n2) (by omega) (by omega) (A9 hbit hF1));have hG2:=A5 (QE (d+32) d (w'.iter S2 n2) (by omega) (by omega) (A9 hbit hF2));have hG3:=A5 (YG T2 d (w'.iter S2 n2) hy1 hy2 (by omega));clear hF1 hF2 hTk hz2 hy2 hd hz3 hdl;refine wp_loop_rounds 1 ?_;rw [rounds_succ];go_wp2_with fail;refine (hG3.out).mono ?_;rintro e w1 ⟨rfl,rfl⟩;go_wp2_with fail;refine (hG1.out).mono ?_;rintro e w1 ⟨rfl,rfl⟩;go_wp2_with fail;refine wp_loop_rounds 2 ?_;rw [rounds_succ];go_wp2_with fail;refine (hG2.out).mono ?_;rintro e w1 ⟨rfl,rfl⟩;go_wp2_with fail;rw [rounds_succ];go_wp2_with fail;simp only [Exit.jump];go_ret;exact ⟨by rw [HE.out];rfl,hbit⟩
theorem TY (t:Tx) (w:World) (he:EE w) (ht:t.length<=90000):Calls prog 74 #[.string (str t)] w (Ans w (RN (Li.AV t))) :=
 IC (str t) _ w he.e (by rw [AB];omega) (by rw [AD])
theorem sW (t:Tx) (w:World) (he:EE w) (ht:t.length<=90000):Calls prog 75 #[.string (str t),.string (str Ca.DI)] w (Ans w (.bool (decide (Li.AW t=Ca.DI)))):=by
 have:=gR (str t) w he.f (by rw [AB];omega);rw [AD] at this;exact this
theorem nN (n t:Tx) (w:World) (he:EE w) (ht:t.length<=90000) :
  Calls prog 48 #[.string (str n),.string (str t)] w (Ans w (.bool (Ca.JZ n t))):=by
 have HSP:=A5 (TY t w he ht);have HENV:=A5 he;have HT:=A5 ht
 cases hl:Li.AV t with
 | none =>
  rw [hl] at HSP;have HF:=A5 (Ca.iX (n:=n) hl);unfold RN at HSP;clear hl he ht;go_enter func48,ntmps48;go_wp2_with fail;refine (HSP.out).mono ?_;rintro _ w1 ⟨rfl,hb1⟩;have HB1:=A5 hb1;clear hb1;go_wp2_with fail;go_ret;exact ⟨AA (by rw [HF.out]),HB1.out⟩
 | some p =>
  obtain ⟨m,v⟩:=p;have hv:v.length<=t.length:=KB t m v hl;rw [hl] at HSP;have hF:=Ca.V4 (n:=n) hl;obtain ⟨g,hg⟩:∃ g,decide (m=n)=g:=⟨_,rfl⟩;obtain ⟨d,hd⟩:∃ d,decide (Li.AW v=Ca.DI)=d:=⟨_,rfl⟩;rw [hg,hd] at hF;have HF:=A5 hF;have HCC:=A5 (fun w he=>sW v w he (by omega));rw [hd] at HCC;have e1:(m==n)=g:=by rw [<- hg,AO]
  have q1:=AH m;have q2:=AH n;unfold RN at HSP;clear hl he ht hF hg hd hv
  cases g with
  | false =>
   go_enter func48,ntmps48;go_wp2_with fail;refine (HSP.out).mono ?_;rintro _ w1 ⟨rfl,hb1⟩;have HB1:=A5 hb1;clear hb1;go_wp2_with fail;go_ret;exact ⟨AA (by rw [HF.out];rfl),HB1.out⟩
  | true =>
   go_enter func48,ntmps48;go_wp2_with fail;refine (HSP.out).mono ?_;rintro _ w1 ⟨rfl,hb1⟩;have HB1:=A5 hb1;clear hb1;go_wp2_with fail;refine (HCC.out _ (HENV.out.keep HB1.out)).mono ?_;rintro _ w2 ⟨rfl,hb2⟩;have HB2:=A5 (andthen HB1.out hb2);clear hb2;go_wp2_with fail;go_ret;exact ⟨AA (by rw [HF.out];rfl),HB2.out⟩
theorem bK (n t:Tx) (b:Bool) (w:World) (he:EE w) (ht:t.length<=90000) (h:Ca.JZ n t=b) :
  Calls prog 48 #[.string (str n),.string (str t)] w (Ans w (.bool b)):=by subst h;exact nN n t w he ht
structure J9 (w:World) (B X M:Nat) (v:Value) (l:List EM) (us:List Tx) (ver:Bool):Prop where
 k:AX w X [v,.map (some M),.bool ver]
 s:P7 w M us
 h:M7 w B v l
 xB:X<B
 mB:M<B
 xm:X≠M
 bs:B<=w.heap.size
theorem J9.keep {w w':World} {B X M:Nat} {v:Value} {l:List EM} {us:List Tx} {ver:Bool} (h:J9 w B X M v l us ver) (hb:Below w.heap.size w w'):J9 w' B X M v l us ver :=
 ⟨h.k.keep hb,h.s.keep hb,h.h.keep hb,h.xB,h.mB,h.xm,Nat.le_trans h.bs hb.size⟩
theorem J9.vers {w:World} {B X M:Nat} {v:Value} {l:List EM} {us:List Tx} {ver:Bool} (h:J9 w B X M v l us ver) (b:Bool):J9 (w.setCell ⟨X,2,none⟩ (.bool b)) B X M v l us b :=
 ⟨(h.k.set 2 (.bool b) (by simp)).is rfl,World.ownsMap.setCell h.s (fun e=>h.xm e.symm) _,h.h.past (AG (start w)) h.xB,h.xB,h.mB,h.xm,by rw [World.size_setCell];exact h.bs⟩
theorem J9.put {w w':World} {B X M:Nat} {v:Value} {l:List EM} {us us2:List Tx} {ver:Bool} (h:J9 w B X M v l us ver) (g:w.grownBy w' (some M)) (s:P7 w' M us2):J9 w' B X M v l us2 ver :=
 ⟨h.k.grow g (fun e=>h.xm (by injection e)),s,h.h.past g h.mB,h.xB,h.mB,h.xm,Nat.le_trans h.bs g.size⟩
theorem J9.app {w w':World} {B X M:Nat} {v v':Value} {l:List EM} {us:List Tx} {ver:Bool} {p:EM} (h:J9 w B X M v l us ver) (hp:EvL w p.1 p.2) (hf:bA v p) (hl:QF B p) (ho:GP w' B v' (l++[p])) (g:M1 v w v' w') :
  J9 (w'.setCell ⟨X,0,none⟩ v') B X M v' (l++[p]) us ver:=by
 have hne:∀ c,c<B->some c≠v.ownBlock:=fun c hc e=>by have:=(h.h.own.lt c e.symm).1;omega
 have k1:=h.k.grow g.grown (hne X h.xB);have s1:=World.ownsMap.kept h.s g.grown (hne M h.mB);have h1:=h.h.more hp hf hl ho g;exact ⟨(k1.set 0 v' (by simp)).is rfl,World.ownsMap.setCell s1 (fun e=>h.xm e.symm) _,h1.past (AG (start w')) h.xB,h.xB,h.mB,h.xm,by rw [World.size_setCell];exact Nat.le_trans h.bs g.grown.size⟩
abbrev Y13 (W:World) (EB:Nat) (e:Ev.E) (m:Mem):Prop:=W.cell? ⟨EB,0,none⟩=some (.string (str e.uid))/\W.cell? ⟨EB,1,none⟩=some (.string (str e.text))/\W.cell? ⟨EB,2,none⟩=some (.int .i64 e.st)/\W.cell? ⟨EB,3,none⟩=some (.int .i64 e.lg)/\W.cell? ⟨EB,4,none⟩=some (.slice m.O e.rooms.length m.oc)/\W.cell? ⟨EB,5,none⟩=some (.int .i64 e.r.fr)/\W.cell? ⟨EB,6,none⟩=some (.int .i64 e.r.ev)/\W.cell? ⟨EB,7,none⟩=some (.int .i64 e.r.ct)/\W.cell? ⟨EB,8,none⟩=some (.int .i64 e.r.un)/\W.cell? ⟨EB,9,none⟩=some (.slice m.D e.r.ds.length m.dc)/\W.cell? ⟨EB,10,none⟩=some (.slice m.M e.r.ms.length m.mc)/\W.cell? ⟨EB,11,none⟩=some (.slice m.Y e.r.ys.length m.yc)/\W.cell? ⟨EB,12,none⟩=some (.slice m.X e.ex.length m.xc)
theorem bL {W W1:World} {EB:Nat} {e:Ev.E} {m:Mem} (hb:Below W.heap.size W W1) (h:Y13 W EB e m):Y13 W1 EB e m :=
 ⟨A9 hb h.1,A9 hb h.2.1,A9 hb h.2.2.1,A9 hb h.2.2.2.1,A9 hb h.2.2.2.2.1,A9 hb h.2.2.2.2.2.1,A9 hb h.2.2.2.2.2.2.1,A9 hb h.2.2.2.2.2.2.2.1,A9 hb h.2.2.2.2.2.2.2.2.1,A9 hb h.2.2.2.2.2.2.2.2.2.1,A9 hb h.2.2.2.2.2.2.2.2.2.2.1,A9 hb h.2.2.2.2.2.2.2.2.2.2.2.1,A9 hb h.2.2.2.2.2.2.2.2.2.2.2.2⟩
theorem bM {W:World} {EB:Nat} {e:Ev.E} {m:Mem} (o:Obj) (h:Y13 W EB e m):Y13 (W.alloc o) EB e m:=bL (more (start _) _) h
theorem U0 {W W1:World} {row:Option Nat} {EB:Nat} {e:Ev.E} {m:Mem} (h:Y13 W EB e m) (g:W.grownBy W1 row) (hne:some EB≠row):Y13 W1 EB e m :=
 ⟨g.cell h.1 hne,g.cell h.2.1 hne,g.cell h.2.2.1 hne,g.cell h.2.2.2.1 hne,g.cell h.2.2.2.2.1 hne,g.cell h.2.2.2.2.2.1 hne,g.cell h.2.2.2.2.2.2.1 hne,g.cell h.2.2.2.2.2.2.2.1 hne,g.cell h.2.2.2.2.2.2.2.2.1 hne,g.cell h.2.2.2.2.2.2.2.2.2.1 hne,g.cell h.2.2.2.2.2.2.2.2.2.2.1 hne,g.cell h.2.2.2.2.2.2.2.2.2.2.2.1 hne,g.cell h.2.2.2.2.2.2.2.2.2.2.2.2 hne⟩
theorem bN {W W1:World} {v v':Value} {EB:Nat} {e:Ev.E} {m:Mem} (h:Y13 W EB e m) (g:M1 v W v' W1) (hne:some EB≠v.ownBlock):Y13 W1 EB e m:=U0 h g.grown hne
theorem kW {W:World} {X i EB:Nat} {y:Value} {e:Ev.E} {m:Mem} (h:Y13 W EB e m) (hne:EB≠X):Y13 (W.setCell ⟨X,i,none⟩ y) EB e m:=U0 h (AG (start W)) (fun q=>hne (by injection q))
theorem nO (B X M:Nat) (v:Value) (l:List EM) (us:List Tx) (ver:Bool) (t:Tx) (w:World) (h:J9 w B X M v l us ver) :
  Calls prog 76 #[.pointer (some ⟨X,0,none⟩),.string (str t)] w fun e w'=>e=.returned (.bool (!ver&&decide (t=Ca.R9)))/\J9 w' B X M v l us true/\w.grownBy w' (some X):=by
 have k2:w.cell? ⟨X,2,none⟩=some (.bool ver):=h.k.cell 2 (by simp);have f2:=h.k.free 2;have HV:=A5 (h.vers true);have HG:=A5 (AG (b:=X) (i:=2) (y:=.bool true) (start w));obtain ⟨d,hd⟩:∃ d,decide (t=Ca.R9)=d:=⟨_,rfl⟩;have q1:(t==[50,46,48])=d:=by rw [<- hd,AO];rfl
 have q2:=AH t;rw [hd];clear hd h
 cases ver with
 | true =>
  go_enter func76,ntmps76;go_wp2_with fail;go_ret;exact ⟨rfl,HV.out,HG.out⟩
 | false =>
  go_enter func76,ntmps76;go_wp2_with fail;go_ret;exact ⟨by first|rfl|(cases d <;> rfl),HV.out,HG.out⟩
theorem bP {ops:Array Oper} {o:Oper} {a:Act} {K:Act->World->Prop} {Q:Exit->Act->World->Prop} {E:Prop} {w:World} {B:Nat} {v:Value} {l:List EM} {e:Ev.E} {m:Mem} (hgd:o.guard=none) (s x:Operand)
  (ho:o.op=.call { callee:=.builtin .append,args:=#[s,x],argTypes:=#[22,22] }) (hs:a.eval s=v) {N:Nat} (hN:w.heap.size=N) (hx:a.eval x=.slice (some ⟨N,0,none⟩) 1 1)
  (hown:GP (w.alloc (.cells #[.string (str e.uid),.string (str e.text),.int .i64 e.st,.int .i64 e.lg,.slice m.O e.rooms.length m.oc,.int .i64 e.r.fr,.int .i64 e.r.ev,.int .i64 e.r.ct,.int .i64 e.r.un,.slice m.D e.r.ds.length m.dc,.slice m.M e.r.ms.length m.mc,.slice m.Y e.r.ys.length m.yc,.slice m.X e.ex.length m.xc] 47)) B v l) (hB:B<=w.heap.size) (hn:l.length<=1000000)
  (h:∀ v' w',GP w' B v' (l++[(e,m)])->M1 v w v' w'->K (a.put o.dst v') w') :
  if Region.wanted o (yielded ops a.tmps)=true then Oper.wp prog o a (w.alloc (.cells #[.string (str e.uid),.string (str e.text),.int .i64 e.st,.int .i64 e.lg,.slice m.O e.rooms.length m.oc,.int .i64 e.r.fr,.int .i64 e.r.ev,.int .i64 e.r.ct,.int .i64 e.r.un,.slice m.D e.r.ds.length m.dc,.slice m.M e.r.ms.length m.mc,.slice m.Y e.r.ys.length m.yc,.slice m.X e.ex.length m.xc] 47)) K Q else E:=by
 have hw:Region.wanted o (yielded ops a.tmps)=true:=by simp [Region.wanted,hgd]
 rw [if_pos hw];subst hN;obtain ⟨i0,hi,hz0,hz1,hz2⟩:=info_parts TR;have hnews:∀ j u,(E8 e m)[j]?=some u->(w.alloc (.cells #[.string (str e.uid),.string (str e.text),.int .i64 e.st,.int .i64 e.lg,.slice m.O e.rooms.length m.oc,.int .i64 e.r.fr,.int .i64 e.r.ev,.int .i64 e.r.ct,.int .i64 e.r.un,.slice m.D e.r.ds.length m.dc,.slice m.M e.r.ms.length m.mc,.slice m.Y e.r.ys.length m.yc,.slice m.X e.ex.length m.xc] 47)).cell? ((⟨w.heap.size,0,none⟩:Addr).add j)=some u:=by
  intro j u hu;rw [plus,World.cell?_alloc_at _ _ _ _ rfl];exact (by simpa [E8] using hu)
 obtain ⟨v',w',hr,h2,h3,_,h5⟩:=run_append_own_at (P:=prog) (w:=w.alloc (.cells #[.string (str e.uid),.string (str e.text),.int .i64 e.st,.int .i64 e.lg,.slice m.O e.rooms.length m.oc,.int .i64 e.r.fr,.int .i64 e.r.ev,.int .i64 e.r.ct,.int .i64 e.r.un,.slice m.D e.r.ds.length m.dc,.slice m.M e.r.ms.length m.mc,.slice m.Y e.r.ys.length m.yc,.slice m.X e.ex.length m.xc] 47)) B 22 o.type 47 i0 _ 13 200 underlying22 hi hz0 hz1 hz2 rfl (by decide) v l.length (GC l) hown ⟨w.heap.size,0,none⟩ 1 1 (E8 e m) rfl hnews (TQ e m) (by unfold maxLen;omega) (by omega) (by simp only [World.size_alloc];omega);unfold Oper.wp execOp;simp only [ho,resolve,invoke,builtin,Sem.run_bind,Sem.run_pure,Result.andThen_ok,List.map_toArray,List.map_cons,List.map_nil,hs,hx,hr];refine h v' w' (by rw [GP,NT,z0J];exact (by simpa [GC] using h2)) ⟨(World.grownBy_alloc _ _ _).trans h3,?_⟩;rcases h5 with h5|h5
 ·exact Or.inl h5
 ·exact Or.inr ⟨_,h5,by simp⟩
def YR (w:World) (B0 B X M:Nat) (p:Option (Bool×List Ev.E)×Nat) (e:Ending) (w':World):Prop:=Below B0 w w'/\match p with
 | (none,k)=>e=.returned (.tuple #[.int .i64 k,.bool false])
 | (some (ver,o),k)=>∃ v l,e=.returned (.tuple #[.int .i64 k,.bool true])/\l.map Prod.fst=o/\J9 w' B X M v l (Ca.CB o) ver
theorem nP {w w':World} {B0 B X M k:Nat} {p:Option (Bool×List Ev.E)×Nat} {i:Int} (hp:p=(none,k)) (hi:i=(k:Int)) (hb:Below B0 w w'):YR w B0 B X M p (.returned (.tuple #[.int .i64 i,.bool false])) w':=by
 subst hp hi;exact ⟨hb,rfl⟩
theorem U1 {w w':World} {B0 B X M k:Nat} {p:Option (Bool×List Ev.E)×Nat} {ver:Bool} {o:List Ev.E} {v:Value} {l:List EM} (hp:p=(some (ver,o),k)) (hb:Below B0 w w') (hl:l.map Prod.fst=o) (h:J9 w' B X M v l (Ca.CB o) ver):YR w B0 B X M p (.returned (.tuple #[.int .i64 k,.bool true])) w':=by
 subst hp;exact ⟨hb,v,l,rfl,hl,h⟩
def sX (ver:Bool) (out:List Ev.E) (p:Option Ev.E×Nat):Option (Bool×List Ev.E)×Nat:=match p with
 | (none,k)=>(none,k)
 | (some e,k)=>if e.uid∈Ca.CB out then (none,k-1) else (some (ver,out++[e]),k)
theorem nQ (B0 B X M:Nat) (v:Value) (l:List EM) (ver:Bool) (A:Option Addr) (n c:Nat) (ls:List Tx) (w:World) (h:J9 w B X M v l (Ca.CB (l.map Prod.fst)) ver) (h0:B0<=X) (h1:B0<=M) (hl:l.length<=1000)
  (hr:BU w A ls) (hn:n=ls.length) (hsz:ls.length<=900) (hb:∀ p∈ls,p.length<=90000) (he:EE w) :
  Calls prog 77 #[.pointer (some ⟨X,0,none⟩),.slice A n c] w (YR w B0 B X M (sX ver (l.map Prod.fst) (Ev.CS unU ls))):=by
 obtain ⟨A2,cap2,rfl,_⟩:=GP.row h.h.own;have HRD:=A5 (oD A n c ls w hr hn hsz (fun p hp=>Nat.le_trans (hb p hp) (by decide)) he);have HH0:=A5 h;have HB0:=A5 (And.intro h0 h1);have hB0w:B0<=w.heap.size:=by have:=h.xB;have:=h.bs;omega
 obtain ⟨es,hes⟩:∃ es,l.map Prod.fst=es:=⟨_,rfl⟩;have HES:=A5 hes;rw [hes] at HH0 ⊢;have HLN:Hid (l.length<=1000000):=A5 (by omega);have HUS0:Hid ((Ca.CB es).length<=1000000):=A5 (by rw [<- hes];unfold Ca.CB;rw [List.length_map,List.length_map];omega);have HRL:=A5 (fun (x:Ev.E) (k:Nat) (q:Ev.CS unU ls=(some x,k))=>Ca.JI q);have HK9:Hid (∀ (x:Ev.E) (k:Nat),Ev.CS unU ls=(some x,k)->k<=900):=A5 (fun x k q=>by have:=(Ca.JI q).2;omega);have hbsw:=h.bs;clear h h0 h1 hl hr hn hsz hb he hes;obtain ⟨p,hp⟩:∃ p,Ev.CS unU ls=p:=⟨_,rfl⟩;rw [hp] at HRD ⊢;obtain ⟨o,k⟩:=p;have HP:=A5 hp;clear hp;go_enter func77,ntmps77;go_wp2_with fail;refine (HRD.out).mono ?_;rintro _ w1 ⟨hb1,hx⟩
 cases o with
 | none =>
  dsimp only at hx
  subst hx;have HB1:=A5 hb1;clear hb1;unfold BE;go_wp2_with fail;go_ret2;exact ⟨(andthen HB1.out (more (start w1) _)).mono hB0w,rfl⟩
 | some e =>
  obtain ⟨m,rfl,hnew⟩:=hx;have hk:=HRL.out e k HP.out;replace HK9:=A5 (HK9.out e k HP.out);have HWE:Hid (w.heap.size<=w1.heap.size):=A5 hb1.size;have HRG:=A5 (HH0.out.keep hb1);have HEL:=A5 hnew.BD;have HEW:=A5 hnew.nD;have HB1:=A5 hb1;have HVB:Hid (∀ g,(Value.slice A2 l.length cap2).ownBlock=some g->g<w.heap.size):=A5 (fun g q=>(HH0.out.h.own.lt g q).2);have hlow:QF B (e,m):=hnew.nD.down HH0.out.bs;have hoff:bA (Value.slice A2 l.length cap2) (e,m):=hnew.nD.off HVB.out;have HLO:=A5 (And.intro hlow hoff);have HUL:Hid (e.uid.length<=1000000):=A5 (by have:=hnew.ul;omega);clear hb1 hnew hlow hoff HH0;obtain ⟨us,hus⟩:∃ us,Ca.CB es=us:=⟨_,rfl⟩;have HUE:=A5 hus;rw [hus] at HRG HUS0;have HUS:=HUS0;clear hus HUS0;obtain ⟨d,hd⟩:∃ d,(!decide (e.uid∈us))=d:=⟨_,rfl⟩;have HD:=A5 hd;clear hd;have hEB:=more (start w1) (.cells #[.string (str e.uid),.string (str e.text),.int .i64 e.st,.int .i64 e.lg,.slice m.O e.rooms.length m.oc,.int .i64 e.r.fr,.int .i64 e.r.ev,.int .i64 e.r.ct,.int .i64 e.r.un,.slice m.D e.r.ds.length m.dc,.slice m.M e.r.ms.length m.mc,.slice m.Y e.r.ys.length m.yc,.slice m.X e.ex.length m.xc] 47);have hxx:=AS w1 #[.string (str e.uid),.string (str e.text),.int .i64 e.st,.int .i64 e.lg,.slice m.O e.rooms.length m.oc,.int .i64 e.r.fr,.int .i64 e.r.ev,.int .i64 e.r.ct,.int .i64 e.r.un,.slice m.D e.r.ds.length m.dc,.slice m.M e.r.ms.length m.mc,.slice m.Y e.r.ys.length m.yc,.slice m.X e.ex.length m.xc] 47;have y13:Y13 (w1.alloc (.cells #[.string (str e.uid),.string (str e.text),.int .i64 e.st,.int .i64 e.lg,.slice m.O e.rooms.length m.oc,.int .i64 e.r.fr,.int .i64 e.r.ev,.int .i64 e.r.ct,.int .i64 e.r.un,.slice m.D e.r.ds.length m.dc,.slice m.M e.r.ms.length m.mc,.slice m.Y e.r.ys.length m.yc,.slice m.X e.ex.length m.xc] 47)) w1.heap.size e m:=⟨hxx 0 _ rfl,hxx 1 _ rfl,hxx 2 _ rfl,hxx 3 _ rfl,hxx 4 _ rfl,hxx 5 _ rfl,hxx 6 _ rfl,hxx 7 _ rfl,hxx 8 _ rfl,hxx 9 _ rfl,hxx 10 _ rfl,hxx 11 _ rfl,hxx 12 _ rfl⟩;have HY:=A5 y13;have HRG2:=A5 (HRG.out.keep hEB);have HEL2:=A5 (HEL.out.keep hEB);have HB2:=A5 (andthen HB1.out hEB);have hEBs:(w1.alloc (.cells #[.string (str e.uid),.string (str e.text),.int .i64 e.st,.int .i64 e.lg,.slice m.O e.rooms.length m.oc,.int .i64 e.r.fr,.int .i64 e.r.ev,.int .i64 e.r.ct,.int .i64 e.r.un,.slice m.D e.r.ds.length m.dc,.slice m.M e.r.ms.length m.mc,.slice m.Y e.r.ys.length m.yc,.slice m.X e.ex.length m.xc] 47)).heap.size=w1.heap.size+1:=World.size_alloc _ _;have hbs1:=HRG.out.bs;clear hEB hxx y13 HEL HRG;have hk1:(0:Int)<=(k:Int):=by omega
  have hk2:(k:Int)<=900:=by have:=HK9.out;omega
  go_wp2_with fail;generalize w1.alloc (.cells #[.string (str e.uid),.string (str e.text),.int .i64 e.st,.int .i64 e.lg,.slice m.O e.rooms.length m.oc,.int .i64 e.r.fr,.int .i64 e.r.ev,.int .i64 e.r.ct,.int .i64 e.r.un,.slice m.D e.r.ds.length m.dc,.slice m.M e.r.ms.length m.mc,.slice m.Y e.r.ys.length m.yc,.slice m.X e.ex.length m.xc] 47)=W2 at *;generalize w1.heap.size=EB at *;have HRGD:=A5 (HRG2.out.keep (Below.drew (start W2)));have HED:=A5 (HEL2.out.keep (Below.drew (start W2)));have HBD:=A5 (((andthen HB2.out (Below.drew (start W2)))).mono hB0w);have hxm:=HRG2.out.xm;have hmb:=HRG2.out.mB;have hxb:=HRG2.out.xB;have hXM:some X≠some M:=fun q=>hxm (by injection q)
  have hEM:some EB≠some M:=fun q=>by injection q with q;omega
  have HEX:Hid (EB≠X):=A5 (by omega);have HSB:Hid (B0<=W2.heap.size):=A5 (by have:=HB0.out.1;omega);have k1:W2.drew.cell? ⟨X,1,none⟩=some (.map (some M)):=HRGD.out.k.cell 1 (by simp);have x0:W2.drew.cell? ⟨EB,0,none⟩=some (.string (str e.uid)):=HY.out.1;refine wp_region_held_drew (S:=fun W'=>W'.cell? ⟨X,1,none⟩=some (.map (some M))/\W'.cell? ⟨EB,0,none⟩=some (.string (str e.uid))) (by kernel_rfl) ?_ (fun hH0=>?_)
  ·exact ⟨k1,x0⟩
  refine' z0L (i:=0) (v:=?v0) rfl (by kernel_rfl) (by kernel_rfl) (by kernel_rfl) ?y0 hH0 ?r0
  case y0=>(intro w hSw;(try dsimp only at hSw);go_simp;(try with_reducible rfl))
  try simp only [Act.put,z0A,z0C,z0D,z0E,z0F]
  refine' z0L (i:=1) (v:=?v1) rfl (by kernel_rfl) (by kernel_rfl) (by kernel_rfl) ?y1 hH0 ?r1
  case y1=>(intro w hSw;(try dsimp only at hSw);go_simp;(try with_reducible rfl))
  try simp only [Act.put,z0A,z0B,z0C,z0D,z0E,z0F]
  refine' z0L (i:=2) (v:=?v2) rfl (by kernel_rfl) (by kernel_rfl) (by kernel_rfl) ?y2 hH0 ?r2
  case y2=>(intro w hSw;(try dsimp only at hSw);go_simp;(try with_reducible rfl))
  try simp only [Act.put,z0A,z0B,z0C,z0D,z0E,z0F]
  refine' z0L (i:=3) (v:=?v3) rfl (by kernel_rfl) (by kernel_rfl) (by kernel_rfl) ?y3 hH0 ?r3
  case y3=>(intro w hSw;(try dsimp only at hSw);go_simp;(try with_reducible rfl))
  try simp only [Act.put,z0A,z0B,z0C,z0D,z0E,z0F]
  refine' z0L (i:=4) (v:=?v4) rfl (by kernel_rfl) (by kernel_rfl) (by kernel_rfl) ?y4 hH0 ?r4
  case y4=>(intro w hSw;(try dsimp only at hSw);go_simp;(try with_reducible rfl))
  try simp only [Act.put,z0A,z0B,z0C,z0D,z0E,z0F]
  refine' z0L (i:=5) (v:=?v5) rfl (by kernel_rfl) (by kernel_rfl) (by kernel_rfl) ?y5 hH0 ?r5
  case y5=>(intro w hSw;(try dsimp only at hSw);go_simp;(try with_reducible rfl))
  try simp only [Act.put,z0A,z0B,z0C,z0D,z0E,z0F]
  refine wpAnyH_ready (rs:=[6]) (by as_aux_lemma=>kernel_rfl) (by simp) ?_;refine AllReadyH.cons (o:=_) rfl (fun K hK=>?_) AllReadyH.nil
  go_simp
  refine (sO M us e.uid d W2.drew HRGD.out.s HUS.out HUL.out HD.out).mono ?_;rintro _ w4 ⟨rfl,hs4,hg4⟩;refine hK.out _ _ (⟨hg4.cell hH0.1 hXM,hg4.cell hH0.2 hEM⟩) (fun hN=>?_);clear hK K hH0;have hH1:=hN;clear hN
  try simp only [Act.put,z0A,z0B,z0C,z0D,z0E,z0F]
  refine' z0L (i:=7) (v:=?v6) rfl (by kernel_rfl) (by kernel_rfl) (by kernel_rfl) ?y6 hH1 ?r6
  case y6=>(intro w hSw;(try dsimp only at hSw);go_simp;(try with_reducible rfl))
  try simp only [Act.put,z0A,z0B,z0C,z0D,z0E,z0F]
  refine wpAnyH_done (by as_aux_lemma=>kernel_rfl) ?_ _;have HG4:=A5 hg4;have HS4:=A5 hs4;clear hH1 hg4 hs4;have HR4b:=A5 (HRGD.out.put HG4.out HS4.out);have HE4b:=A5 (HLO.out.1.past HED.out HG4.out hmb);have HB4b:=A5 (HBD.out.grown HG4.out HSB.out (fun c hc=>by injection hc with hc;rw [<- hc];exact HB0.out.2));have HY4:=A5 (U0 (W:=W2.drew) HY.out HG4.out hEM);have hs4:=HG4.out.size;have hs4':W2.heap.size<=w4.heap.size:=hs4;clear HRGD HED HBD HRG2 HEL2 HY k1 x0 hs4
  cases d with
  | false =>
   have HIN:Hid (e.uid∈us):=A5 (by have:=HD.out;simpa using this);have hkk:(k:Int)-1=((k-1:Nat):Int):=by omega
   go_wp2_with fail;go_ret2;exact nP (by simp only [sX,HUE.out,if_pos HIN.out]) rfl HB4b.out
  | true =>
   have HNI:Hid (e.uid∉us):=A5 (by have:=HD.out;simpa using this);go_wp2_with fail;have HR4:=A5 (HR4b.out.keep (Below.drew (start w4)));have HE4:=A5 (HE4b.out.keep (Below.drew (start w4)));have HB4:Hid (Below B0 w w4.drew):=A5 (HB4b.out.trans ((Below.drew (start w4)).mono (by have:=HSB.out;omega)));have HF4:=A5 (HLO.out.2);have HYD:Hid (Y13 w4.drew EB e m):=HY4;have HOWN:=A5 HR4.out.h.own;have HBS:Hid (B<=w4.drew.heap.size):=A5 HR4.out.bs;have HBZ:Hid (B0<=w4.drew.heap.size):=A5 (by have:=HSB.out;show B0<=w4.heap.size;omega);have HB0B:Hid (B0<=B):=A5 (by have:=HB0.out.1;omega);have HXV:Hid (some X≠(Value.slice A2 l.length cap2).ownBlock):=A5 (fun q=>by have:=(HOWN.out.lt X q.symm).1;omega);have HEV:Hid (some EB≠(Value.slice A2 l.length cap2).ownBlock):=A5 (fun q=>by have:=HVB.out EB q.symm;have:=HWE.out;omega);have ck0:w4.drew.cell? ⟨X,0,none⟩=some (.slice A2 l.length cap2):=HR4.out.k.cell 0 (by simp);have ck1:(w4.drew.alloc (.cells #[.string (str e.uid),.string (str e.text),.int .i64 e.st,.int .i64 e.lg,.slice m.O e.rooms.length m.oc,.int .i64 e.r.fr,.int .i64 e.r.ev,.int .i64 e.r.ct,.int .i64 e.r.un,.slice m.D e.r.ds.length m.dc,.slice m.M e.r.ms.length m.mc,.slice m.Y e.r.ys.length m.yc,.slice m.X e.ex.length m.xc] 47)).cell? ⟨X,0,none⟩=some (.slice A2 l.length cap2):=(HR4.out.k.keep (more (start _) _)).cell 0 (by simp);have ck2:(w4.alloc (.cells #[.string (str e.uid),.string (str e.text),.int .i64 e.st,.int .i64 e.lg,.slice m.O e.rooms.length m.oc,.int .i64 e.r.fr,.int .i64 e.r.ev,.int .i64 e.r.ct,.int .i64 e.r.un,.slice m.D e.r.ds.length m.dc,.slice m.M e.r.ms.length m.mc,.slice m.Y e.r.ys.length m.yc,.slice m.X e.ex.length m.xc] 47)).drew.cell? ⟨X,0,none⟩=some (.slice A2 l.length cap2):=ck1;clear HR4b HE4b HB4b HY4;have hl9:(l++[(e,m)]).length=l.length+1:=by rw [z0J];rfl
   have hl8:(l++[(e,m)]).map Prod.fst=es++[e]:=by rw [List.map_append,HES.out];rfl
   have hu8:us++[e.uid]=Ca.CB (es++[e]):=by rw [<- HUE.out];simp [Ca.CB]
   refine wp_region_held_drew (S:=fun W'=>W'.cell? ⟨EB,0,none⟩=some (.string (str e.uid))/\W'.cell? ⟨EB,1,none⟩=some (.string (str e.text))/\W'.cell? ⟨EB,2,none⟩=some (.int .i64 e.st)/\W'.cell? ⟨EB,3,none⟩=some (.int .i64 e.lg)/\W'.cell? ⟨EB,4,none⟩=some (.slice m.O e.rooms.length m.oc)/\W'.cell? ⟨EB,5,none⟩=some (.int .i64 e.r.fr)/\W'.cell? ⟨EB,6,none⟩=some (.int .i64 e.r.ev)/\W'.cell? ⟨EB,7,none⟩=some (.int .i64 e.r.ct)/\W'.cell? ⟨EB,8,none⟩=some (.int .i64 e.r.un)/\W'.cell? ⟨EB,9,none⟩=some (.slice m.D e.r.ds.length m.dc)/\W'.cell? ⟨EB,10,none⟩=some (.slice m.M e.r.ms.length m.mc)/\W'.cell? ⟨EB,11,none⟩=some (.slice m.Y e.r.ys.length m.yc)/\W'.cell? ⟨EB,12,none⟩=some (.slice m.X e.ex.length m.xc)) (by kernel_rfl) ?_ (fun hH0=>?_)
   ·exact HYD.out
   refine' z0L (i:=0) (v:=?v50) rfl (by kernel_rfl) (by kernel_rfl) (by kernel_rfl) ?y50 hH0 ?r50
   case y50=>(intro w hSw;(try dsimp only at hSw);go_simp;(try with_reducible rfl))
   try simp only [Act.put,z0A,z0C,z0D,z0E,z0F]
   refine' z0L (i:=1) (v:=?v51) rfl (by kernel_rfl) (by kernel_rfl) (by kernel_rfl) ?y51 hH0 ?r51
   case y51=>(intro w hSw;(try dsimp only at hSw);go_simp;(try with_reducible rfl))
   try simp only [Act.put,z0A,z0B,z0C,z0D,z0E,z0F]
   refine' z0L (i:=2) (v:=?v52) rfl (by kernel_rfl) (by kernel_rfl) (by kernel_rfl) ?y52 hH0 ?r52
   case y52=>(intro w hSw;(try dsimp only at hSw);go_simp;(try with_reducible rfl))
   try simp only [Act.put,z0A,z0B,z0C,z0D,z0E,z0F]
   refine' z0L (i:=3) (v:=?v53) rfl (by kernel_rfl) (by kernel_rfl) (by kernel_rfl) ?y53 hH0 ?r53
   case y53=>(intro w hSw;(try dsimp only at hSw);go_simp;(try with_reducible rfl))
   try simp only [Act.put,z0A,z0B,z0C,z0D,z0E,z0F]
   refine' z0L (i:=5) (v:=?v54) rfl (by kernel_rfl) (by kernel_rfl) (by kernel_rfl) ?y54 hH0 ?r54
   case y54=>(intro w hSw;(try dsimp only at hSw);go_simp;(try with_reducible rfl))
   try simp only [Act.put,z0A,z0B,z0C,z0D,z0E,z0F]
   refine wpAnyH_ready (rs:=[4,6]) (by as_aux_lemma=>kernel_rfl) (by simp) ?_;refine AllReadyH.cons (o:=_) rfl (fun K hK=>?_) (AllReadyH.cons (o:=_) rfl (fun K hK=>?_) AllReadyH.nil)
   ·go_simp
    refine hK.out _ _ (hH0) (fun hN=>?_);clear hK K hH0;have hH1:=hN;clear hN
    try simp only [Act.put,z0A,z0B,z0C,z0D,z0E,z0F]
    refine wpAnyH_ready (rs:=[6]) (by as_aux_lemma=>kernel_rfl) (by simp) ?_;refine AllReadyH.cons (o:=_) rfl (fun K hK=>?_) AllReadyH.nil
    go_simp
    refine hK.out _ _ (bM _ hH1) (fun hN=>?_);clear hK K hH1;have hH2:=hN;clear hN
    try simp only [Act.put,z0A,z0B,z0C,z0D,z0E,z0F]
    refine wpAnyH_ready (rs:=[7]) (by as_aux_lemma=>kernel_rfl) (by simp) ?_;refine AllReadyH.cons (o:=_) rfl (fun K hK=>?_) AllReadyH.nil;refine bP (w:=w4.drew) (l:=l) (e:=e) (m:=m) rfl _ _ rfl rfl rfl rfl (HOWN.out.alloc _) HBS.out HLN.out ?_;intro v8 w8 hown8 hg8;obtain ⟨A8,c8,rfl,_⟩:=GP.row hown8;rw [hl9] at hown8 hg8;have hk8:=HR4.out.k.grow hg8.grown HXV.out;have ck8:=hk8.cell 0 (by simp);have fk8:=hk8.free 0;refine hK.out _ _ (bN HYD.out hg8 HEV.out) (fun hN=>?_);clear hK K hH2;have hH3:=hN;clear hN
    try simp only [Act.put,z0A,z0B,z0C,z0D,z0E,z0F]
    refine' z0L (i:=8) (v:=?v55) rfl (by kernel_rfl) (by kernel_rfl) (by kernel_rfl) ?y55 hH3 ?r55
    case y55=>(intro w hSw;(try dsimp only at hSw);go_simp;(try with_reducible rfl))
    try simp only [Act.put,z0A,z0B,z0C,z0D,z0E,z0F]
    refine' z0L (i:=9) (v:=?v56) rfl (by kernel_rfl) (by kernel_rfl) (by kernel_rfl) ?y56 hH3 ?r56
    case y56=>(intro w hSw;(try dsimp only at hSw);go_simp;(try with_reducible rfl))
    try simp only [Act.put,z0A,z0B,z0C,z0D,z0E,z0F]
    refine wpAnyH_ready (rs:=[10]) (by as_aux_lemma=>kernel_rfl) (by simp) ?_;refine AllReadyH.cons (o:=_) rfl (fun K hK=>?_) AllReadyH.nil
    go_simp
    refine hK.out _ _ (kW hH3 HEX.out) (fun hN=>?_);clear hK K hH3;have hH4:=hN;clear hN
    try simp only [Act.put,z0A,z0B,z0C,z0D,z0E,z0F]
    refine wpAnyH_done (by as_aux_lemma=>kernel_rfl) ?_ _;have HA8:=A5 (HR4.out.app HE4.out HF4.out HLO.out.1 hown8 hg8);have HB8:=A5 ((HB4.out.grown hg8.grown HBZ.out (fun k hk=>Nat.le_trans HB0B.out (HOWN.out.lt k hk).1)).setCell (p:=⟨X,0,none⟩) HB0.out.1 (.slice A8 (l.length+1) c8));clear hH4 hown8 hg8 hk8 ck8 fk8;go_wp2_with fail;go_ret2;exact U1 (by simp only [sX,HUE.out,if_neg HNI.out]) HB8.out hl8 (hu8▸HA8.out)
   ·go_simp
    refine hK.out _ _ (bM _ hH0) (fun hN=>?_);clear hK K hH0;have hH1:=hN;clear hN
    try simp only [Act.put,z0A,z0B,z0C,z0D,z0E,z0F]
    refine wpAnyH_ready (rs:=[4]) (by as_aux_lemma=>kernel_rfl) (by simp) ?_;refine AllReadyH.cons (o:=_) rfl (fun K hK=>?_) AllReadyH.nil
    go_simp
    refine hK.out _ _ (hH1) (fun hN=>?_);clear hK K hH1;have hH2:=hN;clear hN
    try simp only [Act.put,z0A,z0B,z0C,z0D,z0E,z0F]
    refine wpAnyH_ready (rs:=[7]) (by as_aux_lemma=>kernel_rfl) (by simp) ?_;refine AllReadyH.cons (o:=_) rfl (fun K hK=>?_) AllReadyH.nil;refine bP (w:=w4.drew) (l:=l) (e:=e) (m:=m) rfl _ _ rfl rfl rfl rfl (HOWN.out.alloc _) HBS.out HLN.out ?_;intro v8 w8 hown8 hg8;obtain ⟨A8,c8,rfl,_⟩:=GP.row hown8;rw [hl9] at hown8 hg8;have hk8:=HR4.out.k.grow hg8.grown HXV.out;have ck8:=hk8.cell 0 (by simp);have fk8:=hk8.free 0;refine hK.out _ _ (bN HYD.out hg8 HEV.out) (fun hN=>?_);clear hK K hH2;have hH3:=hN;clear hN
    try simp only [Act.put,z0A,z0B,z0C,z0D,z0E,z0F]
    refine' z0L (i:=8) (v:=?v57) rfl (by kernel_rfl) (by kernel_rfl) (by kernel_rfl) ?y57 hH3 ?r57
    case y57=>(intro w hSw;(try dsimp only at hSw);go_simp;(try with_reducible rfl))
    try simp only [Act.put,z0A,z0B,z0C,z0D,z0E,z0F]
    refine' z0L (i:=9) (v:=?v58) rfl (by kernel_rfl) (by kernel_rfl) (by kernel_rfl) ?y58 hH3 ?r58
    case y58=>(intro w hSw;(try dsimp only at hSw);go_simp;(try with_reducible rfl))
    try simp only [Act.put,z0A,z0B,z0C,z0D,z0E,z0F]
    refine wpAnyH_ready (rs:=[10]) (by as_aux_lemma=>kernel_rfl) (by simp) ?_;refine AllReadyH.cons (o:=_) rfl (fun K hK=>?_) AllReadyH.nil
    go_simp
    refine hK.out _ _ (kW hH3 HEX.out) (fun hN=>?_);clear hK K hH3;have hH4:=hN;clear hN
    try simp only [Act.put,z0A,z0B,z0C,z0D,z0E,z0F]
    refine wpAnyH_done (by as_aux_lemma=>kernel_rfl) ?_ _;have HA8:=A5 (HR4.out.app HE4.out HF4.out HLO.out.1 hown8 hg8);have HB8:=A5 ((HB4.out.grown hg8.grown HBZ.out (fun k hk=>Nat.le_trans HB0B.out (HOWN.out.lt k hk).1)).setCell (p:=⟨X,0,none⟩) HB0.out.1 (.slice A8 (l.length+1) c8));clear hH4 hown8 hg8 hk8 ck8 fk8;go_wp2_with fail;go_ret2;exact U1 (by simp only [sX,HUE.out,if_neg HNI.out]) HB8.out hl8 (hu8▸HA8.out)
theorem nR (B0 B X M:Nat) (v:Value) (l:List EM) (ver:Bool) (A:Option Addr) (n c:Nat) (ls:List Tx) (w:World) (h:J9 w B X M v l (Ca.CB (l.map Prod.fst)) ver) (h0:B0<=X) (h1:B0<=M) (hl:l.length<=1000)
    (hr:BU w A ls) (hn:n=ls.length) (hne:ls≠[]) (hsz:ls.length<=900) (hb:∀ p∈ls,p.length<=90000) (he:EE w) :
    Calls prog 49 #[.pointer (some ⟨X,0,none⟩),.slice A n c] w (YR w B0 B X M (Ca.K4 unU ver (l.map Prod.fst) ls)):=by
  obtain ⟨t,ts,rfl⟩:∃ t ts,ls=t :: ts:=by
    cases ls with
    | nil=>exact absurd rfl hne
    | cons a b=>exact ⟨a,b,rfl⟩
  obtain ⟨b1,o1,rfl,hb1,hc1⟩:=hr hne;have p0:w.cell? ⟨b1,o1,none⟩=some (.string (str t)):=hc1 0 (by simp);have htl:t.length<=90000:=hb t List.mem_cons_self;have hn0:(0:Int)<(n:Int):=by rw [hn];simp only [List.length_cons];omega
  have HSP:=A5 (TY t w he htl);have HRG:=A5 h;have hB0w:B0<=w.heap.size:=by have:=h.xB;have:=h.bs;omega
  have HTE:=A5 (fun w (h:J9 w B X M v l (Ca.CB (l.map Prod.fst)) ver) hr he=>nQ B0 B X M v l ver (some ⟨b1,o1,none⟩) n c (t :: ts) w h h0 h1 hl hr hn hsz hb he);have HTV:=A5 (fun (t:Tx) w (h:J9 w B X M v l (Ca.CB (l.map Prod.fst)) ver)=>nO B X M v l _ ver t w h);have HRW:=A5 hr;have HENV:=A5 he;have HB0:=A5 (And.intro h0 h1);obtain ⟨es,hes⟩:∃ es,l.map Prod.fst=es:=⟨_,rfl⟩;have HES:=A5 hes;rw [hes] at HRG HTE HTV ⊢;obtain ⟨R,hR⟩:∃ R,Ca.K4 unU ver es (t :: ts)=R:=⟨_,rfl⟩;rw [hR];have HBS:=A5 hB0w;clear h hl hr hn hne hsz hb he hes hc1 hb1 h0 h1;unfold Ca.K4 at hR;simp only at hR
  cases hlt:Li.AV t with
  | none =>
    rw [hlt] at hR HSP;simp only at hR;have HR:=A5 hR.symm;unfold RN at HSP;clear hlt hR htl;go_enter func49,ntmps49;go_wp2_with fail;refine (HSP.out).mono ?_;rintro _ w1 ⟨rfl,hb1⟩;have HB1:=A5 (hb1.mono HBS.out);clear hb1;go_wp2_with fail;go_ret2;rw [HR.out];exact ⟨HB1.out,rfl⟩
  | some p =>
    obtain ⟨nm,vl⟩:=p;rw [hlt] at hR HSP;simp only at hR;unfold RN at HSP;obtain ⟨gE,hgE⟩:∃ g,decide (nm=Ev.DD)=g:=⟨_,rfl⟩;obtain ⟨gV,hgV⟩:∃ g,decide (nm=Ca.R8)=g:=⟨_,rfl⟩;obtain ⟨gB,hgB⟩:∃ g,decide (nm=Ev.AP)=g:=⟨_,rfl⟩;have e1:(nm==[69,78,68])=gE:=by rw [<- hgE,AO];rfl
    have e2:(nm==[86,69,82,83,73,79,78])=gV:=by rw [<- hgV,AO];rfl
    have e3:(nm==[66,69,71,73,78])=gB:=by rw [<- hgB,AO];rfl
    have q1:=AH nm;clear hlt htl
    cases gE with
    | true =>
      rw [if_pos (of_decide_eq_true hgE)] at hR;have HR:=A5 hR.symm;clear hR hgE hgV hgB;go_enter func49,ntmps49;go_wp2_with fail;refine (HSP.out).mono ?_;rintro _ w1 ⟨rfl,hb1⟩;have HB1:=A5 (hb1.mono HBS.out);clear hb1;go_wp2_with fail;go_ret2;rw [HR.out];exact ⟨HB1.out,rfl⟩
    | false =>
      rw [if_neg (of_decide_eq_false hgE)] at hR
      cases gV with
      | true =>
        have hnv:=of_decide_eq_true hgV;rw [if_pos hnv] at hR;have hB0:gB=false:=by rw [<- hgB];exact z0G (fun q=>Ca.RD (hnv.symm.trans q))
        subst hB0;obtain ⟨d,hd⟩:∃ d,(!ver&&decide (vl=Ca.R9))=d:=⟨_,rfl⟩;replace HTV:=A5 (HTV.out vl);rw [hd] at HTV;clear hgE hgV hgB hnv;go_enter func49,ntmps49;go_wp2_with fail;refine (HSP.out).mono ?_;rintro _ w1 ⟨rfl,hb1⟩;have HB1:=A5 (hb1.mono HBS.out);have HRG1:=A5 (HRG.out.keep hb1);have hsz1:=hb1.size;clear hb1;go_wp2_with fail;refine (HTV.out w1 HRG1.out).mono ?_;rintro _ w2 ⟨rfl,hrg2,hg2⟩;have HRG2:=A5 hrg2;have HB2:=A5 (HB1.out.grown hg2 (by omega) (fun k hk=>by injection hk with hk;rw [<- hk];exact HB0.out.1));clear hrg2 hg2
        cases d with
        | false =>
          rw [if_pos (by
            cases ver with
            | true=>exact Or.inl rfl
            | false=>exact Or.inr (by simpa using hd))] at hR
          have HR:=A5 hR.symm;clear hR hd;go_wp2_with fail;go_ret2;rw [HR.out];exact ⟨HB2.out,rfl⟩
        | true =>
          have hd2:ver=false/\vl=Ca.R9:=by cases ver <;> simp at hd;exact ⟨rfl,hd⟩
          rw [if_neg (by rintro (q|q);· rw [hd2.1] at q;cases q
                         · exact q hd2.2)] at hR
          have HR:=A5 hR.symm;clear hR hd hd2;go_wp2_with fail;go_ret2;rw [HR.out];exact ⟨HB2.out,_,l,rfl,HES.out,HRG2.out⟩
      | false =>
        rw [if_neg (of_decide_eq_false hgV)] at hR
        cases gB with
        | true =>
          rw [if_pos (of_decide_eq_true hgB)] at hR;have HR:Hid (R=sX ver es (Ev.CS unU (t :: ts))):=A5 hR.symm;clear hR hgE hgV hgB;go_enter func49,ntmps49;go_wp2_with fail;refine (HSP.out).mono ?_;rintro _ w1 ⟨rfl,hb1⟩;have HB1:=A5 (hb1.mono HBS.out);have HRG1:=A5 (HRG.out.keep hb1);have HRW1:=A5 (HRW.out.keep hb1);have HEN1:=A5 (HENV.out.keep hb1);clear hb1;go_wp2_with fail;refine (HTE.out w1 HRG1.out HRW1.out HEN1.out).mono ?_;rw [<- HR.out];obtain ⟨o,k⟩:=R;rintro _ w2 ⟨hb2,hx⟩;have HB2:=A5 (HB1.out.trans hb2);clear hb2
          cases o with
          | none =>
            dsimp only at hx
            subst hx;go_wp2_with fail;go_ret2;exact ⟨HB2.out,rfl⟩
          | some vo =>
            obtain ⟨ver2,o2⟩:=vo;obtain ⟨v2,l2,rfl,h2,h3⟩:=hx;have H23:=A5 (And.intro h2 h3);clear h2 h3;go_wp2_with fail;go_ret2;exact ⟨HB2.out,v2,l2,rfl,H23.out.1,H23.out.2⟩
        | false =>
          rw [if_neg (of_decide_eq_false hgB)] at hR;have HR:=A5 hR.symm;clear hR hgE hgV hgB;go_enter func49,ntmps49;go_wp2_with fail;refine (HSP.out).mono ?_;rintro _ w1 ⟨rfl,hb1⟩;have HB1:=A5 (hb1.mono HBS.out);have HRG1:=A5 (HRG.out.keep hb1);clear hb1;go_wp2_with fail;go_ret2;rw [HR.out];exact ⟨HB1.out,_,l,rfl,HES.out,HRG1.out⟩
end Go.Proofs.YtfecnkhoojnkbaaGreatDoor

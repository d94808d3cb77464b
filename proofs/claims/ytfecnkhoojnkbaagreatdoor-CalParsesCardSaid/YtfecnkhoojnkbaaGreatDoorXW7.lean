import Derived.Test.YtfecnkhoojnkbaaGreatDoorXW5
set_option maxHeartbeats 8000000
set_option maxRecDepth 1000000
namespace Go.Proofs.YtfecnkhoojnkbaaGreatDoor
open Go.RowKit Rul Rt Fo Go.Sort Tryz
def Bu (w:World) (b:Nat) (l:Tx):Prop:=Lib.IsBuilder 66 5 b b (Lib.byteCells l) w
theorem VY (w:World):Bu (w.alloc (.cells #[.pointer none,.slice none 0 0] 66)) w.heap.size []:=Lib.fresh_isBuilder _ _ w
theorem Bu.lt {w:World} {b:Nat} {l:Tx} (h:Bu w b l):b<w.heap.size:=by
 rcases h with h|h
 ·exact Lib.BuilderAt.lt h
 ·exact Lib.BuilderAt.lt h
theorem MV (b:Nat) (l:Tx) (s:ByteArray) (w:World) (h:Bu w b l) (hl:l.length<=1000000) (hs:s.size<=1000000) :
  Calls prog 28 #[.pointer (some ⟨b,0,none⟩),.string s] w fun e w'=>e=.returned (.tuple #[.int .i64 s.size,.nilIface])/\Bu w' b (l++s.data.toList)/\Below b w w':=by
 refine (Tryz.Builder_WriteString b b (Lib.byteCells l) s w h (by rw [Lib.byteCells_length];omega) (Nat.le_of_lt h.lt)).mono ?_;rintro e w' ⟨rfl,h1,hb⟩;refine ⟨rfl,?_,hb⟩;rw [Lib.strCells_eq,<- Lib.byteCells_append] at h1;exact Or.inr h1
theorem aP (b:Nat) (l:Tx) (c:UInt8) (C:Int) (hC:C=(c.toNat:Int)) (w:World) (h:Bu w b l) (hl:l.length<=1000000) :
  Calls prog 98 #[.pointer (some ⟨b,0,none⟩),.int .u8 C] w fun e w'=>e=.returned .nilIface/\Bu w' b (l++[c])/\Below b w w':=by
 subst hC;refine (Tryz.Builder_WriteByte b b (Lib.byteCells l) c.toNat w h (by rw [Lib.byteCells_length];omega) (Nat.le_of_lt h.lt)).mono ?_;rintro e w' ⟨rfl,h1,hb⟩;refine ⟨rfl,?_,hb⟩;have e1:Lib.byteCells l++[.int .u8 (c.toNat:Int)]=Lib.byteCells (l++[c]):=by rw [Lib.byteCells_append];rfl
 rw [e1] at h1;exact Or.inr h1
theorem QC (b:Nat) (l:Tx) (w:World) (h:Bu w b l) :
  Calls prog 33 #[.pointer (some ⟨b,0,none⟩)] w fun e w'=>e=.returned (.string (str l))/\Below b w w' :=
 Tryz.Builder_String_any b b l w h (Nat.le_of_lt h.lt)
theorem fZ (s:Tx) (c:UInt8) (h:c=92∨c=59∨c=44):DV (s++[c])=(DV s++[92])++[c]:=by
 rw [R1,cU,if_pos h,List.append_assoc];rfl
theorem mY (s:Tx):DV (s++[10])=(DV s++[92])++[110]:=by
 rw [R1,List.append_assoc];rfl
theorem YD (s:Tx) (c:UInt8) (h:¬ (c=92∨c=59∨c=44)) (h2:c≠10):DV (s++[c])=DV s++[c]:=by
 rw [R1,cU,if_neg h,if_neg h2]
theorem kH (s:ByteArray) (w:World) (hs:s.size<=100000) :
  Calls prog 61 #[.string s] w (Ans w (.string (str (DV s.data.toList)))):=by
 have HB0:=A5 (VY w);have HW0:Hid (Below w.heap.size w (w.alloc (.cells #[.pointer none,.slice none 0 0] 66))):=A5 (more (start w) _);go_enter func61,ntmps61;go_wp2_with fail
 go_loopw [8] (fun i wr=>∃ k:Nat,k<=s.size/\i=.int .i64 k/\Hid (Bu wr w.heap.size (DV (s.data.toList.take k)))/\Hid (Below w.heap.size w wr)) (fun i _=>s.size-(intOf i).toNat)
 case atStart=>exact ⟨0,Nat.zero_le _,rfl,HB0,HW0⟩
 case round =>
  obtain ⟨k,hk,rfl,HB,HW⟩:=hrel
  by_cases hlt:k<s.size
  ·have HT:=A5 (CV s k hlt);have HL:Hid ((DV (s.data.toList.take k)).length<=300000):=A5 (by have:=PJ (s.data.toList.take k);rw [List.length_take] at this;omega);obtain ⟨c,hc⟩:∃ c,s[k]=c:=⟨_,rfl⟩;rw [hc] at HT;have hmk:(str [92]).size<=1000000:=by rw [AB];decide
   by_cases h1:c=92∨c=59∨c=44
   ·have HN:=A5 (fZ (s.data.toList.take k) c h1);rw [<- HT.out] at HN;generalize DV (s.data.toList.take k)=E at *;obtain ⟨q1,q2,q3⟩:(((c.toNat:Int)==92)=true∨(((c.toNat:Int)==92)=false/\((c.toNat:Int)==59)=true)∨(((c.toNat:Int)==92)=false/\((c.toNat:Int)==59)=false/\((c.toNat:Int)==44)=true))/\True/\True:=by
     refine ⟨?_,trivial,trivial⟩;rcases h1 with rfl|rfl|rfl
     ·exact Or.inl (by decide)
     ·exact Or.inr (Or.inl ⟨by decide,by decide⟩)
     ·exact Or.inr (Or.inr ⟨by decide,by decide,by decide⟩)
    clear h1 q2 q3;rcases q1 with q1|⟨q1,q2⟩|⟨q1,q2,q3⟩
    all_goals
     go_wp2_with fail;refine (MV _ E (str [92]) wr HB.out (by have:=HL.out;omega) hmk).mono ?_;rintro e w1 ⟨rfl,h1,b1⟩;have H1:=A5 h1;have B1:=A5 (HW.out.trans b1);clear h1 b1;go_wp2_with fail;refine (aP _ (E++[92]) c _ rfl w1 H1.out (by have:=HL.out;rw [z0J];simp;omega)).mono ?_;rintro e w2 ⟨rfl,h2,b2⟩;have H2:=A5 h2;have B2:=A5 (B1.out.trans b2);clear h2 b2;go_wp2_with fail
     go_roundw
     case rel=>exact ⟨k+1,by omega,by go_num,by rw [HN.out];exact H2,B2⟩
     case measure=>simp [intOf];omega
   ·have q1:((c.toNat:Int)==92)=false:=by rw [show (92:Int)=((92:UInt8).toNat:Int) from rfl,BN];simp;exact fun e=>h1 (Or.inl e)
    have q2:((c.toNat:Int)==59)=false:=by rw [show (59:Int)=((59:UInt8).toNat:Int) from rfl,BN];simp;exact fun e=>h1 (Or.inr (Or.inl e))
    have q3:((c.toNat:Int)==44)=false:=by rw [show (44:Int)=((44:UInt8).toNat:Int) from rfl,BN];simp;exact fun e=>h1 (Or.inr (Or.inr e))
    by_cases h2:c=10
    ·subst h2;have HN:=A5 (mY (s.data.toList.take k));rw [<- HT.out] at HN;generalize DV (s.data.toList.take k)=E at *;clear h1;go_wp2_with fail;refine (MV _ E (str [92]) wr HB.out (by have:=HL.out;omega) hmk).mono ?_;rintro e w1 ⟨rfl,h1,b1⟩;have H1:=A5 h1;have B1:=A5 (HW.out.trans b1);clear h1 b1;go_wp2_with fail;refine (aP _ (E++[92]) 110 _ rfl w1 H1.out (by have:=HL.out;rw [z0J];simp;omega)).mono ?_;rintro e w2 ⟨rfl,h2,b2⟩;have H2:=A5 h2;have B2:=A5 (B1.out.trans b2);clear h2 b2;go_wp2_with fail
     go_roundw
     case rel=>exact ⟨k+1,by omega,by go_num,by rw [HN.out];exact H2,B2⟩
     case measure=>simp [intOf];omega
    ·have q4:((c.toNat:Int)==10)=false:=by rw [show (10:Int)=((10:UInt8).toNat:Int) from rfl,BN];simp;exact h2
     have HN:=A5 (YD (s.data.toList.take k) c h1 h2);rw [<- HT.out] at HN;generalize DV (s.data.toList.take k)=E at *;clear h1 h2;go_wp2_with fail;refine (aP _ E c _ rfl wr HB.out (by have:=HL.out;omega)).mono ?_;rintro e w2 ⟨rfl,h2,b2⟩;have H2:=A5 h2;have B2:=A5 (HW.out.trans b2);clear h2 b2;go_wp2_with fail
     go_roundw
     case rel=>exact ⟨k+1,by omega,by go_num,by rw [HN.out];exact H2,B2⟩
     case measure=>simp [intOf];omega
  ·obtain rfl:k=s.size:=by omega
   have HF:Hid (s.data.toList.take s.size=s.data.toList):=A5 (List.take_of_length_le (by simp));rw [HF.out] at HB;go_wp2_with fail;refine (QC _ _ wr HB.out).mono ?_;rintro e w1 ⟨rfl,b1⟩;have B1:=A5 (HW.out.trans b1);clear b1;go_wp2_with fail;go_ret;exact ⟨rfl,B1.out⟩
def M4 (t:Tx):Value:=match t with
 | []=>.tuple #[.int .u8 0,.bool false]
 | d :: _=>match KI d with
  | none=>.tuple #[.int .u8 0,.bool false]
  | some b=>.tuple #[.int .u8 b.toNat,.bool true]
theorem rS (t:ByteArray) (w:World):Calls prog 246 #[.string t] w fun e w'=>e=.returned (M4 t.data.toList)/\w=w':=by
 cases hl:t.data.toList with
 | nil =>
  have hq:(t.toList==([]:List UInt8))=true:=by rw [ByteArray.toList_eq,hl];rfl
  go_enter func246,ntmps246;go_wp2_with fail;go_ret2;exact ⟨rfl,rfl⟩
 | cons d u =>
  have hz:0<t.size:=by rw [<- AE,hl];simp
  have hd:t[0]=d:=by
   have h1:t.data.toList[0]'(by rw [hl];simp)=d:=by simp [hl]
   exact h1
  have hq:(t.toList==([]:List UInt8))=false:=by rw [ByteArray.toList_eq,hl];rfl
  have hz1:(0:Int)<(t.size:Int):=by omega
  clear hl
  by_cases h1:d=92∨d=59∨d=44
  ·have HA:Hid (M4 (d :: u)=.tuple #[.int .u8 d.toNat,.bool true]):=A5 (by unfold M4;simp only [KI,if_pos h1]);have q1:(((d.toNat:Int)==92)=true∨(((d.toNat:Int)==92)=false/\((d.toNat:Int)==59)=true)∨(((d.toNat:Int)==92)=false/\((d.toNat:Int)==59)=false/\((d.toNat:Int)==44)=true)):=by
    rcases h1 with rfl|rfl|rfl
    ·exact Or.inl (by decide)
    ·exact Or.inr (Or.inl ⟨by decide,by decide⟩)
    ·exact Or.inr (Or.inr ⟨by decide,by decide,by decide⟩)
   clear h1;rw [HA.out];rcases q1 with q1|⟨q1,q2⟩|⟨q1,q2,q3⟩
   all_goals
    go_enter func246,ntmps246;go_wp2_with fail;go_ret2;exact ⟨rfl,rfl⟩
  ·have q1:((d.toNat:Int)==92)=false:=by rw [show (92:Int)=((92:UInt8).toNat:Int) from rfl,BN];simp;exact fun e=>h1 (Or.inl e)
   have q2:((d.toNat:Int)==59)=false:=by rw [show (59:Int)=((59:UInt8).toNat:Int) from rfl,BN];simp;exact fun e=>h1 (Or.inr (Or.inl e))
   have q3:((d.toNat:Int)==44)=false:=by rw [show (44:Int)=((44:UInt8).toNat:Int) from rfl,BN];simp;exact fun e=>h1 (Or.inr (Or.inr e))
   by_cases h2:d=110∨d=78
   ·have HA:Hid (M4 (d :: u)=.tuple #[.int .u8 10,.bool true]):=A5 (by unfold M4;simp only [KI,if_neg h1,if_pos h2];rfl);have q4:(((d.toNat:Int)==110)=true∨(((d.toNat:Int)==110)=false/\((d.toNat:Int)==78)=true)):=by
     rcases h2 with rfl|rfl
     ·exact Or.inl (by decide)
     ·exact Or.inr ⟨by decide,by decide⟩
    clear h1 h2;rw [HA.out];rcases q4 with q4|⟨q4,q5⟩
    all_goals
     go_enter func246,ntmps246;go_wp2_with fail;go_ret2;exact ⟨rfl,rfl⟩
   ·have HA:Hid (M4 (d :: u)=.tuple #[.int .u8 0,.bool false]):=A5 (by unfold M4;simp only [KI,if_neg h1,if_neg h2]);have q4:((d.toNat:Int)==110)=false:=by rw [show (110:Int)=((110:UInt8).toNat:Int) from rfl,BN];simp;exact fun e=>h2 (Or.inl e)
    have q5:((d.toNat:Int)==78)=false:=by rw [show (78:Int)=((78:UInt8).toNat:Int) from rfl,BN];simp;exact fun e=>h2 (Or.inr e)
    clear h1 h2;rw [HA.out];go_enter func246,ntmps246;go_wp2_with fail;go_ret2;exact ⟨rfl,rfl⟩
theorem byte_at (s:ByteArray) (j:Nat) (h:j<s.size):s.get! j=s[j]:=by
 have:=get_at s j h
 simpa using this
theorem aQ (s:ByteArray) (pos:Nat) (h:pos<s.size) (ha:128<=(s[pos]'h).toNat) :
  ∀ j,pos<=j->j<pos+(Utf8.decode s pos).2->∃ hj:j<s.size,128<=(s[j]'hj).toNat:=by
 have key:∀ j,pos<=j->j<pos+(Utf8.decode s pos).2->j<s.size/\128<=(s.get! j).toNat:=by
  intro j h1 h2;have hb:128<=(s.get! pos).toNat:=by rw [byte_at s pos h];exact ha
  rw [Lib.decode_at] at h2;obtain ⟨d,rfl⟩:∃ d,j=pos+d:=⟨j-pos,by omega⟩;generalize e0:(s.get! pos).toNat=b0 at *;generalize e1:(s.get! (pos+1)).toNat=b1 at *;generalize e2:(s.get! (pos+2)).toNat=b2 at *;generalize e3:(s.get! (pos+3)).toNat=b3 at *;have hd:d<(Lib.decodeN (s.size-pos) b0 b1 b2 b3).2:=by omega
  clear h1 h2;have done:(d=0∨(d=1/\1<s.size-pos/\128<=b1)∨(d=2/\2<s.size-pos/\128<=b2)∨(d=3/\3<s.size-pos/\128<=b3)):=by
   unfold Lib.decodeN at hd
   repeat' split at hd
   all_goals (simp only at hd;omega)
  rcases done with rfl|⟨rfl,g1,g2⟩|⟨rfl,g1,g2⟩|⟨rfl,g1,g2⟩
  ·exact ⟨h,by rw [Nat.add_zero,e0];exact hb⟩
  ·exact ⟨by omega,by rw [e1];exact g2⟩
  ·exact ⟨by omega,by rw [e2];exact g2⟩
  ·exact ⟨by omega,by rw [e3];exact g2⟩
 intro j h1 h2;obtain ⟨g1,g2⟩:=key j h1 h2;exact ⟨g1,by rw [<- byte_at s j g1];exact g2⟩
theorem VZ (l:List UInt8) (c:UInt8) (h:c∉l):¬ (0:Int)<=Lib.indexByte l c:=by
 have e:=Lib.contains_iff_indexByte l c;have:l.contains c=false:=by simpa using h
 rw [this] at e;exact of_decide_eq_false e.symm
theorem aR {s:ByteArray} (hs:∀ b∈s.data.toList,b.toNat<128) {c:UInt8} (hc:128<=c.toNat) {l:List UInt8} (hl:∀ b∈l,b∈s.data.toList):c∉l:=fun g=>by
 have:=hs c (hl c g);omega
theorem A1x {s:ByteArray} {a:Nat} {b:UInt8} (h:b∈(s.extract a s.size).data.toList):b∈s.data.toList:=by
 rw [ByteArray.data_extract,Array.toList_extract] at h;exact List.mem_of_mem_drop (List.mem_of_mem_take h)
theorem yU (s:ByteArray) (w:World) (hs:∀ b∈s.data.toList,b.toNat<128) :
  Calls prog 288 #[.string s,.int .i32 65533] w (Ans w (.int .i64 (-1))):=by
 have HS:=A5 hs;clear hs;go_enter func288,ntmps288;go_wp2_with fail
 go_loopg [5,6] s.size (fun g _ _ wx=>∃ i:Nat,i+g=s.size/\wx=w.iter s i)
 case atStart=>exact ⟨0,by omega,rfl⟩
 case round =>
  obtain ⟨i,hig,rfl⟩:=hrel
  cases gk with
  | zero =>
   obtain rfl:i=s.size:=by omega
   have hnx:=fun ty=>run_next_end (P:=prog) w s s.size ty (by omega)
   go_wp2_with fail;go_ret;exact ⟨rfl,more (start w) _⟩
  | succ g =>
   have hi:i<s.size:=by omega
   have hx:(s[i]'hi).toNat<128:=HS.out _ (Array.getElem_mem_toList (xs:=s.data) hi);have hnx:=fun ty=>run_next_ascii (P:=prog) w s i ty hi hx
   have hq:(((s[i]'hi).toNat:Int)==65533)=false:=by rw [beq_eq_false_iff_ne];omega
   go_wp2_with fail
   go_roundg g
   case measure=>omega
   case rel=>exact ⟨i+1,by omega,rfl⟩
theorem rT (s:ByteArray) (r:Int) (w:World) (h1:128<=r) (h3:r≠65533) (hv:Lib.validRune r=false) :
  Calls prog 288 #[.string s,.int .i32 r] w (Ans w (.int .i64 (-1))):=by
 have q1:decide ((0:Int)<=r)=true:=z0H (by omega);have q2:decide (r<128)=false:=z0G (by omega);have q3:(r==65533)=false:=beq_eq_false_iff_ne.2 h3;have HV:=A5 hv;clear h3 hv;go_enter func288,ntmps288;go_wp2_with fail;refine (Tryz.utf8_ValidRune r w).mono ?_;rintro e w' ⟨rfl,rfl⟩;rw [HV.out];go_wp2_with fail;go_ret;exact ⟨rfl,start _⟩
theorem rU (s:ByteArray) (r:Int) (w:World) (hs:∀ b∈s.data.toList,b.toNat<128) (h1:128<=r) (h3:r≠65533) (hv:Lib.validRune r=true) :
  Calls prog 288 #[.string s,.int .i32 r] w (Ans w (.int .i64 (-1))):=by
 have q1:decide ((0:Int)<=r)=true:=z0H (by omega);have q2:decide (r<128)=false:=z0G (by omega);have q3:(r==65533)=false:=beq_eq_false_iff_ne.2 h3;obtain ⟨z1,z2,z3⟩:=encode_facts r (by rw [validRune_eq];exact hv) h1;have HV:=A5 hv;have hcv:∀ W:World,(convert 21 9 (.int .i32 r)).run prog W=.ok (.string (Utf8.encode r)) W:=fun W=>run_convert_int_string W _ _ _ _ (by kernel_rfl) underlying9
 generalize Utf8.encode r=E at *;obtain ⟨n,hn⟩:∃ n,E.size=n+1:=⟨E.size-1,by omega⟩;have hb:=z3 (by omega);have hnz:(E.size:Int)=(n:Int)+1:=by omega
 have hE:n<E.size:=by omega
 have HB:Hid (128<=(E[n]'hE).toNat):=A5 (by
  have e:E.size-1=n:=by omega
  simpa [e] using hb)
 have hn1:1<=n:=by omega
 have hn2:n<=3:=by omega
 have hsub:(E.size:Int)-1=(n:Int):=by omega
 clear h3 hv z1 z2 z3 hb;have HS:=A5 hs;clear hs;go_enter func288,ntmps288;go_wp2_with fail;refine (Tryz.utf8_ValidRune r w).mono ?_;rintro e w' ⟨rfl,rfl⟩;rw [HV.out];go_wp2_with fail
 go_step3
 go_wp2_with fail;refine wp_loop_rounds 1 ?_;rw [rounds_succ]
 by_cases hlt:n<s.size
 ·have hi1:(n:Int)<(s.size:Int):=by omega
  have hi0:(0:Int)<=(n:Int):=by omega
  have hEz:(n:Int)<(E.size:Int):=by omega
  have hsn:(s[n]'hlt).toNat<128:=HS.out _ (Array.getElem_mem_toList (xs:=s.data) hlt);obtain ⟨c,hc⟩:∃ c,E[n]'hE=c:=⟨_,rfl⟩;obtain ⟨d,hd⟩:∃ d,s[n]'hlt=d:=⟨_,rfl⟩;have hc2:128<=c.toNat:=by rw [<- hc];exact HB.out
  have qn:((d.toNat:Int) != (c.toNat:Int))=true:=by rw [bne_iff_ne];rw [hd] at hsn;omega
  obtain ⟨o,ho⟩:∃ o,Lib.indexByte (s.extract (n+1) s.size).data.toList c=o:=⟨_,rfl⟩;have ho0:o<0:=by
   have:=VZ (s.extract (n+1) s.size).data.toList c (aR HS.out hc2 fun b hb=>A1x hb);rw [ho] at this;omega
  have HI:Hid (∀ W,Calls prog 299 #[.string (s.extract (n+1) s.size),.int .u8 (c.toNat:Int)] W fun e w'=>e=.returned (.int .i64 o)/\w'=W):=A5 (fun W=>by
   have h:=Tryz.strings_IndexByte (s.extract (n+1) s.size) (c.toNat:Int) W;have hb:((c.toNat:Int)).toNat.toUInt8=c:=by simp
   rw [hb,ho] at h;exact h)
  have hsl0:(n:Int)+1<=(s.size:Int):=by omega
  have hsl1:(0:Int)<=(n:Int)+1:=by omega
  have hsl2:((n:Int)+1).toNat=n+1:=by omega
  have hsl3:IntKind.i64.wrap ((n:Int)+1)=(n:Int)+1:=IntWalk.i64_in _ (by omega);clear hc2 ho hsn HB HS HV hn hnz hsub hn1 hn2 h1 q1 q2 q3;go_wp2_with fail
  go_step3
  go_wp2_with fail;go_quiet (fail);have HQ:=A5 (AJ (start w') nq);generalize w'.drewN nq=wq at *;go_wp2_with fail;go_quiet ((go_at_call 299;exact Calls.quiet_of_same (HI.out _)));go_wp2_with fail;go_ret;exact ⟨rfl,AJ HQ.out _⟩
 ·have hi1:¬ (n:Int)<(s.size:Int):=by omega
  go_wp2_with fail;go_ret;exact ⟨rfl,start _⟩
def need:Tx:=[59,44,10]
theorem OZ:∀ b∈(str need).data.toList,b.toNat<128:=by rw [AD];decide
theorem gA (c:UInt8):need.contains c=bad c:=by
 unfold need bad;simp only [List.contains_cons,List.contains_nil,Bool.or_false,Bool.or_assoc]
theorem rV (c:UInt8) (h:128<=c.toNat):need.contains c=false:=by
 rw [gA];unfold bad;simp only [Bool.or_eq_false_iff,beq_eq_false_iff_ne];refine ⟨⟨?_,?_⟩,?_⟩ <;> (intro e;subst e;revert h;decide)
theorem I8:∀ l:Tx,decide (0<=Lib.indexAny l need)=l.any bad
 | []=>rfl
 | b :: l=>by
  have ih:=I8 l;have hg:=Lib.indexAny_ge need l;rw [List.any_cons,<- gA b,<- ih];have e:Lib.indexAny (b :: l) need=if need.contains b then 0 else if Lib.indexAny l need==-1 then -1 else Lib.indexAny l need+1:=rfl
  rw [e]
  cases need.contains b with
  | true=>rfl
  | false =>
   simp only [Bool.false_or,Bool.false_eq_true,if_false]
   by_cases h:Lib.indexAny l need=-1
   ·rw [h];rfl
   ·rw [if_neg (by rw [beq_iff_eq];exact h),z0H (by omega),z0H (by omega)]
theorem gC {s:ByteArray} {i d:Nat} (h:Lib.NoAny s.data.toList need i) (hd:∀ j,i<=j->j<i+d->∃ hj:j<s.size,128<=(s[j]'hj).toNat):Lib.NoAny s.data.toList need (i+d):=fun j b hj hb=>by
 rcases Nat.lt_or_ge j i with g|g
 ·exact h j b g hb
 ·obtain ⟨hl,hx⟩:=hd j g hj;rw [Lib.data_getElem? s j hl] at hb;injection hb with hb;rw [<- hb];exact rV _ hx
theorem A1y (r:Int) (w:World) (h1:128<=r):Calls prog 288 #[.string (str need),.int .i32 r] w (Ans w (.int .i64 (-1))):=by
 by_cases h3:r=65533
 ·subst h3;exact yU _ w OZ
 ·cases hv:Lib.validRune r with
  | true=>exact rU _ r w OZ h1 h3 hv
  | false=>exact rT _ r w h1 h3 hv
def yV (w:World) (b:Bool) (e:Ending) (w':World):Prop:=∃ k:Int,e=.returned (.int .i64 k)/\decide (0<=k)=b/\Below w.heap.size w w'
theorem W6 (s:ByteArray) (w:World) (h8:s.size<=8) :
  Calls prog 268 #[.string s,.string (str need)] w (yV w (s.data.toList.any bad)):=by
 have q0:((str need).toList==([]:List UInt8))=false:=by rw [AH];rfl
 have q1:(((str need).size:Int)==1)=false:=by rw [AB];rfl
 have q2:decide ((8:Int)<(s.size:Int))=false:=z0G (by omega);have HR:=A5 A1y
 have HA:=A5 (fun (r:Int) (w:World) (h0:0<=r) (h1:r<128)=>Tryz.strings_IndexRune_ascii (str need) r w h0 h1);have HL:Hid ((str need).data.toList=need):=A5 (AD _);generalize str need=E at *;rw [HL.out] at HA;go_enter func268,ntmps268;go_wp2_with fail;refine (Tryz.strings_shouldUseASCIISet _ _).mono ?_;rintro e w' ⟨rfl,rfl⟩;rw [q2];go_wp2_with fail
 go_loopg [9,10] s.size (fun g _ _ wx=>∃ i:Nat,i+g=s.size/\Hid (wx.heap[w'.heap.size]?=some (.stringIter s i))/\Hid (Lib.NoAny s.data.toList need i)/\Hid (Below w'.heap.size w' wx))
 case atStart=>exact ⟨0,by omega,A5 (World.iter_heap _ _ _),A5 (Lib.NoAny.zero _ _),A5 (more (start w') _)⟩
 case round =>
  obtain ⟨i,hig,HI,HN,HB⟩:=hrel
  cases gk with
  | zero =>
   obtain rfl:i=s.size:=by omega
   have hnx:∀ ty,(Instr.next (.pointer (some ⟨w'.heap.size,0,none⟩)) true ty).run prog wr=_:=fun ty=>Lib.run_next_end_at wr w'.heap.size s s.size ty HI.out (Nat.lt_irrefl _)
   have HF:Hid (s.data.toList.any bad=false):=A5 (by
    have h1:=HN.out;rw [Lib.size_eq] at h1;rw [<- I8,Lib.indexAny_none h1];rfl)
   go_wp2_with fail;go_ret;exact ⟨_,rfl,by rw [HF.out];rfl,HB.out⟩
  | succ g =>
   have hi:i<s.size:=by omega
   obtain ⟨x,hx⟩:∃ x:UInt8,s[i]'hi=x:=⟨_,rfl⟩;have HX:Hid (s.data.toList[i]?=some x):=A5 (by rw [<- hx];exact Lib.data_getElem? s i hi)
   by_cases ha:x.toNat<128
   ·have hnx:∀ ty,(Instr.next (.pointer (some ⟨w'.heap.size,0,none⟩)) true ty).run prog wr=_:=fun ty=>Lib.run_next_ascii_at wr w'.heap.size s i ty HI.out hi (by rw [hx];exact ha)
    rw [hx] at hnx;have HI2:=A5 (Lib.iterAt_heap wr w'.heap.size s i (i+1) HI.out);have HB2:=A5 (Lib.below_iterAt HB.out (Nat.le_refl _) s (i+1));have HC:=A5 (HA.out (x.toNat:Int) (wr.iterAt w'.heap.size s (i+1)) (by omega) (by omega));have hback:((x.toNat:Int)).toNat.toUInt8=x:=by simp
    rw [hback] at HC;obtain ⟨o,ho⟩:∃ o,Lib.indexByte need x=o:=⟨_,rfl⟩;have hcon:=Lib.contains_iff_indexByte need x;rw [ho] at HC hcon;generalize wr.iterAt w'.heap.size s (i+1)=w5 at *
    cases hin:need.contains x with
    | false =>
     rw [hin] at hcon;have hlt:decide ((0:Int)<=o)=false:=hcon.symm;have HN2:=A5 (HN.out.succ HX.out hin);clear hcon hin hx hback ho;go_wp2_with fail;refine (HC.out).mono ?_;rintro e w6 ⟨rfl,rfl⟩;go_wp2_with fail
     go_roundg g
     case measure=>omega
     case rel=>exact ⟨i+1,by omega,HI2,HN2,HB2⟩
    | true =>
     rw [hin] at hcon;have hlt:decide ((0:Int)<=o)=true:=hcon.symm;have HF:Hid (s.data.toList.any bad=true):=A5 (by
      rw [<- I8,Lib.indexAny_hit HN.out HX.out hin];exact z0H (by omega))
     clear hcon hin hx hback ho;go_wp2_with fail;refine (HC.out).mono ?_;rintro e w6 ⟨rfl,rfl⟩;go_wp2_with fail;go_ret;exact ⟨_,rfl,by rw [HF.out];exact z0H (by omega),HB2.out⟩
   ·have hnx:∀ ty,(Instr.next (.pointer (some ⟨w'.heap.size,0,none⟩)) true ty).run prog wr=_:=fun ty=>Lib.run_next_any_at wr w'.heap.size s i ty HI.out hi
    have hh:128<=(s[i]'hi).toNat:=by rw [hx];omega
    obtain ⟨g1,g2⟩:=decode_high s i hi hh;have hd:=aQ s i hi hh;obtain ⟨r,hr⟩:∃ r,(Utf8.decode s i).1=r:=⟨_,rfl⟩;obtain ⟨d,hdd⟩:∃ d,(Utf8.decode s i).2=d:=⟨_,rfl⟩;rw [hr,hdd] at hnx;rw [hr] at g1;rw [hdd] at g2 hd;have hid:i+d<=s.size:=by obtain ⟨h,_⟩:=hd (i+d-1) (by omega) (by omega);omega
    have HN2:=A5 (gC HN.out hd);have HI2:=A5 (Lib.iterAt_heap wr w'.heap.size s i (i+d) HI.out);have HB2:=A5 (Lib.below_iterAt HB.out (Nat.le_refl _) s (i+d));have HC:=A5 (HR.out (r:Int) (wr.iterAt w'.heap.size s (i+d)) (by omega));generalize wr.iterAt w'.heap.size s (i+d)=w5 at *;clear hr hdd hd hx ha hh HX HI HB HN;go_wp2_with fail;refine (HC.out).mono ?_;rintro e w6 ⟨rfl,hb6⟩;have hk5:w'.heap.size<w5.heap.size:=(Array.getElem?_eq_some_iff.1 HI2.out).1;have HI3:=A5 ((hb6.block _ hk5).trans HI2.out);have HB3:=A5 (andthen HB2.out hb6);clear hb6;go_wp2_with fail
    go_roundg (s.size-(i+d))
    case measure=>omega
    case rel=>exact ⟨i+d,by omega,HI3,HN2,HB3⟩
theorem aS (s:ByteArray) (w:World) (hs:s.size<=1000000) :
  Calls prog 268 #[.string s,.string (str need)] w (yV w (s.data.toList.any bad)):=by
 by_cases h8:s.size<=8
 ·exact W6 s w h8
 ·refine (Tryz.strings_IndexAny_long (fun w=>by kernel_rfl) s (str need) w (by rw [AB];decide) (by omega) (by omega) (by rw [AB];decide) (fun j b hb=>OZ b (List.mem_of_getElem? hb))).mono ?_;rintro e w' ⟨rfl,rfl⟩;refine ⟨_,rfl,by rw [AD];exact I8 _,more (more (start w) _) _⟩
theorem SV (s:ByteArray) (w:World) (hs:s.size<=1000000) :
  Calls prog 245 #[.string s,.string (str need)] w (Ans w (.bool (s.data.toList.any bad))):=by
 have HA:=A5 (aS s w hs);clear hs;generalize str need=E at *;go_enter func245,ntmps245;go_wp2_with fail;refine (HA.out).mono ?_;rintro e w1 ⟨k,rfl,hk,hb⟩;have HK:=A5 hk;clear hk;go_wp2_with fail;go_ret;exact ⟨AA HK.out,hb⟩
theorem A1z {S:Tx} {done:List Tx} {t:Tx} {r:Nat} (h:pc 75 S=done++pc r t) (hr:r<t.length) (h0:r≠0):pc 75 S=(done++[t.take r])++pc 74 (t.drop r):=by
 rw [h,TB r t hr h0];simp
theorem A1A {S:Tx} {done:List Tx} {t:Tx} {r:Nat} (h:pc 75 S=done++pc r t) (hr:t.length<=r):pc 75 S=done++[t]:=by
 rw [h,Z2 r t hr]
theorem kI (s:ByteArray) (w:World) (hs:s.size<=100000) :
  Calls prog 84 #[.string s] w (K6 w (pc 75 s.data.toList)):=by
 go_enter func84,ntmps84;go_wp2_with fail
 go_loopg [0,3,4] s.size (fun g S v r wr=>∃ (T:ByteArray) (room:Nat) (done:List Tx),S=.string T/\r=.int .i64 room/\T.size=g/\BY wr w.heap.size v done/\Hid (pc 75 s.data.toList=done++pc room T.data.toList)/\Hid ((room=75∨room=74)/\done.length+T.size<=s.size)/\Below w.heap.size w wr)
 case atStart=>exact ⟨s,75,[],rfl,rfl,rfl,IK _ _,A5 rfl,A5 ⟨Or.inl rfl,by simp⟩,start _⟩
 case round =>
  obtain ⟨T,room,done,rfl,rfl,hg,hown,HP,HR,hbw⟩:=hrel;have HO:=A5 hown;have HBR:=A5 hbw;clear hown hbw;have hz:=HBR.out.size;have hln:done.length<=1000000:=by have:=HR.out.2;omega
  by_cases hlt:room<T.size
  ·have hlt1:(room:Int)<(T.size:Int):=by omega
   have hlt2:(room:Int)<=(T.size:Int):=by omega
   have hr0:(0:Int)<=(room:Int):=by omega
   have HN:=A5 (A1z HP.out (by rw [AE];exact hlt) (by have:=HR.out.1;omega));have HE:=A5 (GO T 0 room);have HE2:=A5 (I6 T room);have hsz2:(T.extract room T.size).size<gk/\done.length+1+(T.extract room T.size).size<=s.size:=by
    rw [ByteArray.size_extract];have:=HR.out;omega
   have HS2:=A5 hsz2;obtain ⟨X,hX⟩:∃ X,T.extract 0 room=X:=⟨_,rfl⟩;have HX:Hid (X=str (T.data.toList.take room)):=A5 (hX▸HE.out.trans (by rw [List.drop_zero]));obtain ⟨Y,hY⟩:∃ Y,T.extract room T.size=Y:=⟨_,rfl⟩;have HY:Hid (Y.data.toList=T.data.toList.drop room):=A5 (by rw [<- hY,HE2.out,AD]);rw [hY] at HS2;have hown:=HO.out;clear hlt hsz2 HE HE2 hg;go_wp2_with (at_builtin;rw [HX.out];refine DR (l:=done) (p:=T.data.toList.take room) rfl _ _ rfl rfl rfl rfl hown hz hln ?_;intro v3 w3 hown3 hb3);have HO3:=A5 hown3;have HB3:=A5 (HBR.out.trans hb3);clear hown hown3 hb3 hz hln;go_wp2_with fail
   go_roundg Y.size
   case measure=>exact HS2.out.1
   case rel=>exact ⟨Y,74,_,rfl,rfl,rfl,HO3.out,by rw [HY.out];exact HN,A5 ⟨Or.inr rfl,by rw [z0J];have:=HS2.out.2;simp;omega⟩,HB3.out⟩
  ·have hlt1:¬ (room:Int)<(T.size:Int):=by omega
   have HF:=A5 (A1A HP.out (by rw [AE];omega));have HX:=A5 (K7 T);have hown:=HO.out;clear hlt hg;go_wp2_with (at_builtin;rw [HX.out];refine DR (l:=done) (p:=T.data.toList) rfl _ _ rfl rfl rfl rfl hown hz hln ?_;intro v3 w3 hown3 hb3);have HO3:=A5 hown3;have HB3:=A5 (HBR.out.trans hb3);clear hown hown3 hb3 hz hln;go_wp2_with fail;go_ret;exact ⟨_,rfl,by rw [HF.out];exact HO3.out,HB3.out⟩
theorem rW (sep:Tx) (s:ByteArray) (hs:s=str sep) (A:Option Addr) (n cap:Nat) (l:List Tx) (w:World) (hl:BU w A l) (hn:n=l.length) (hcap:l.length<=cap) (h0:l≠[]) (hsz:l.length<=1000000) (hJ:(Lib.join l sep).length<=100000000) :
  Calls prog 97 #[.slice A n cap,.string s] w (Ans w (.string (str (Lib.join l sep)))):=by
 subst hn hs;obtain ⟨b,o,rfl,hb,hc⟩:=hl h0;have em:(l.map str).map (fun x:ByteArray=>x.data.toList)=l:=by
  rw [List.map_map];have:(fun x:ByteArray=>x.data.toList) ∘ str=id:=by funext x;simp [str]
  rw [this,List.map_id]
 have ej:Lib.join ((l.map str).map (fun x:ByteArray=>x.data.toList)) (str sep).data.toList=Lib.join l sep:=by rw [em,AD]
 have:=Tryz.strings_Join b o cap (l.map str) (str sep) w (fun j x hx=>by
  rw [List.getElem?_map,Option.map_eq_some_iff] at hx;obtain ⟨t,ht,rfl⟩:=hx;obtain ⟨hj,e⟩:=List.getElem?_eq_some_iff.1 ht;rw [hc j hj,e]) hb (by rw [List.length_map];omega) (by rw [List.length_map];exact hcap) (by rw [ej];omega)
 rw [List.length_map,ej] at this;exact this
theorem kJ (A:Option Addr) (n cap:Nat) (l:List Tx) (w:World) (hl:BU w A l) (hn:n=l.length) (hcap:l.length<=cap) (h0:l≠[]) (hsz:l.length<=1000000) (hJ:(Lib.join l PI).length<=100000000) :
  Calls prog 83 #[.slice A n cap] w (Ans w (.string (str (Lib.join l PI)))):=by
 have HJ:=A5 (rW PI (str PI) rfl A n cap l w hl hn hcap h0 hsz hJ);clear hl hn hcap h0 hsz hJ;go_enter func83,ntmps83;go_wp2_with fail;refine (HJ.out).mono ?_;rintro e w1 ⟨rfl,hb⟩;go_wp2_with fail;go_ret;exact ⟨rfl,hb⟩
theorem gD (s:ByteArray) (w:World) (hs:s.size<=100000) :
  Calls prog 55 #[.string s] w (Ans w (.string (str (DT s.data.toList)))):=by
 have hl:(pc 75 s.data.toList).length<=1000000:=by have:=uL _ 75 s.data.toList (Nat.le_refl _);rw [AE] at this;omega
 have h0:pc 75 s.data.toList≠[]:=by rw [pc];split <;> simp
 have hJ:(Lib.join (pc 75 s.data.toList) PI).length<=100000000:=by rw [lN,N4,AE];omega
 have HJ:=A5 (lN s.data.toList);have HP:=A5 (kI s w hs);generalize pc 75 s.data.toList=ps at *;have HL:=A5 hl;have H0:=A5 h0;have HN:=A5 hJ;clear hl h0 hJ hs;rw [<- HJ.out];go_enter func55,ntmps55;go_wp2_with fail;refine (HP.out).mono ?_;rintro e w1 ⟨v,rfl,hown,hb1⟩;obtain ⟨A,cap,rfl,hrow,hcap⟩:=BY.row hown;have HB1:=A5 hb1;have HF:=A5 (kJ A _ cap ps w1 hrow rfl hcap H0.out HL.out HN.out);clear hb1 hown hrow hcap;go_wp2_with fail;refine (HF.out).mono ?_;rintro e w2 ⟨rfl,hb2⟩;go_wp2_with fail;go_ret;exact ⟨rfl,andthen HB1.out hb2⟩
def PieS (w:World) (l:List Tx) (e:Ending) (w':World):Prop:=∃ A cap,e=.returned (.slice A l.length cap)/\BU w' A l/\l.length<=cap/\Below w.heap.size w w'
theorem rX (t:ByteArray) (w:World) (he:Env w) (ht:t.size<=1000000) :
  Calls prog 73 #[.string t,.string (str crlf)] w (PieS w (Lib.split t.data.toList crlf)):=by
 obtain ⟨m,hm⟩:=he.len;refine (Tryz.strings_Split t (str crlf) m w (by omega) hm (by rw [AB];decide)).mono ?_;rintro e w' ⟨rfl,rfl⟩;have ed:=Lib.splitB_data (str crlf) 0 (Lib.countB t (str crlf)) t;have es:Lib.split t.data.toList crlf=Lib.splitK crlf 0 (Lib.countB t (str crlf)) t.data.toList:=by
  unfold Lib.split Lib.countB;rw [AD]
 have el:=Lib.splitB_all (str crlf) (by rw [AB];decide) 0 _ t rfl;rw [AD,<- es] at ed;generalize hB:Lib.splitB (str crlf) 0 (Lib.countB t (str crlf)) t=B at *;have hl:B.length=(Lib.split t.data.toList crlf).length:=by rw [<- ed,List.length_map]
 rw [el] at hl;refine ⟨some ⟨w.heap.size,0,none⟩,_,by rw [hl],fun _=>⟨w.heap.size,0,rfl,by simp,fun i hi=>?_⟩,by omega,more (start _) _⟩;have hi2:i<B.length:=by omega
 have hx:(Lib.split t.data.toList crlf)[i]=B[i].data.toList:=by
  have:(B.map (·.data.toList))[i]'(by rw [List.length_map];exact hi2)=B[i].data.toList:=List.getElem_map _;rw [<- this]
  congr 1
  exact ed.symm
 rw [hx,Q7,Nat.zero_add,World.cell?_alloc_at _ _ _ _ rfl];simp only [List.getElem?_toArray];rw [List.getElem?_map,List.getElem?_eq_getElem hi2];rfl
theorem RM (s:Tx):(Lib.split s crlf).length<=s.length+1:=by
 have h1:=Lib.countB_le (str crlf) (by rw [AB];decide) _ (str s) (Nat.le_refl _);unfold Lib.countB at h1;rw [AD,AD,AB] at h1;have h2:=PO crlf (Lib.count s crlf) s;unfold Lib.split;omega
theorem BU.front {w:World} {A:Option Addr} {l k:List Tx} (h:BU w A (l++k)):BU w A l:=fun hn=>by
 obtain ⟨b,off,e,hl,hc⟩:=h (by simp [hn]);refine ⟨b,off,e,hl,fun i hi=>?_⟩;have:=hc i (by rw [z0J];omega);rw [List.getElem_append_left hi] at this;exact this
theorem WL (t:ByteArray) (w:World) (he:Env w) (ht:t.size<=1000000) :
  Calls prog 47 #[.string t] w (PieS w (fin (Lib.split t.data.toList crlf))):=by
 have HC:=A5 (rX t w he ht);have hne:=PL t.data.toList;have hsl:=RM t.data.toList;rw [AE] at hsl;generalize Lib.split t.data.toList crlf=ps at *;obtain ⟨l,x,rfl⟩:∃ l x,ps=l++[x]:=⟨ps.dropLast,ps.getLast hne,(List.dropLast_concat_getLast hne).symm⟩;obtain ⟨m,hm⟩:∃ m,l.length=m:=⟨_,rfl⟩;rw [z0J,hm,List.length_singleton] at hsl;have hi5:(m:Int)<=1000000:=by omega
 have HF1:Hid (x=[]->fin (l++[x])=l):=A5 (fun h=>by subst h;exact UO l);have HF2:Hid (x≠[]->fin (l++[x])=l++[x]):=A5 (fun h=>cV l x h);generalize hF:fin (l++[x])=F at *;have HM:Hid (l.length=m):=A5 hm;clear hm hne hF he ht hsl;go_enter func47,ntmps47;go_wp2_with fail;refine (HC.out).mono ?_;rintro e w1 ⟨A,cap,rfl,hrow,hcap,hb1⟩;have hlen:(l++[x]).length=m+1:=by rw [z0J,HM.out];rfl
 rw [hlen] at hcap ⊢;obtain ⟨b,off,rfl,hbl,hc⟩:=hrow (by simp);have p1:w1.cell? ⟨b,off+m,none⟩=some (.string (str x)):=by
  rw [hc m (by omega)]
  congr 3
  have e:=HM.out;subst e;simp
 have HR:=A5 hrow;have HB:=A5 hb1;have HLN:=A5 hlen;have hi1:(m:Int)+1-1=(m:Int):=by omega
 have hi2:(m:Int)<(m:Int)+1:=by omega
 have hi3:(0:Int)<=(m:Int):=by omega
 have hi4:(m:Int)<=(cap:Int):=by omega
 have HCAP:=A5 hcap;clear hrow hb1 hc hlen hcap;have q1:=AH x
 cases x with
 | nil =>
  have HF:=A5 (HF1.out rfl);have q2:((str ([]:Tx)).toList==([]:List UInt8))=true:=by rw [q1];rfl
  go_wp2_with fail;go_ret;refine ⟨_,cap,?_,by rw [HF.out];exact HR.out.front,by rw [HF.out];have:=HCAP.out;have:=HM.out;omega,HB.out⟩;rw [HF.out,HM.out];rfl
 | cons c u =>
  have HF:=A5 (HF2.out (by simp));have q2:((str (c :: u)).toList==([]:List UInt8))=false:=by rw [q1];rfl
  go_wp2_with fail;go_ret;refine ⟨_,cap,?_,by rw [HF.out];exact HR.out,by rw [HF.out,HLN.out];exact HCAP.out,HB.out⟩;rw [HF.out,HLN.out];rfl
theorem yW {T:Tx} (h:BQ T=true):T.drop 1=T.tail/\0<T.length:=by
 have e:=S0 h;refine ⟨List.drop_one,?_⟩;rw [e];simp
theorem yX (l:List Tx) (k:Nat) (h:k<l.length):tls (l.take (k+1))=tls (l.take k)++l[k].tail:=by
 rw [List.take_succ_eq_append_getElem h,uR]
theorem aT (f:Tx) (A:Option Addr) (n c:Nat) (l:List Tx) (w:World) (hl:BU w A l) (hn:n=l.length) (hg:∀ i (h:i<l.length),BQ l[i]=true) (hsz:l.length<=1000000) (hf:f.length+l.flatten.length<=500000) :
  Calls prog 72 #[.string (str f),.slice A n c] w (Ans w (.string (str (f++tls l)))):=by
 subst hn;have HR:=A5 hl;have HG:=A5 hg;have HF:=A5 hf;have HB0:=A5 (VY w);have HW0:Hid (Below w.heap.size w (w.alloc (.cells #[.pointer none,.slice none 0 0] 66))):=A5 (more (start w) _);clear hl hg hf;go_enter func72,ntmps72;go_wp2_with fail;refine (MV _ [] (str f) _ HB0.out (by simp) (by rw [AB];have:=HF.out;omega)).mono ?_;rintro e w1 ⟨rfl,h1,b1⟩;rw [AD,List.nil_append] at h1;have H1:=A5 h1;have B1:=A5 (HW0.out.trans b1);clear h1 b1;go_wp2_with fail
 go_loopw [7,12] (fun _ i wr=>∃ k:Nat,k<=l.length/\i=.int .i64 k/\Hid (Bu wr w.heap.size (f++tls (l.take k)))/\Hid (Below w.heap.size w wr)) (fun _ i _=>l.length-(intOf i).toNat)
 case atStart=>exact ⟨0,Nat.zero_le _,rfl,A5 (by rw [List.take_zero,lT,List.append_nil];exact H1.out),B1⟩
 case round =>
  obtain ⟨k,hk,rfl,HB,HW⟩:=hrel
  by_cases hlt:k<l.length
  ·obtain ⟨b1,o1,rfl,hb1,hc1⟩:=HR.out (by intro h0;rw [h0] at hlt;exact absurd hlt (Nat.not_lt_zero _));obtain ⟨T,hm⟩:∃ T,l[k]=T:=⟨_,rfl⟩;obtain ⟨hT,hT0⟩:=yW (hm▸HG.out k hlt);have p1:wr.cell? ⟨b1,o1+k,none⟩=some (.string (str T)):=by rw [<- hm];exact (HW.out.cell (p:=⟨b1,_,none⟩) hb1).trans (hc1 k hlt)
   have hi0:(0:Int)<=(k:Int):=by omega
   have hi1:(k:Int)<(l.length:Int):=by omega
   have hi2:(1:Int)<=((str T).size:Int):=by rw [AB];omega
   have HE:Hid ((str T).extract 1 (str T).size=str T.tail):=A5 (by rw [I6,AD,hT]);have HN:=A5 (yX l k hlt);rw [hm] at HN;have hTl:T.length<=l.flatten.length:=TG l T (by rw [<- hm];exact List.getElem_mem hlt);have hEl:(f++tls (l.take k)).length<=1000000:=by
    have h1:=Z5 (l.take k);have h2:=R5 l k;have h3:=HF.out;rw [z0J];omega
   obtain ⟨X,hX⟩:∃ X,(str T).extract 1 (str T).size=X:=⟨_,rfl⟩;rw [hX] at HE;have hXs:X.size<=1000000:=by rw [HE.out,AB,List.length_tail];have:=HF.out;omega
   have HXs:=A5 (And.intro hEl hXs);clear hc1 hm hT hT0 hTl hEl hXs;go_wp2_with fail;refine (MV _ _ X wr HB.out HXs.out.1 HXs.out.2).mono ?_;rintro e w2 ⟨rfl,h2,b2⟩;rw [HE.out,AD,List.append_assoc,<- HN.out] at h2;have H2:=A5 h2;have B2:=A5 (HW.out.trans b2);clear h2 b2 p1;go_wp2_with fail
   go_roundw
   case rel=>exact ⟨k+1,by omega,by go_num,H2,B2⟩
   case measure=>simp [intOf];omega
  ·obtain rfl:k=l.length:=by omega
   rw [List.take_length] at HB;go_wp2_with fail;refine (QC _ _ wr HB.out).mono ?_;rintro e w1 ⟨rfl,b1⟩;have B1:=A5 (HW.out.trans b1);clear b1;go_wp2_with fail;go_ret;exact ⟨rfl,B1.out⟩
theorem Bu.keep {w w':World} {b:Nat} {l:Tx} (h:Bu w b l) (hb:Below w.heap.size w w'):Bu w' b l:=by
 have hlt:=h.lt;rcases h with h|h
 ·obtain ⟨h1,v,h2,h3,h4⟩:=h;exact Or.inl ⟨h1,v,(hb.block _ hlt).trans h2,World.ownsRow.kept (row:=none) h3 ⟨hb.os,hb.tape,hb.output,hb.size,fun i hi _=>hb.block i hi⟩ (by cases v.ownBlock <;> simp),h4⟩
 ·obtain ⟨h1,v,h2,h3,h4⟩:=h;exact Or.inr ⟨h1,v,(hb.block _ hlt).trans h2,World.ownsRow.kept (row:=none) h3 ⟨hb.os,hb.tape,hb.output,hb.size,fun i hi _=>hb.block i hi⟩ (by cases v.ownBlock <;> simp),h4⟩
def unA:Option Tx->Value
 | none=>.tuple #[.string (str []),.int .i64 14]
 | some t=>.tuple #[.string (str t),.int .i64 0]
def Cuts (w:World) (p r:Tx) (f:Bool) (e:Ending) (w':World):Prop:=e=.returned (.tuple #[.string (str p),.string (str r),.bool f])/\Below w.heap.size w w'
theorem yY (T:ByteArray) (w:World) (he:Env w) (ht:T.size<=1000000) (h:Lib.index T.data.toList [92]=-1) :
  Calls prog 106 #[.string T,.string (str [92])] w (Cuts w T.data.toList [] false):=by
 obtain ⟨m,hm⟩:=he.len;refine (Tryz.strings_Cut T (str [92]) m w (by omega) hm).mono ?_;rintro e w' ⟨rfl,n,rfl⟩;have e2:Lib.cut T.data.toList (str [92]).data.toList=(T.data.toList,[],false):=by
  rw [AD];unfold Lib.cut;rw [h,if_neg (by decide)]
 rw [e2];exact ⟨rfl,AJ (start _) n⟩
theorem yZ (T:ByteArray) (w:World) (he:Env w) (ht:T.size<=1000000) (i:Nat) (h:Lib.index T.data.toList [92]=(i:Int)) :
  Calls prog 106 #[.string T,.string (str [92])] w (Cuts w (T.data.toList.take i) (T.data.toList.drop (i+1)) true):=by
 obtain ⟨m,hm⟩:=he.len;refine (Tryz.strings_Cut T (str [92]) m w (by omega) hm).mono ?_;rintro e w' ⟨rfl,n,rfl⟩;have e2:Lib.cut T.data.toList (str [92]).data.toList=(T.data.toList.take i,T.data.toList.drop (i+1),true):=by
  rw [AD];unfold Lib.cut;rw [h,if_pos (by omega)];rfl
 rw [e2];exact ⟨rfl,AJ (start _) n⟩
theorem QN (p:Tx) (b:Bool) (w:World) (h:p.any bad=b) (hp:p.length<=1000000):Calls prog 245 #[.string (str p),.string (str need)] w (Ans w (.bool b)):=by
 have:=SV (str p) w (by rw [AB];exact hp);rw [AD,h] at this;exact this
theorem zA (r:Tx) (w:World):Calls prog 246 #[.string (str r)] w fun e w'=>e=.returned (M4 r)/\w=w':=by
 have:=rS (str r) w;rw [AD] at this;exact this
theorem aU (s:ByteArray) (w:World) (he:Env w) (hs:s.size<=100000) :
  Calls prog 233 #[.string s] w (Ans w (unA (unE s.data.toList))):=by
 have HB0:=A5 (VY w);have HW0:Hid (Below w.heap.size w (w.alloc (.cells #[.pointer none,.slice none 0 0] 66))):=A5 (more (start w) _);have HEN:=A5 he;clear he;go_enter func233,ntmps233;go_wp2_with fail
 go_loopg [0,5,6,7,8,9] s.size (fun g S _ _ _ _ _ wr=>∃ (T:ByteArray) (E:Tx),S=.string T/\T.size=g/\Hid (Bu wr w.heap.size E)/\Hid (unE s.data.toList=(unE T.data.toList).map (E++·))/\Hid (E.length+T.size<=s.size)/\Hid (Below w.heap.size w wr))
 case atStart=>exact ⟨s,[],rfl,rfl,HB0,A5 (by rw [map_nil]),A5 (by simp),HW0⟩
 case round =>
  obtain ⟨T,E,rfl,hg,HB,HU,HL,HW⟩:=hrel;have hT1:T.size<=1000000:=by have:=HL.out;omega
  have HEV:=A5 (HEN.out.below HW.out (Nat.le_refl _));rcases iR T.data.toList with ⟨hi,hm⟩|⟨i,hi,hlt,hm,hc⟩
  ·have HC:=A5 (yY T wr HEV.out hT1 hi);obtain ⟨t,ht⟩:∃ t,T.data.toList=t:=⟨_,rfl⟩;have htl:t.length=T.size:=by rw [<- ht,AE]
   rw [ht] at HC HU hm
   cases hb:t.any bad with
   | true =>
    have HF:Hid (unE s.data.toList=none):=A5 (dM (t:=[]) HU.out (by rw [List.append_nil]) hm hb);have HA:=A5 (fun w=>QN t true w hb (by omega));clear hm hb ht hi htl hT1 hg;rw [HF.out];go_wp2_with fail;refine (HC.out).mono ?_;rintro e w1 ⟨rfl,b1⟩;have B1:=A5 (andthen HW.out b1);clear b1;go_wp2_with fail;refine (HA.out _).mono ?_;rintro e w2 ⟨rfl,b2⟩;have B2:=A5 (andthen B1.out b2);clear b2;go_wp2_with fail;go_ret2;exact ⟨rfl,B2.out⟩
   | false =>
    have HF:Hid (unE s.data.toList=some (E++t)):=A5 (uT HU.out hm hb);have HA:=A5 (fun w=>QN t false w hb (by omega));have HLN:Hid (E.length<=1000000/\(str t).size<=1000000):=A5 (by rw [AB];have:=HL.out;omega);clear hm hb ht hi htl hT1 hg;rw [HF.out];go_wp2_with fail;refine (HC.out).mono ?_;rintro e w1 ⟨rfl,b1⟩;have B1:=A5 (andthen HW.out b1);replace HB:=A5 (HB.out.keep b1);clear b1;go_wp2_with fail;refine (HA.out _).mono ?_;rintro e w2 ⟨rfl,b2⟩;have B2:=A5 (andthen B1.out b2);replace HB:=A5 (HB.out.keep b2);clear b2;go_wp2_with fail;refine (MV _ E (str t) w2 HB.out HLN.out.1 HLN.out.2).mono ?_;rintro e w3 ⟨rfl,h3,b3⟩;rw [AD] at h3;have H3:=A5 h3;have B3:=A5 (B2.out.trans b3);clear h3 b3;go_wp2_with fail;refine (QC _ _ w3 H3.out).mono ?_;rintro e w4 ⟨rfl,b4⟩;have B4:=A5 (B3.out.trans b4);clear b4;go_wp2_with fail;go_ret2;exact ⟨rfl,B4.out⟩
  ·have HC:=A5 (yZ T wr HEV.out hT1 i hi);obtain ⟨p,hp⟩:∃ p,T.data.toList.take i=p:=⟨_,rfl⟩;obtain ⟨r,hr⟩:∃ r,T.data.toList.drop (i+1)=r:=⟨_,rfl⟩;have hlp:p.length+r.length+1=T.size:=by
    rw [<- hp,<- hr,List.length_take,List.length_drop];rw [AE] at *;omega
   rw [hp,hr] at HC hc;rw [hp] at hm
   cases hb:p.any bad with
   | true =>
    have HF:Hid (unE s.data.toList=none):=A5 (dM HU.out hc hm hb);have HA:=A5 (fun w=>QN p true w hb (by omega));clear hm hb hp hr hi hlp hT1 hg hc hlt;rw [HF.out];go_wp2_with fail;refine (HC.out).mono ?_;rintro e w1 ⟨rfl,b1⟩;have B1:=A5 (andthen HW.out b1);clear b1;go_wp2_with fail;refine (HA.out _).mono ?_;rintro e w2 ⟨rfl,b2⟩;have B2:=A5 (andthen B1.out b2);clear b2;go_wp2_with fail;go_ret2;exact ⟨rfl,B2.out⟩
   | false =>
    have HA:=A5 (fun w=>QN p false w hb (by omega));have HLN:Hid (E.length<=1000000/\(str p).size<=1000000):=A5 (by rw [AB];have:=HL.out;omega);have HM:=A5 (fun w=>zA r w);have hodd:(r=[]∨∃ d u,r=d :: u/\KI d=none)->unE s.data.toList=none:=fun h=>A07 HU.out hc hm hb h
    have hnext:∀ d u b,r=d :: u->KI d=some b->unE s.data.toList=(unE u).map (((E++p)++[b])++·):=fun d u b h1 h2=>uS HU.out (by rw [hc,h1]) hm hb h2
    rcases (by
     cases r with
     | nil=>exact Or.inl ⟨Or.inl rfl,rfl⟩
     | cons d u =>
      cases hmd:KI d with
      | none=>exact Or.inl ⟨Or.inr ⟨d,u,rfl,hmd⟩,by simp only [M4,hmd]⟩
      | some b=>exact Or.inr ⟨d,u,b,rfl,hmd,by simp only [M4,hmd]⟩ :
     ((r=[]∨∃ d u,r=d :: u/\KI d=none)/\M4 r=.tuple #[.int .u8 0,.bool false])∨∃ d u b,r=d :: u/\KI d=some b/\M4 r=.tuple #[.int .u8 b.toNat,.bool true]) with ⟨h,hA⟩|⟨d,u,b,h1,h2,hA⟩
    ·have HF:=A5 (hodd h);rw [hA] at HM;clear hm hb hp hr hi hlp hT1 hg hc hlt hodd hnext h hA;rw [HF.out];go_wp2_with fail;refine (HC.out).mono ?_;rintro e w1 ⟨rfl,b1⟩;have B1:=A5 (andthen HW.out b1);replace HB:=A5 (HB.out.keep b1);clear b1;go_wp2_with fail;refine (HA.out _).mono ?_;rintro e w2 ⟨rfl,b2⟩;have B2:=A5 (andthen B1.out b2);replace HB:=A5 (HB.out.keep b2);clear b2;go_wp2_with fail;refine (MV _ E (str p) w2 HB.out HLN.out.1 HLN.out.2).mono ?_;rintro e w3 ⟨rfl,h3,b3⟩;have B3:=A5 (B2.out.trans b3);clear h3 b3;go_wp2_with fail;refine (HM.out _).mono ?_;rintro e w4 ⟨rfl,rfl⟩;go_wp2_with fail;go_ret2;exact ⟨rfl,B3.out⟩
    ·have HN:=A5 (hnext d u b h1 h2);subst h1;rw [hA] at HM;have HX:Hid ((str (d :: u)).extract 1 (str (d :: u)).size=str u):=A5 (by rw [I6,AD];rfl);have hx1:(1:Int)<=((str (d :: u)).size:Int):=by rw [AB,List.length_cons];omega
     have HMS:Hid (u.length<gk/\(((E++p)++[b]).length+u.length<=s.size)/\(E++p).length<=1000000):=A5 (by
      simp only [z0J,List.length_cons,List.length_nil] at hlp ⊢;have:=HL.out;omega)
     obtain ⟨X,hXe⟩:∃ X,(str (d :: u)).extract 1 (str (d :: u)).size=X:=⟨_,rfl⟩;rw [hXe] at HX;unfold Cuts at HC;generalize str (d :: u)=R at *;clear hm hb hp hr hi hlp hT1 hg hc hlt hodd hnext h2 hA;go_wp2_with fail;refine (HC.out).mono ?_;rintro e w1 ⟨rfl,b1⟩;have B1:=A5 (andthen HW.out b1);replace HB:=A5 (HB.out.keep b1);clear b1;go_wp2_with fail;refine (HA.out _).mono ?_;rintro e w2 ⟨rfl,b2⟩;have B2:=A5 (andthen B1.out b2);replace HB:=A5 (HB.out.keep b2);clear b2;go_wp2_with fail;refine (MV _ E (str p) w2 HB.out HLN.out.1 HLN.out.2).mono ?_;rintro e w3 ⟨rfl,h3,b3⟩;rw [AD] at h3;have H3:=A5 h3;have B3:=A5 (B2.out.trans b3);clear h3 b3;go_wp2_with fail;refine (HM.out _).mono ?_;rintro e w4 ⟨rfl,rfl⟩;go_wp2_with fail;refine (aP _ (E++p) b _ rfl w3 H3.out HMS.out.2.2).mono ?_;rintro e w5 ⟨rfl,h5,b5⟩;have H5:=A5 h5;have B5:=A5 (B3.out.trans b5);clear h5 b5;go_wp2_with fail
     go_roundg u.length
     case measure=>exact HMS.out.1
     case rel=>exact ⟨X,_,rfl,by rw [HX.out,AB],H5,by rw [HX.out,AD];exact HN,A5 (by rw [HX.out,AB];exact HMS.out.2.1),B5⟩
theorem gF {ops:Array Oper} {o:Oper} {a:Act} {K:Act->World->Prop} {Q:Exit->Act->World->Prop} {E:Prop} {w:World} {B:Nat} {v:Value} {l k:List Tx} (hgd:o.guard=none) (s x:Operand)
  (ho:o.op=.call { callee:=.builtin .append,args:=#[s,x],argTypes:=#[52,52] }) (hs:a.eval s=v) {b off m c:Nat} (hx:a.eval x=.slice (some ⟨b,off,none⟩) m c) (hm:m=k.length)
  (hrow:∀ i (h:i<k.length),w.cell? ⟨b,off+i,none⟩=some (.string (str k[i])))
  (hown:BY w B v l) (hB:B<=w.heap.size) (hn:l.length<=1000000) (hk:k.length<=1000000)
  (h:∀ v' w',BY w' B v' (l++k)->Below B w w'->K (a.put o.dst v') w') :
  if Region.wanted o (yielded ops a.tmps)=true then Oper.wp prog o a w K Q else E:=by
 have hw:Region.wanted o (yielded ops a.tmps)=true:=by simp [Region.wanted,hgd]
 rw [if_pos hw];subst hm;obtain ⟨i0,hi,hz0,hz1,hz2⟩:=info_parts K3;have hnews:∀ j u,(FV k)[j]?=some u->w.cell? ((⟨b,off,none⟩:Addr).add j)=some u:=by
  intro j u hu;have hadd:(⟨b,off,none⟩:Addr).add j=⟨b,off+j,none⟩:=by unfold Addr.add;split <;> simp_all
  rw [hadd];unfold FV at hu;rw [List.getElem?_map,Option.map_eq_some_iff] at hu;obtain ⟨t,ht,rfl⟩:=hu;obtain ⟨hj,e⟩:=List.getElem?_eq_some_iff.1 ht;rw [hrow j hj,e]
 obtain ⟨v',w',hr,h2,h3,_,_⟩:=run_append_own_at (P:=prog) (w:=w) B 52 o.type 9 i0 _ 1 16 underlying52 hi hz0 hz1 hz2 rfl (by decide) v l.length (FV l) hown ⟨b,off,none⟩ k.length c (FV k) (by rw [VN,Nat.mul_one]) hnews (fun u hu=>by obtain ⟨t,_,rfl⟩:=List.mem_map.1 hu;rfl) (by unfold maxLen;omega) (by omega) hB;unfold Oper.wp execOp;simp only [ho,resolve,invoke,builtin,Sem.run_bind,Sem.run_pure,Result.andThen_ok,List.map_toArray,List.map_cons,List.map_nil,hs,hx,hr];exact h v' w' (by rw [BY,K5,z0J];exact h2) ((Below.refl B w).grown h3 hB fun j hj=>(hown.lt j hj).1)
theorem one_cell (w:World) (t:Tx):∀ i (h:i<[t].length),(w.alloc (.cells #[.string (str t)] 9)).cell? ⟨w.heap.size,0+i,none⟩=some (.string (str [t][i])):=fun i hi=>by
 obtain rfl:i=0:=by simpa using hi
 rw [World.cell?_alloc_at _ _ _ _ rfl];rfl
theorem kL {B b1 o1 X:Nat} {v:Value} {W W1:World} (hX:X=W.heap.size∨X=B) (hb:Below X W W1) (h:W.cell? ⟨b1,o1,none⟩=some v/\b1<W.heap.size/\b1<B):W1.cell? ⟨b1,o1,none⟩=some v/\b1<W1.heap.size/\b1<B:=by
 refine ⟨(hb.cell (p:=⟨b1,o1,none⟩) ?_).trans h.1,Nat.lt_of_lt_of_le h.2.1 hb.size,h.2.2⟩;rcases hX with e|e
 ·rw [e];exact h.2.1
 ·rw [e];exact h.2.2
theorem BU.A1T {B:Nat} {w w1 w2:World} {A:Option Addr} {l:List Tx} (h:BU w A l/\Below w.heap.size w w1) (hb:Below B w1 w2) (hB:w.heap.size<=B):BU w2 A l:=fun hn=>by
 obtain ⟨b,off,e,hl,hc⟩:=h.1 hn;refine ⟨b,off,e,Nat.lt_of_lt_of_le (Nat.lt_of_lt_of_le hl h.2.size) hb.size,fun i hi=>?_⟩;exact ((hb.cell (p:=⟨b,off+i,none⟩) (Nat.lt_of_lt_of_le hl hB)).trans (h.2.cell (p:=⟨b,off+i,none⟩) hl)).trans (hc i hi)
theorem BU.drop {w:World} {b off:Nat} {l:List Tx} (h:BU w (some ⟨b,off,none⟩) l) (k:Nat):BU w (some ⟨b,off+k,none⟩) (l.drop k):=fun hn=>by
 have h0:l≠[]:=fun e=>hn (by rw [e];simp)
 obtain ⟨b',off',e,hl,hc⟩:=h h0;injection e with e;injection e with e1 e2 _;subst e1 e2;refine ⟨b,off+k,rfl,hl,fun i hi=>?_⟩;rw [List.length_drop] at hi;rw [List.getElem_drop,Nat.add_assoc];exact hc (k+i) (by omega)
theorem BU.A1U {w:World} {b off:Nat} {l:List Tx} (h:BU w (some ⟨b,off,none⟩) l) (c k:Nat) (hc:l.length<=c):BU w (if c=k then some ⟨b,off,none⟩ else some ⟨b,off+k,none⟩) (l.drop k):=by
 split
 ·rename_i e
  rw [List.drop_eq_nil_of_le (by omega)];exact BU.nil _ _
 ·exact h.drop k
theorem BU.take {w:World} {A:Option Addr} {l:List Tx} (h:BU w A l) (k:Nat):BU w A (l.take k):=fun hn=>by
 have h0:l≠[]:=fun e=>hn (by rw [e];simp)
 obtain ⟨b,off,e,hl,hc⟩:=h h0;refine ⟨b,off,e,hl,fun i hi=>?_⟩;rw [List.length_take] at hi;rw [List.getElem_take];exact hc i (by omega)
theorem A3a (T:Tx):Lib.hasPrefix T [32]=BQ T:=by
 cases T with
 | nil=>rfl
 | cons c t =>
  show List.isPrefixOf (32 :: []) (c :: t)=(some c==some 32)
  rw [List.isPrefixOf,List.isPrefixOf,Bool.and_true]
  cases h:(32:UInt8)==c with
  | true=>rw [beq_iff_eq] at h;subst h;rfl
  | false=>rw [beq_eq_false_iff_ne] at h;symm;rw [beq_eq_false_iff_ne];intro e;injection e with e;exact h e.symm
theorem A1B (T:Tx) (w:World):Calls prog 71 #[.string (str T),.string (str [32])] w fun e w'=>e=.returned (.bool (BQ T))/\w'=w:=by
 have:=Tryz.strings_HasPrefix (str T) (str [32]) w;rw [AD,AD,A3a] at this;exact this
theorem rY (A:Option Addr) (n c:Nat) (ps:List Tx) (w:World) (hl:BU w A ps) (hn:n=ps.length) (hcap:ps.length<=c) (hsz:ps.length<=200000) (hf:ps.flatten.length<=200000) :
  Calls prog 46 #[.slice A n c] w (K6 w (grp ps)):=by
 subst hn;have HR:=A5 hl;have HC:=A5 hcap;have HSF:=A5 (And.intro hsz hf);clear hl hcap hsz hf;go_enter func46,ntmps46;go_wp2_with fail
 go_loopg [0,3,4] ps.length (fun g P v _ wr=>∃ (A':Option Addr) (c':Nat) (q done:List Tx),P=.slice A' q.length c'/\q.length=g/\Hid (BU w A' q)/\Hid (q.length<=c')/\BY wr w.heap.size v done/\Hid (grp ps=done++grp q)/\Hid (done.length+q.length<=ps.length/\q.flatten.length<=ps.flatten.length)/\Below w.heap.size w wr)
 case atStart=>exact ⟨A,c,ps,[],rfl,rfl,HR,HC,IK _ _,A5 rfl,A5 ⟨by simp,Nat.le_refl _⟩,start _⟩
 case round =>
  obtain ⟨A',c',q,done,rfl,hg,HRQ,HCQ,hown,HN,HL,hbw⟩:=hrel;have HO:=A5 hown;have HBR:=A5 hbw;clear hown hbw;obtain ⟨m,hm⟩:∃ m,q.length=m:=⟨_,rfl⟩;rw [hm] at hg ⊢;subst hg
  by_cases h0:m=0
  ·have hq:q=[]:=List.eq_nil_of_length_eq_zero (by omega);have HF:Hid (grp ps=done):=A5 (by rw [HN.out,hq,TF,List.append_nil]);subst h0;clear hq hm;go_wp2_with fail;go_ret;exact ⟨_,rfl,by rw [HF.out];exact HO.out,HBR.out⟩
  ·have hq:q≠[]:=fun e=>h0 (by rw [<- hm,e];rfl)
   obtain ⟨b1,o1,rfl,hbl,hc⟩:=HRQ.out hq;have hm0:(0:Int)<(m:Int):=by omega
   have hd0:decide (0<m)=true:=z0H (by omega);have hmN:0<m:=by omega
   have HM:=A5 hm;have HLT:=A5 (And.intro hbl hc);obtain ⟨V,rfl⟩:∃ V,V=wr:=⟨wr,rfl⟩;have hcm:m<=c':=by have:=HCQ.out;omega
   have hmb:(m:Int)<=300000:=by have:=HL.out.1;have:=HSF.out.1;omega
   clear h0 hbl hc hm;go_wp2_with fail
   go_loopw [4] (fun x wx=>∃ k:Nat,1<=k/\k<=m/\x=.int .i64 k/\Hid (∀ i (h:i<q.length),0<i->i<k->BQ q[i]=true)/\wx=V) (fun x _=>m-(intOf x).toNat)
   case atStart=>exact ⟨1,Nat.le_refl _,by omega,rfl,A5 (fun i h h1 h2=>absurd h2 (by omega)),rfl⟩
   case round =>
    obtain ⟨k,hk1,hkm,rfl,HG,rfl⟩:=hrel;have hk0:(0:Int)<=(k:Int):=by omega
    have hki:(1:Int)<=(k:Int):=by omega
    have hkm1:(k:Int)<=(m:Int):=by omega
    have hkc:(k:Int)<=(c':Int):=by omega
    have hkq:k<=q.length:=by rw [HM.out];exact hkm
    have h0q:0<q.length:=by rw [HM.out];omega
    obtain ⟨p0,hp0⟩:∃ p,q[0]=p:=⟨_,rfl⟩;have P0:wr.cell? ⟨b1,o1,none⟩=some (.string (str p0)):=by rw [<- hp0];exact (HBR.out.cell (p:=⟨b1,_,none⟩) HLT.out.1).trans (HLT.out.2 0 h0q)
    have hS0:wr.cell? ⟨b1,o1,none⟩=some (.string (str p0))/\b1<wr.heap.size/\b1<w.heap.size:=⟨P0,Nat.lt_of_lt_of_le HLT.out.1 HBR.out.size,HLT.out.1⟩;obtain ⟨LN,hLN⟩:∃ LN,p0++tls ((q.take k).drop 1)=LN:=⟨_,rfl⟩;have HE:Hid ((∀ h:k<q.length,BQ q[k]=false)->grp ps=(done++[LN])++grp (q.drop k)):=A5 (fun h2=>by
     have:=A2m q 0 k h0q (by omega) hkq (fun i h h1 h2=>HG.out i h h1 h2) h2;rw [List.drop_zero] at this;rw [HN.out,this,<- hLN,<- hp0];simp)
    have HMI:Hid (((q.take k).drop 1).length=k-1):=A5 (by rw [List.length_drop,List.length_take,HM.out];omega);have HGM:Hid (∀ i (h:i<((q.take k).drop 1).length),BQ ((q.take k).drop 1)[i]=true):=A5 (fun i h=>by
     have h':=h;rw [HMI.out] at h';rw [List.getElem_drop,List.getElem_take];exact HG.out _ (by omega) (by omega) (by omega))
    have HFL:Hid (p0.length+((q.take k).drop 1).flatten.length<=500000):=A5 (by
     have g1:p0.length<=q.flatten.length:=TG q p0 (by rw [<- hp0];exact List.getElem_mem h0q);have g2:=XH (q.take k) 1;have g3:=R5 q k;have g4:=HL.out.2;have g5:=HSF.out.2;omega)
    have HU:Hid (∀ W,BU W (if c'=1 then some ⟨b1,o1,none⟩ else some ⟨b1,o1+1,none⟩) ((q.take k).drop 1)->Calls prog 72 #[.string (str p0),.slice (if c'=1 then some ⟨b1,o1,none⟩ else some ⟨b1,o1+1,none⟩) (k-1) (c'-1)] W (Ans W (.string (str LN)))):=A5 (fun W hW=>by
     have:=aT p0 (if c'=1 then some ⟨b1,o1,none⟩ else some ⟨b1,o1+1,none⟩) (k-1) (c'-1) ((q.take k).drop 1) W hW HMI.out.symm HGM.out (by rw [HMI.out];omega) HFL.out;rw [hLN] at this;exact this)
    have HRK:Hid (BU w (if c'=1 then some ⟨b1,o1,none⟩ else some ⟨b1,o1+1,none⟩) ((q.take k).drop 1)/\Below w.heap.size w wr):=A5 ⟨((HRQ.out).take k).A1U c' 1 (by rw [List.length_take];omega),HBR.out⟩;have HSZ:Hid (w.heap.size<=wr.heap.size):=A5 HBR.out.size;have HRD:Hid (BU w (if c'=k then some ⟨b1,o1,none⟩ else some ⟨b1,o1+k,none⟩) (q.drop k)):=A5 (HRQ.out.A1U c' k HCQ.out);have HCD:Hid ((q.drop k).length<=c'-k):=A5 (by rw [List.length_drop,HM.out];omega);have HLD:Hid ((done++[LN]).length+(q.drop k).length<=ps.length/\(q.drop k).flatten.length<=ps.flatten.length):=A5 (by
     refine ⟨?_,Nat.le_trans (XH q k) HL.out.2⟩;rw [z0J,List.length_drop,List.length_singleton];have:=HL.out.1;omega)
    have HLN:Hid (done.length<=1000000):=A5 (by have:=HL.out.1;have:=HSF.out.1;omega)
    by_cases hlt:k<m
    ·have hki1:(k:Int)<(m:Int):=by omega
     have hkl:k<q.length:=by rw [HM.out];exact hlt
     obtain ⟨T,hT⟩:∃ T,q[k]=T:=⟨_,rfl⟩;have p1:wr.cell? ⟨b1,o1+k,none⟩=some (.string (str T)):=by rw [<- hT];exact (HBR.out.cell (p:=⟨b1,_,none⟩) HLT.out.1).trans (HLT.out.2 k hkl)
     have HP:=A5 (fun w=>A1B T w)
     cases hgo:BQ T with
     | true =>
      rw [hgo] at HP;have HG2:Hid (∀ i (h:i<q.length),0<i->i<k+1->BQ q[i]=true):=A5 (fun i h h1 h2=>by
       rcases Nat.lt_or_ge i k with g|g
       ·exact HG.out i h h1 g
       ·obtain rfl:i=k:=by omega
        rw [hT];exact hgo)
      clear hT hgo hkq h0q hp0 hLN hkl;go_wp2_with fail;refine (HP.out _).mono ?_;rintro e w2 ⟨rfl,rfl⟩;go_wp2_with fail
      go_roundw
      case rel=>exact ⟨k+1,by omega,by omega,by go_num,HG2,by trivial⟩
      case measure=>simp [intOf];omega
     | false =>
      rw [hgo] at HP;have HND:=A5 (HE.out (fun h=>by rw [hT];exact hgo));replace HRD:=A5 (HRQ.out.drop k);clear hT hgo hkq h0q hp0 hLN hkl;go_wp2_with fail;refine (HP.out _).mono ?_;rintro e w2 ⟨rfl,rfl⟩;have hown:=HO.out;have hbz:=HBR.out;go_wp2_with fail;refine wp_region_held_drew (S:=fun W'=>W'.cell? ⟨b1,o1,none⟩=some (.string (str p0))/\b1<W'.heap.size/\b1<w.heap.size) (by kernel_rfl) ?_ (fun hH0=>?_)
      ·exact kL (Or.inl rfl) (Below.drew (start _)) hS0
      refine' z0L (i:=0) (v:=?v0) rfl (by kernel_rfl) (by kernel_rfl) (by kernel_rfl) ?y0 hH0 ?r0
      case y0=>(intro w hSw;(try dsimp only at hSw);go_simp;(try with_reducible rfl))
      try simp only [Act.put,z0A,z0C,z0D,z0E,z0F]
      refine' z0L (i:=1) (v:=?v1) rfl (by kernel_rfl) (by kernel_rfl) (by kernel_rfl) ?y1 hH0 ?r1
      case y1=>(intro w hSw;(try dsimp only at hSw);go_simp;(try with_reducible rfl))
      try simp only [Act.put,z0A,z0B,z0C,z0D,z0E,z0F]
      refine' z0L (i:=2) (v:=?v2) rfl (by kernel_rfl) (by kernel_rfl) (by kernel_rfl) ?y2 hH0 ?r2
      case y2=>(intro w hSw;(try dsimp only at hSw);go_simp;(try with_reducible rfl))
      try simp only [Act.put,z0A,z0B,z0C,z0D,z0E,z0F]
      refine' z0L (i:=3) (v:=?v3) rfl (by kernel_rfl) (by kernel_rfl) (by kernel_rfl) ?y3 hH0 ?r3
      case y3=>(intro w hSw;(try dsimp only at hSw);go_simp;(try with_reducible rfl))
      try simp only [Act.put,z0A,z0B,z0C,z0D,z0E,z0F]
      refine' z0L (i:=4) (v:=?v4) rfl (by kernel_rfl) (by kernel_rfl) (by kernel_rfl) ?y4 hH0 ?r4
      case y4=>(intro w hSw;(try dsimp only at hSw);go_simp;(try with_reducible rfl))
      try simp only [Act.put,z0A,z0B,z0C,z0D,z0E,z0F]
      refine' z0L (i:=5) (v:=?v5) rfl (by kernel_rfl) (by kernel_rfl) (by kernel_rfl) ?y5 hH0 ?r5
      case y5=>(intro w hSw;(try dsimp only at hSw);go_simp;(try with_reducible rfl))
      try simp only [Act.put,z0A,z0B,z0C,z0D,z0E,z0F]
      refine' z0L (i:=6) (v:=?v6) rfl (by kernel_rfl) (by kernel_rfl) (by kernel_rfl) ?y6 hH0 ?r6
      case y6=>(intro w hSw;(try dsimp only at hSw);go_simp;(try with_reducible rfl))
      try simp only [Act.put,z0A,z0B,z0C,z0D,z0E,z0F]
      refine wpAnyH_ready (rs:=[7]) (by as_aux_lemma=>kernel_rfl) (by simp) ?_;refine AllReadyH.cons (o:=_) rfl (fun K hK=>?_) AllReadyH.nil
      go_simp
      refine (HU.out _ (BU.A1T HRK.out (Below.drew (start _)) HSZ.out)).mono ?_;rintro e w3 ⟨rfl,hb⟩;replace hown:=BY.keep hown (andthen (start _).drew hb);replace hbz:=andthen hbz (andthen (start _).drew hb);refine hK.out _ _ (kL (by first|exact Or.inl rfl|exact Or.inr rfl) hb hH0) (fun hN=>?_);clear hK K hH0;have hH1:=hN;clear hN
      try simp only [Act.put,z0A,z0B,z0C,z0D,z0E,z0F]
      refine wpAnyH_ready (rs:=[8]) (by as_aux_lemma=>kernel_rfl) (by simp) ?_;refine AllReadyH.cons (o:=_) rfl (fun K hK=>?_) AllReadyH.nil
      go_simp
      refine hK.out _ _ (kL (by first|exact Or.inl rfl|exact Or.inr rfl) (more (start _) _) hH1) (fun hN=>?_);clear hK K hH1;have hH2:=hN;clear hN
      try simp only [Act.put,z0A,z0B,z0C,z0D,z0E,z0F]
      refine wpAnyH_ready (rs:=[9]) (by as_aux_lemma=>kernel_rfl) (by simp) ?_;refine AllReadyH.cons (o:=_) rfl (fun K hK=>?_) AllReadyH.nil;refine gF (l:=done) (k:=[LN]) rfl _ _ rfl rfl rfl rfl (one_cell _ _) (hown.alloc _) (Nat.le_trans hbz.size (more (start w3) _).size) HLN.out (by simp) ?_;intro v9 w9 hown9 hb;have hb9:=hbz.trans (((Below.refl _ w3).alloc hbz.size _).trans hb);refine hK.out _ _ (kL (by first|exact Or.inl rfl|exact Or.inr rfl) hb hH2) (fun hN=>?_);clear hK K hH2;have hH3:=hN;clear hN
      try simp only [Act.put,z0A,z0B,z0C,z0D,z0E,z0F]
      refine' z0L (i:=10) (v:=?v7) rfl (by kernel_rfl) (by kernel_rfl) (by kernel_rfl) ?y7 hH3 ?r7
      case y7=>(intro w hSw;(try dsimp only at hSw);go_simp;(try with_reducible rfl))
      try simp only [Act.put,z0A,z0B,z0C,z0D,z0E,z0F]
      refine wpAnyH_done (by as_aux_lemma=>kernel_rfl) ?_ _;have HO9:=A5 hown9;have HB9:=A5 hb9;clear hH3 hown hbz hown9 hb9 hb;go_wp2_with fail
      go_roundg (m-k)
      case measure=>omega
      case rel=>exact ⟨_,_,q.drop k,done++[LN],by rw [List.length_drop,HM.out],by rw [List.length_drop,HM.out],HRD,HCD,HO9.out,HND,HLD,HB9.out⟩
    ·obtain rfl:k=m:=by omega
     have HND:=A5 (HE.out (fun h=>absurd h (by rw [HM.out];omega)));clear hkq h0q hp0 hLN hlt;have hown:=HO.out;have hbz:=HBR.out;go_wp2_with fail;refine wp_region_held_drew (S:=fun W'=>W'.cell? ⟨b1,o1,none⟩=some (.string (str p0))/\b1<W'.heap.size/\b1<w.heap.size) (by kernel_rfl) ?_ (fun hH0=>?_)
     ·exact kL (Or.inl rfl) (Below.drew (start _)) hS0
     refine' z0L (i:=0) (v:=?v20) rfl (by kernel_rfl) (by kernel_rfl) (by kernel_rfl) ?y20 hH0 ?r20
     case y20=>(intro w hSw;(try dsimp only at hSw);go_simp;(try with_reducible rfl))
     try simp only [Act.put,z0A,z0C,z0D,z0E,z0F]
     refine' z0L (i:=1) (v:=?v21) rfl (by kernel_rfl) (by kernel_rfl) (by kernel_rfl) ?y21 hH0 ?r21
     case y21=>(intro w hSw;(try dsimp only at hSw);go_simp;(try with_reducible rfl))
     try simp only [Act.put,z0A,z0B,z0C,z0D,z0E,z0F]
     refine' z0L (i:=2) (v:=?v22) rfl (by kernel_rfl) (by kernel_rfl) (by kernel_rfl) ?y22 hH0 ?r22
     case y22=>(intro w hSw;(try dsimp only at hSw);go_simp;(try with_reducible rfl))
     try simp only [Act.put,z0A,z0B,z0C,z0D,z0E,z0F]
     refine' z0L (i:=3) (v:=?v23) rfl (by kernel_rfl) (by kernel_rfl) (by kernel_rfl) ?y23 hH0 ?r23
     case y23=>(intro w hSw;(try dsimp only at hSw);go_simp;(try with_reducible rfl))
     try simp only [Act.put,z0A,z0B,z0C,z0D,z0E,z0F]
     refine' z0L (i:=4) (v:=?v24) rfl (by kernel_rfl) (by kernel_rfl) (by kernel_rfl) ?y24 hH0 ?r24
     case y24=>(intro w hSw;(try dsimp only at hSw);go_simp;(try with_reducible rfl))
     try simp only [Act.put,z0A,z0B,z0C,z0D,z0E,z0F]
     refine' z0L (i:=5) (v:=?v25) rfl (by kernel_rfl) (by kernel_rfl) (by kernel_rfl) ?y25 hH0 ?r25
     case y25=>(intro w hSw;(try dsimp only at hSw);go_simp;(try with_reducible rfl))
     try simp only [Act.put,z0A,z0B,z0C,z0D,z0E,z0F]
     refine' z0L (i:=6) (v:=?v26) rfl (by kernel_rfl) (by kernel_rfl) (by kernel_rfl) ?y26 hH0 ?r26
     case y26=>(intro w hSw;(try dsimp only at hSw);go_simp;(try with_reducible rfl))
     try simp only [Act.put,z0A,z0B,z0C,z0D,z0E,z0F]
     refine wpAnyH_ready (rs:=[7]) (by as_aux_lemma=>kernel_rfl) (by simp) ?_;refine AllReadyH.cons (o:=_) rfl (fun K hK=>?_) AllReadyH.nil
     go_simp
     refine (HU.out _ (BU.A1T HRK.out (Below.drew (start _)) HSZ.out)).mono ?_;rintro e w3 ⟨rfl,hb⟩;replace hown:=BY.keep hown (andthen (start _).drew hb);replace hbz:=andthen hbz (andthen (start _).drew hb);refine hK.out _ _ (kL (by first|exact Or.inl rfl|exact Or.inr rfl) hb hH0) (fun hN=>?_);clear hK K hH0;have hH1:=hN;clear hN
     try simp only [Act.put,z0A,z0B,z0C,z0D,z0E,z0F]
     refine wpAnyH_ready (rs:=[8]) (by as_aux_lemma=>kernel_rfl) (by simp) ?_;refine AllReadyH.cons (o:=_) rfl (fun K hK=>?_) AllReadyH.nil
     go_simp
     refine hK.out _ _ (kL (by first|exact Or.inl rfl|exact Or.inr rfl) (more (start _) _) hH1) (fun hN=>?_);clear hK K hH1;have hH2:=hN;clear hN
     try simp only [Act.put,z0A,z0B,z0C,z0D,z0E,z0F]
     refine wpAnyH_ready (rs:=[9]) (by as_aux_lemma=>kernel_rfl) (by simp) ?_;refine AllReadyH.cons (o:=_) rfl (fun K hK=>?_) AllReadyH.nil;refine gF (l:=done) (k:=[LN]) rfl _ _ rfl rfl rfl rfl (one_cell _ _) (hown.alloc _) (Nat.le_trans hbz.size (more (start w3) _).size) HLN.out (by simp) ?_;intro v9 w9 hown9 hb;have hb9:=hbz.trans (((Below.refl _ w3).alloc hbz.size _).trans hb);refine hK.out _ _ (kL (by first|exact Or.inl rfl|exact Or.inr rfl) hb hH2) (fun hN=>?_);clear hK K hH2;have hH3:=hN;clear hN
     try simp only [Act.put,z0A,z0B,z0C,z0D,z0E,z0F]
     refine' z0L (i:=10) (v:=?v27) rfl (by kernel_rfl) (by kernel_rfl) (by kernel_rfl) ?y27 hH3 ?r27
     case y27=>(intro w hSw;(try dsimp only at hSw);go_simp;(try with_reducible rfl))
     try simp only [Act.put,z0A,z0B,z0C,z0D,z0E,z0F]
     refine wpAnyH_done (by as_aux_lemma=>kernel_rfl) ?_ _;have HO9:=A5 hown9;have HB9:=A5 hb9;clear hH3 hown hbz hown9 hb9 hb;have hz0:q.drop k=[]:=List.drop_eq_nil_of_le (by rw [HM.out];exact Nat.le_refl _);rw [hz0] at HND HLD;have HNZ:=A5 HND.out;have HLZ:=A5 HLD.out;clear HND HLD hz0;go_wp2_with fail
     all_goals
      go_roundg 0
      case measure=>omega
      case rel=>exact ⟨_,_,[],done++[LN],rfl,rfl,A5 (BU.nil _ _),A5 (Nat.zero_le _),HO9.out,HNZ,HLZ,HB9.out⟩
theorem kK (s:ByteArray) (w:World) (he:Env w) (hs:s.size<=100000) :
  Calls prog 22 #[.string s] w (K6 w (CJ s.data.toList)):=by
 have HS:=A5 (WL s w he (by omega));have hl1:=RM s.data.toList;have hl2:=A06 (Lib.split s.data.toList crlf);have hl3:=JE s.data.toList;have hl4:=dL (Lib.split s.data.toList crlf);rw [AE] at hl1 hl3;have HL:Hid ((fin (Lib.split s.data.toList crlf)).length<=200000/\(fin (Lib.split s.data.toList crlf)).flatten.length<=200000):=A5 ⟨by omega,by omega⟩;have HE:Hid (CJ s.data.toList=grp (fin (Lib.split s.data.toList crlf))):=A5 (by unfold CJ;rw [XG]);rw [HE.out];generalize fin (Lib.split s.data.toList crlf)=ps at *;clear hl1 hl2 hl3 hl4 he hs HE;go_enter func22,ntmps22;go_wp2_with fail;refine (HS.out).mono ?_;rintro e w1 ⟨A,cap,rfl,hrow,hcap,hb1⟩;have HB1:=A5 hb1;have HLN:=A5 (rY A _ cap ps w1 hrow rfl hcap HL.out.1 HL.out.2);clear hrow hcap hb1;go_wp2_with fail;refine (HLN.out).mono ?_;rintro e w2 ⟨v,rfl,hown,hb2⟩;have HO:=A5 (BY.low hown HB1.out.size);have HB2:=A5 (andthen HB1.out hb2);clear hown hb2;go_wp2_with fail;go_ret;exact ⟨v,rfl,HO.out,HB2.out⟩
end Go.Proofs.YtfecnkhoojnkbaaGreatDoor

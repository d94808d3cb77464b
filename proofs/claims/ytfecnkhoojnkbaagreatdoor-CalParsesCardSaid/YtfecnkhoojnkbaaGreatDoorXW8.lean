import Derived.Test.YtfecnkhoojnkbaaGreatDoorXW7
set_option maxHeartbeats 8000000
set_option maxRecDepth 1000000
namespace Go.Proofs.YtfecnkhoojnkbaaGreatDoor
open Go.RowKit Rul Rt Fo Li Go.Sort Tryz
theorem gG (C:Int) (w:World) :
  Calls prog 202 #[.int .u8 C] w fun e w'=>e=.returned (.bool (inI C))/\w=w':=by
 by_cases h1:65<=C
 ·have d1:decide (65<=C)=true:=z0H h1
  by_cases h2:C<=90
  ·have d2:decide (C<=90)=true:=z0H h2;have E:=A5 ((LA C).2 (by omega));go_enter func202,ntmps202;go_wp2_with fail;go_ret;exact ⟨AA E.out.symm,rfl⟩
  ·have d2:decide (C<=90)=false:=z0G h2;have h3:48<=C:=by omega
   have h4:¬ C<=57:=by omega
   have d3:decide (48<=C)=true:=z0H h3;have d4:decide (C<=57)=false:=z0G h4;have d5:(C==45)=false:=by rw [beq_eq_false_iff_ne];omega
   have E:=A5 (R4 C (by omega));go_enter func202,ntmps202;go_wp2_with fail;go_ret;exact ⟨AA E.out.symm,rfl⟩
 ·have d1:decide (65<=C)=false:=z0G h1
  by_cases h3:48<=C
  ·have d3:decide (48<=C)=true:=z0H h3
   by_cases h4:C<=57
   ·have d4:decide (C<=57)=true:=z0H h4;have E:=A5 ((LA C).2 (by omega));go_enter func202,ntmps202;go_wp2_with fail;go_ret;exact ⟨AA E.out.symm,rfl⟩
   ·have d4:decide (C<=57)=false:=z0G h4;have d5:(C==45)=false:=by rw [beq_eq_false_iff_ne];omega
    have E:=A5 (R4 C (by omega));go_enter func202,ntmps202;go_wp2_with fail;go_ret;exact ⟨AA E.out.symm,rfl⟩
  ·have d3:decide (48<=C)=false:=z0G h3
   by_cases h5:C=45
   ·have d5:(C==45)=true:=by rw [beq_iff_eq];exact h5
    have E:=A5 ((LA C).2 (by omega));clear h5;go_enter func202,ntmps202;go_wp2_with fail;go_ret;exact ⟨AA E.out.symm,rfl⟩
   ·have d5:(C==45)=false:=by rw [beq_eq_false_iff_ne];exact h5
    have E:=A5 (R4 C (by omega));go_enter func202,ntmps202;go_wp2_with fail;go_ret;exact ⟨AA E.out.symm,rfl⟩
theorem W7 (c:UInt8) (b:Bool) (w:World) (h:inN c=b) :
  Calls prog 202 #[.int .u8 (c.toNat:Int)] w fun e w'=>e=.returned (.bool b)/\w=w':=by
 subst h;exact gG _ w
theorem NO (s:ByteArray) (k:Nat) (h:k<s.size) (h2:k<s.data.toList.length):s.data.toList[k]'h2=s[k]'h:=by
 simp [ByteArray.getElem_eq_getElem_data]
theorem rZ (s:ByteArray) (w:World) (hs:s.size<=100000) :
  Calls prog 171 #[.string s] w fun e w'=>e=.returned (.bool (s.data.toList.all inN))/\w=w':=by
 go_enter func171,ntmps171;go_wp2_with fail
 go_loopw [6] (fun i wr=>∃ k:Nat,k<=s.size/\i=.int .i64 k/\Hid ((s.data.toList.take k).all inN=true)/\wr=w) (fun i _=>s.size-(intOf i).toNat)
 case atStart=>exact ⟨0,Nat.zero_le _,rfl,A5 rfl,rfl⟩
 case round =>
  obtain ⟨k,hk,rfl,HA,rfl⟩:=hrel
  by_cases hlt:k<s.size
  ·have hlt1:(k:Int)<(s.size:Int):=by omega
   have hk0:(0:Int)<=(k:Int):=by omega
   obtain ⟨c,hc⟩:∃ c,s[k]'hlt=c:=⟨_,rfl⟩;have hkl:k<s.data.toList.length:=by rw [AE];exact hlt
   have hcl:s.data.toList[k]=c:=by rw [NO s k hlt,hc]
   cases hb:inN c with
   | true =>
    have HN:=A5 (dI s.data.toList k hkl HA.out (by rw [hcl];exact hb));have HI:=A5 (W7 c true wr hb);clear hb hcl hkl;go_wp2_with (go_at_call 202;refine (HI.out).mono ?_;rintro e w' ⟨rfl,rfl⟩)
    go_roundw
    case rel=>exact ⟨k+1,by omega,by go_num,HN,by trivial⟩
    case measure=>simp [intOf];omega
   | false =>
    have HF:=A5 (uQ s.data.toList k hkl (by rw [hcl];exact hb));have HI:=A5 (W7 c false wr hb);clear hb hcl hkl;go_wp2_with (go_at_call 202;refine (HI.out).mono ?_;rintro e w' ⟨rfl,rfl⟩);go_ret;exact ⟨AA HF.out.symm,rfl⟩
  ·obtain rfl:k=s.size:=by omega
   have HF:Hid (s.data.toList.all inN=true):=A5 (by
    have h:=HA.out;rw [List.take_of_length_le (by rw [AE];omega)] at h;exact h)
   go_wp2_with fail;go_ret;exact ⟨AA HF.out.symm,rfl⟩
theorem gH (s:ByteArray) (b:Bool) (w:World) (hs:s.size<=100000) (h:s.data.toList.all inN=b) :
  Calls prog 171 #[.string s] w fun e w'=>e=.returned (.bool b)/\w=w':=by
 subst h;exact rZ s w hs
theorem aV (s:ByteArray) (b:Nat) (w:World) (hs:s.size<=140737488355328) (hc:w.cell? ⟨b,0,none⟩=some (.string s)) :
  Calls prog 141 #[.slice (some ⟨b,0,none⟩) 1 1] w fun e w'=>e=.returned (.bool (FE s.data.toList))/\w=w':=by
 go_enter func141,ntmps141;go_wp2_with fail
 go_loopw [7] (fun i wr=>∃ k:Nat,k<=1/\i=.int .i64 k/\Hid (k=1->FE s.data.toList=true)/\wr=w) (fun i _=>1-(intOf i).toNat)
 case atStart=>exact ⟨0,Nat.zero_le _,rfl,A5 (fun h=>by cases h),rfl⟩
 case round =>
  obtain ⟨k,hk,rfl,HA,rfl⟩:=hrel
  by_cases hk1:k=1
  ·subst hk1;have HF:=A5 (HA.out rfl);go_wp2_with fail;go_ret;exact ⟨AA HF.out.symm,rfl⟩
  ·obtain rfl:k=0:=by omega
   clear hk1 hk HA
   by_cases h1:s.size<1
   ·have d1:decide ((s.size:Int)<1)=true:=z0H (by omega);have HF:=A5 (RZ s.data.toList (by rw [AE];exact h1));go_wp2_with fail;go_ret;exact ⟨AA HF.out.symm,rfl⟩
   ·have d1:decide ((s.size:Int)<1)=false:=z0G (by omega)
    by_cases h2:20<s.size
    ·have d2:decide ((20:Int)<(s.size:Int))=true:=z0H (by omega);have HF:=A5 (UU s.data.toList (by rw [AE];exact h2));go_wp2_with fail;go_ret;exact ⟨AA HF.out.symm,rfl⟩
    ·have d2:decide ((20:Int)<(s.size:Int))=false:=z0G (by omega);have hn:=oT s.data.toList (by rw [AE];omega) (by rw [AE];omega)
     cases hb:s.data.toList.all inN with
     | true =>
      have HI:=A5 (gH s true wr (by omega) hb);have HF:=A5 (hn.trans hb);clear hb hn;go_wp2_with (go_at_call 171;refine (HI.out).mono ?_;rintro e w' ⟨rfl,rfl⟩)
      go_roundw
      case rel=>exact ⟨1,Nat.le_refl _,by go_num,A5 (fun _=>HF.out),by trivial⟩
      case measure=>simp [intOf]
     | false =>
      have HI:=A5 (gH s false wr (by omega) hb);have HF:=A5 (hn.trans hb);clear hb hn;go_wp2_with (go_at_call 171;refine (HI.out).mono ?_;rintro e w' ⟨rfl,rfl⟩);go_ret;exact ⟨AA HF.out.symm,rfl⟩
theorem bsOne (s:ByteArray) (w:World):(Instr.buildSlice 52 1 #[(0,.string s)]).run prog w=.ok (.slice (some ⟨w.heap.size,0,none⟩) 1 1) (w.alloc (.cells #[.string s] 9)):=by kernel_rfl
theorem zB (s:ByteArray) (w:World):(w.alloc (.cells #[.string s] 9)).cell? ⟨w.heap.size,0,none⟩=some (.string s):=by rw [World.cell?_alloc_at _ _ _ _ rfl];rfl
theorem zC (s:ByteArray) (w:World) (hs:s.size<=140737488355328) :
  Calls prog 108 #[.string s] w (Ans w (.bool (FE s.data.toList))):=by
 have hbs:=bsOne;have HI:=A5 (aV s _ _ hs (zB s w));have HB:Hid (Below w.heap.size w (w.alloc (.cells #[.string s] 9))):=A5 (more (start w) _);go_enter func108,ntmps108;go_wp2_with fail;refine (HI.out).mono ?_;rintro e w' ⟨rfl,rfl⟩;go_wp2_with fail;go_ret;exact ⟨rfl,HB.out⟩
theorem A1C (s:ByteArray) (b:Bool) (w:World) (hs:s.size<=140737488355328) (h:FE s.data.toList=b) :
  Calls prog 108 #[.string s] w (Ans w (.bool b)):=by
 subst h;exact zC s w hs
structure NS (W:World) (B:Nat) (l:Tx):Prop where
 lt:B<W.heap.size
 at_:∀ j (h:j<l.length),W.cell? ⟨B,j,none⟩=some (.int .u8 ((l[j]).toNat:Int))
 free:∀ j,j<l.length->W.frozen? ⟨B,j,none⟩=false
theorem NS.below {W W':World} {B:Nat} {l:Tx} (h:NS W B l) (hb:Below W.heap.size W W'):NS W' B l :=
 ⟨Nat.lt_of_lt_of_le h.lt hb.size,fun j hj=>(hb.cell (p:=⟨B,j,none⟩) h.lt).trans (h.at_ j hj),fun j hj=>(hb.frozen (p:=⟨B,j,none⟩) h.lt).trans (h.free j hj)⟩
theorem aW (s:ByteArray) (cap:Nat):(bytesRow s cap).size=s.size+(cap-s.size):=by
 unfold bytesRow;rw [Array.size_append,Array.size_map,Array.size_replicate];rfl
theorem zD (w:World) (s:ByteArray) (cap:Nat):NS (w.alloc (.cells (bytesRow s cap) 5 ((bytesRow s cap).size,(bytesRow s cap).size+1))) w.heap.size s.data.toList:=by
 refine ⟨by simp,fun j hj=>?_,fun j hj=>?_⟩
 ·rw [World.cell?_alloc_mark,bytesRow_at _ _ j (by rw [AE] at hj;exact hj)];simp
 ·rw [AE] at hj;rw [World.frozen?_alloc_mark];have:¬ (bytesRow s cap).size<=j:=by rw [aW];omega
  rw [z0G this];rfl
theorem NS.conv {W:World} {B:Nat} {l:Tx} (h:NS W B l) (n cap:Nat) (hn:n=l.length):(convert 32 9 (.slice (some ⟨B,0,none⟩) n cap)).run prog W=.ok (.string (str l)) W:=by
 subst hn;exact run_convert_bytes_back W _ _ 5 _ cap l underlying32 underlying5 underlying9 (fun j hj=>by
  have:(⟨B,0,none⟩:Addr).add j=⟨B,j,none⟩:=plus B j;rw [this];exact h.at_ j hj)
theorem NS.set {W:World} {B:Nat} {l:Tx} (h:NS W B l) (k:Nat) (c:UInt8) (x:Int) (hx:x=(c.toNat:Int)) (hk:k<l.length):NS (W.setCell ⟨B,k,none⟩ (.int .u8 x)) B (l.set k c):=by
 subst hx;refine ⟨?_,fun j hj=>?_,fun j hj=>?_⟩
 ·have:=h.lt;simpa [World.setCell] using this
 ·rw [List.length_set] at hj
  by_cases e:k=j
  ·subst e;rw [List.getElem_set_self];simp [go_sem,h.at_ k hk]
  ·have ne:(⟨B,k,none⟩:Addr)≠⟨B,j,none⟩:=fun g=>e (congrArg Addr.off g)
   rw [World.cell?_setCell_other (h:=ne),h.at_ j hj,List.getElem_set_ne e]
 ·rw [List.length_set] at hj;rw [World.frozen?_setCell];exact h.free j hj
theorem P4 (s:ByteArray) (n:Nat) (hn:s.size=n) (w:World) :
  (convert 9 32 (.string s)).run prog w=.ok (.slice (some ⟨w.heap.size,0,none⟩) n (grownCap w n 0 5))
   (w.drew.alloc (.cells (bytesRow s (grownCap w n 0 5)) 5 ((bytesRow s (grownCap w n 0 5)).size,(bytesRow s (grownCap w n 0 5)).size+1))):=by
 subst hn;exact run_bytes_of_string (P:=prog) w 9 32 5 s underlying9 underlying32 underlying5
theorem P5 (s:ByteArray) (w:World) (cap:Nat) :
  NS (w.alloc (.cells (bytesRow s cap) 5 ((bytesRow s cap).size,(bytesRow s cap).size+1))).drew w.heap.size s.data.toList ∧
  Below w.heap.size w (w.alloc (.cells (bytesRow s cap) 5 ((bytesRow s cap).size,(bytesRow s cap).size+1))).drew:=by
 have h:=zD w.drew s cap;have e:w.drew.heap.size=w.heap.size:=rfl;rw [e] at h;exact ⟨h,(start w).drew.alloc (Nat.le_refl _) _⟩
theorem aX (s:ByteArray) (w:World) (hs:s.size<=100000) :
  Calls prog 107 #[.string s] w (Ans w (.string (str (AW s.data.toList)))):=by
 obtain ⟨n,hn⟩:∃ n,s.size=n:=⟨_,rfl⟩;have hcv:=P4 s n hn;have HM:=A5 (fun cap=>P5 s w cap);have hln:s.data.toList.length=n:=by rw [AE,hn]
 rw [hn] at hs;obtain ⟨L,hL⟩:∃ L,s.data.toList=L:=⟨_,rfl⟩;rw [hL] at HM hln;rw [hL];have HLN:=A5 hln;clear hn hln hL;go_enter func107,ntmps107;go_wp2_with fail;obtain ⟨cap,hcap⟩:∃ cap,grownCap w n 0 5=cap:=⟨_,rfl⟩;rw [hcap];have HR:=A5 (HM.out cap).1;have HB:=A5 (HM.out cap).2;clear hcv hcap HM;generalize (w.alloc (.cells (bytesRow s cap) 5 ((bytesRow s cap).size,(bytesRow s cap).size+1))).drew=W1 at *;generalize hg:w.heap.size=g at *
 go_loopw [10] (fun i wr=>∃ k:Nat,k<=n/\i=.int .i64 k/\Hid (NS wr g (AW (L.take k)++L.drop k))/\Hid (Below g w wr)) (fun i _=>n-(intOf i).toNat)
 case atStart=>exact ⟨0,Nat.zero_le _,rfl,HR,HB⟩
 case round =>
  obtain ⟨k,hk,rfl,HY,HW⟩:=hrel
  by_cases hlt:k<n
  ·have hkL:k<L.length:=by rw [HLN.out];exact hlt
   have hl2:k<(AW (L.take k)++L.drop k).length:=by rw [z0J,DZ,List.length_take,List.length_drop];omega
   obtain ⟨c,hc⟩:∃ c,L[k]'hkL=c:=⟨_,rfl⟩;have p1:wr.cell? ⟨g,k,none⟩=some (.int .u8 (c.toNat:Int)):=by rw [HY.out.at_ k hl2,lS L k hkL hl2,hc]
   have f1:=HY.out.free k hl2;have hi0:(0:Int)<=(k:Int):=by omega
   have hi1:(k:Int)<(n:Int):=by omega
   by_cases h1:(97:Int)<=(c.toNat:Int)
   ·by_cases h2:(c.toNat:Int)<=122
    ·have d1:decide ((97:Int)<=(c.toNat:Int))=true:=z0H h1;have d2:decide ((c.toNat:Int)<=122)=true:=z0H h2;obtain ⟨x,hx⟩:∃ x:Int,(c.toNat:Int)-97+65=x:=⟨_,rfl⟩;have hw1:IntKind.u8.wrap ((c.toNat:Int)-97)=(c.toNat:Int)-97:=IntWalk.u8_in _ (by omega);have hw2:IntKind.u8.wrap ((c.toNat:Int)-97+65)=x:=by rw [hx];exact IntWalk.u8_in _ (by omega)
     have hux:x=((up c).toNat:Int):=by rw [PM c (by omega) (by omega),lR c (by omega)];omega
     have HN:=A5 ((XF L k hkL c hc)▸HY.out.set k (up c) x hux hl2);have HW2:=A5 (HW.out.setCell (p:=⟨g,k,none⟩) (Nat.le_refl _) (.int .u8 x));clear hux hl2 hc hkL;go_wp2_with fail
     go_roundw
     case rel=>exact ⟨k+1,by omega,by go_num,HN,HW2⟩
     case measure=>simp [intOf];omega
    ·have d1:decide ((97:Int)<=(c.toNat:Int))=true:=z0H h1;have d2:decide ((c.toNat:Int)<=122)=false:=z0G h2;have HN:Hid (NS wr g (AW (L.take (k+1))++L.drop (k+1))):=A5 ((N6 L k hkL c hc (KJ c (by omega)))▸HY.out);clear hl2 hc hkL;go_wp2_with fail
     go_roundw
     case rel=>exact ⟨k+1,by omega,by go_num,HN,HW⟩
     case measure=>simp [intOf];omega
   ·have d1:decide ((97:Int)<=(c.toNat:Int))=false:=z0G h1;have HN:Hid (NS wr g (AW (L.take (k+1))++L.drop (k+1))):=A5 ((N6 L k hkL c hc (KJ c (by omega)))▸HY.out);clear hl2 hc hkL;go_wp2_with fail
    go_roundw
    case rel=>exact ⟨k+1,by omega,by go_num,HN,HW⟩
    case measure=>simp [intOf];omega
  ·obtain rfl:k=n:=by omega
   have e:=dH L;rw [HLN.out] at e;rw [e] at HY;have hcb:=HY.out.conv k cap (by rw [DZ,HLN.out]);clear e;go_wp2_with fail;go_ret;exact ⟨rfl,by rw [hg];exact HW.out⟩
theorem kM (s:ByteArray) (w:World) (hs:s.size<=100000) :
  Calls prog 44 #[.string s] w (Ans w (.string (str (AW s.data.toList)))):=by
 obtain ⟨n,hn⟩:∃ n,s.size=n:=⟨_,rfl⟩;have hcv:=P4 s n hn;have HM:=A5 (fun cap=>P5 s w cap);have hln:s.data.toList.length=n:=by rw [AE,hn]
 rw [hn] at hs;obtain ⟨L,hL⟩:∃ L,s.data.toList=L:=⟨_,rfl⟩;rw [hL] at HM hln;rw [hL];have HLN:=A5 hln;clear hn hln hL;go_enter func44,ntmps44;go_wp2_with fail;obtain ⟨cap,hcap⟩:∃ cap,grownCap w n 0 5=cap:=⟨_,rfl⟩;rw [hcap];have HR:=A5 (HM.out cap).1;have HB:=A5 (HM.out cap).2;clear hcv hcap HM;generalize (w.alloc (.cells (bytesRow s cap) 5 ((bytesRow s cap).size,(bytesRow s cap).size+1))).drew=W1 at *;generalize hg:w.heap.size=g at *
 go_loopw [4] (fun i wr=>∃ k:Nat,k<=n/\i=.int .i64 k/\Hid (NS wr g (AW (L.take k)++L.drop k))/\Hid (Below g w wr)) (fun i _=>n-(intOf i).toNat)
 case atStart=>exact ⟨0,Nat.zero_le _,rfl,HR,HB⟩
 case round =>
  obtain ⟨k,hk,rfl,HY,HW⟩:=hrel
  by_cases hlt:k<n
  ·have hkL:k<L.length:=by rw [HLN.out];exact hlt
   have hl2:k<(AW (L.take k)++L.drop k).length:=by rw [z0J,DZ,List.length_take,List.length_drop];omega
   obtain ⟨c,hc⟩:∃ c,L[k]'hkL=c:=⟨_,rfl⟩;have p1:wr.cell? ⟨g,k,none⟩=some (.int .u8 (c.toNat:Int)):=by rw [HY.out.at_ k hl2,lS L k hkL hl2,hc]
   have f1:=HY.out.free k hl2;have hi0:(0:Int)<=(k:Int):=by omega
   have hi1:(k:Int)<(n:Int):=by omega
   by_cases h1:(97:Int)<=(c.toNat:Int)
   ·by_cases h2:(c.toNat:Int)<=122
    ·have d1:decide ((97:Int)<=(c.toNat:Int))=true:=z0H h1;have d2:decide ((c.toNat:Int)<=122)=true:=z0H h2;obtain ⟨x,hx⟩:∃ x:Int,(c.toNat:Int)-32=x:=⟨_,rfl⟩;have hw1:IntKind.u8.wrap ((c.toNat:Int)-32)=x:=by rw [hx];exact IntWalk.u8_in _ (by omega)
     have hux:x=((up c).toNat:Int):=by rw [PM c (by omega) (by omega),lR c (by omega)];omega
     have HN:=A5 ((XF L k hkL c hc)▸HY.out.set k (up c) x hux hl2);have HW2:=A5 (HW.out.setCell (p:=⟨g,k,none⟩) (Nat.le_refl _) (.int .u8 x));clear hux hl2 hc hkL;go_wp2_with fail
     go_roundw
     case rel=>exact ⟨k+1,by omega,by go_num,HN,HW2⟩
     case measure=>simp [intOf];omega
    ·have d1:decide ((97:Int)<=(c.toNat:Int))=true:=z0H h1;have d2:decide ((c.toNat:Int)<=122)=false:=z0G h2;have HN:Hid (NS wr g (AW (L.take (k+1))++L.drop (k+1))):=A5 ((N6 L k hkL c hc (KJ c (by omega)))▸HY.out);clear hl2 hc hkL;go_wp2_with fail
     go_roundw
     case rel=>exact ⟨k+1,by omega,by go_num,HN,HW⟩
     case measure=>simp [intOf];omega
   ·have d1:decide ((97:Int)<=(c.toNat:Int))=false:=z0G h1;have HN:Hid (NS wr g (AW (L.take (k+1))++L.drop (k+1))):=A5 ((N6 L k hkL c hc (KJ c (by omega)))▸HY.out);clear hl2 hc hkL;go_wp2_with fail
    go_roundw
    case rel=>exact ⟨k+1,by omega,by go_num,HN,HW⟩
    case measure=>simp [intOf];omega
  ·obtain rfl:k=n:=by omega
   have e:=dH L;rw [HLN.out] at e;rw [e] at HY;have hcb:=HY.out.conv k cap (by rw [DZ,HLN.out]);clear e;go_wp2_with fail;go_ret;exact ⟨rfl,by rw [hg];exact HW.out⟩
def RN:Option (Tx×Tx)->Value
 | none=>.tuple #[.string (str []),.string (str []),.int .i64 14]
 | some p=>.tuple #[.string (str p.1),.string (str p.2),.int .i64 0]
def A1V (w:World) (p r:Tx) (f:Bool) (e:Ending) (w':World):Prop:=e=.returned (.tuple #[.string (str p),.string (str r),.bool f])/\Below w.heap.size w w'
theorem sA (T:ByteArray) (w:World) (he:Env w) (ht:T.size<=1000000) (h:Lib.index T.data.toList [58]=-1) :
  Calls prog 106 #[.string T,.string (str [58])] w (A1V w T.data.toList [] false):=by
 obtain ⟨m,hm⟩:=he.len;refine (Tryz.strings_Cut T (str [58]) m w (by omega) hm).mono ?_;rintro e w' ⟨rfl,n,rfl⟩;have e2:Lib.cut T.data.toList (str [58]).data.toList=(T.data.toList,[],false):=by
  rw [AD];unfold Lib.cut;rw [h,if_neg (by decide)]
 rw [e2];exact ⟨rfl,AJ (start _) n⟩
theorem sB (T:ByteArray) (w:World) (he:Env w) (ht:T.size<=1000000) (i:Nat) (h:Lib.index T.data.toList [58]=(i:Int)) :
  Calls prog 106 #[.string T,.string (str [58])] w (A1V w (T.data.toList.take i) (T.data.toList.drop (i+1)) true):=by
 obtain ⟨m,hm⟩:=he.len;refine (Tryz.strings_Cut T (str [58]) m w (by omega) hm).mono ?_;rintro e w' ⟨rfl,n,rfl⟩;have e2:Lib.cut T.data.toList (str [58]).data.toList=(T.data.toList.take i,T.data.toList.drop (i+1),true):=by
  rw [AD];unfold Lib.cut;rw [h,if_pos (by omega)];rfl
 rw [e2];exact ⟨rfl,AJ (start _) n⟩
theorem SQ (t r:Tx) (w:World) (ht:t.length<=100000) (h:AW t=r):Calls prog 107 #[.string (str t)] w (Ans w (.string (str r))):=by
 have:=aX (str t) w (by rw [AB];exact ht);rw [AD,h] at this;exact this
theorem mZ (t:Tx) (b:Bool) (w:World) (ht:t.length<=100000) (h:FE t=b):Calls prog 108 #[.string (str t)] w (Ans w (.bool b)) :=
 A1C (str t) b w (by rw [AB];omega) (by rw [AD];exact h)
theorem YE (s:ByteArray) (w:World) (he:Env w) (hs:s.size<=100000) :
  Calls prog 74 #[.string s] w (Ans w (RN (AV s.data.toList))):=by
 rcases iQ 58 s.data.toList with ⟨hi,hm⟩|⟨i,hi,hlt,hm,hc⟩
 ·have HC:=A5 (sA s w he (by omega) hi);have HK:=A5 (fun w=>SQ s.data.toList _ w (by rw [AE];exact hs) rfl);rw [US _ hm];generalize s.data.toList=L at *;generalize AW L=P at *;clear hi hm he hs;unfold RN;go_enter func74,ntmps74;go_wp2_with fail;refine (HC.out).mono ?_;rintro e w1 ⟨rfl,b1⟩;have B1:=A5 b1;clear b1;go_wp2_with fail;refine (HK.out _).mono ?_;rintro e w2 ⟨rfl,b2⟩;have B2:=A5 (andthen B1.out b2);clear b2;go_wp2_with fail;go_ret3;exact ⟨rfl,B2.out⟩
 ·have HC:=A5 (sB s w he (by omega) i hi);have hl:(s.data.toList.take i).length<=100000:=by rw [List.length_take,AE];omega
  obtain ⟨p,hp⟩:∃ p,s.data.toList.take i=p:=⟨_,rfl⟩;obtain ⟨r,hr⟩:∃ r,s.data.toList.drop (i+1)=r:=⟨_,rfl⟩;rw [hp] at HC hm hl;rw [hr] at HC;rw [hp,hr] at hc;have HK:=A5 (fun w=>SQ p _ w hl rfl)
  cases hn:FE (AW p) with
  | true =>
   rw [UT _ p r hc hm hn];have HN:=A5 (fun w=>mZ (AW p) true w (by rw [DZ];exact hl) hn);generalize AW p=P at *;clear hi hlt hm hc hp hr hl hn he hs;unfold RN;go_enter func74,ntmps74;go_wp2_with fail;refine (HC.out).mono ?_;rintro e w1 ⟨rfl,b1⟩;have B1:=A5 b1;clear b1;go_wp2_with fail;refine (HK.out _).mono ?_;rintro e w2 ⟨rfl,b2⟩;have B2:=A5 (andthen B1.out b2);clear b2;go_wp2_with fail;refine (HN.out _).mono ?_;rintro e w3 ⟨rfl,b3⟩;have B3:=A5 (andthen B2.out b3);clear b3;go_wp2_with fail;go_ret3;exact ⟨rfl,B3.out⟩
  | false =>
   rw [XE _ p r hc hm hn];have HN:=A5 (fun w=>mZ (AW p) false w (by rw [DZ];exact hl) hn);generalize AW p=P at *;clear hi hlt hm hc hp hr hl hn he hs;unfold RN;go_enter func74,ntmps74;go_wp2_with fail;refine (HC.out).mono ?_;rintro e w1 ⟨rfl,b1⟩;have B1:=A5 b1;clear b1;go_wp2_with fail;refine (HK.out _).mono ?_;rintro e w2 ⟨rfl,b2⟩;have B2:=A5 (andthen B1.out b2);clear b2;go_wp2_with fail;refine (HN.out _).mono ?_;rintro e w3 ⟨rfl,b3⟩;have B3:=A5 (andthen B2.out b3);clear b3;go_wp2_with fail;go_ret3;exact ⟨rfl,B3.out⟩
theorem IC (s:ByteArray) (o:Option (Tx×Tx)) (w:World) (he:Env w) (hs:s.size<=100000) (h:AV s.data.toList=o) :
  Calls prog 74 #[.string s] w (Ans w (RN o)):=by
 subst h;exact YE s w he hs
theorem sC (a b:ByteArray) (w:World) (ha:a.size<=40000) (hb:b.size<=40000) :
  Calls prog 30 #[.string a,.string b] w (Ans w (.string (str (DT (a.data.toList++58 :: b.data.toList))))):=by
 have h1:(a++str [58]).size<=40001:=by rw [ByteArray.size_append,AB];simp;omega
 have h2:(a++str [58]++b).size<=100000:=by rw [ByteArray.size_append];omega
 have e:(a++str [58]++b).data.toList=a.data.toList++58 :: b.data.toList:=by
  simp [ByteArray.data_append,str]
 have HF:=A5 (gD (a++str [58]++b) w h2);rw [e] at HF;generalize DT (a.data.toList++58 :: b.data.toList)=F at *;clear e h2;go_enter func30,ntmps30;go_wp2_with fail;refine (HF.out).mono ?_;rintro e w1 ⟨rfl,b1⟩;have B1:=A5 b1;clear b1;go_wp2_with fail;go_ret;exact ⟨rfl,B1.out⟩
theorem aY (a b:ByteArray) (r:Tx) (w:World) (ha:a.size<=40000) (hb:b.size<=40000) (h:DT (a.data.toList++58 :: b.data.toList)=r) :
  Calls prog 30 #[.string a,.string b] w (Ans w (.string (str r))):=by
 subst h;exact sC a b w ha hb
end Go.Proofs.YtfecnkhoojnkbaaGreatDoor

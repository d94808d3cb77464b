import Derived.Test.YtfecnkhoojnkbaaGreatDoorXW2
set_option maxHeartbeats 8000000
set_option maxRecDepth 1000000
namespace Go.Proofs.YtfecnkhoojnkbaaGreatDoor.R
open Go.RowKit Rul Go.Sort Tryz
theorem DE (w:World) :
  Calls prog 14 #[] w (Ans w (.agg #[.int .i64 0,.int .i64 0,.int .i64 0,.int .i64 (-1),.slice none 0 0,.slice none 0 0,.slice none 0 0])):=by
 go_enter func14,ntmps14;go_wp2_with fail;exact bodyPost_ret (v:=.agg #[.int .i64 0,.int .i64 0,.int .i64 0,.int .i64 (-1),.slice none 0 0,.slice none 0 0,.slice none 0 0]) (by simp [results,Tryz.results14,go_sem]) rfl ⟨rfl,more (start _) _⟩
theorem A0s (a b:Wd) (h:decide (a.1<b.1)=true):BO a b=true:=by unfold BO;rw [decide_eq_true_eq] at *;exact Or.inl h
theorem A0t (a b:Wd) (h:decide (a.1<b.1)=false) (h2:(a.1==b.1)=false):BO a b=false:=by
 unfold BO;rw [decide_eq_false_iff_not] at *;rw [beq_eq_false_iff_ne] at h2;intro hc;rcases hc with g|g
 ·exact h g
 ·exact h2 g.1
theorem A0u (a b:Wd) (_h:decide (a.1<b.1)=false) (h2:(a.1==b.1)=true):BO a b=decide (a.2<b.2):=by
 unfold BO;rw [beq_iff_eq] at h2;simp [h2]
theorem V8 (x y u v:Int) (w:World) :
  Calls prog 99 #[.agg #[.int .i64 x,.int .i64 y],.agg #[.int .i64 u,.int .i64 v]] w (Ans w (.bool (BO (x,y) (u,v)))):=by
 cases h1:decide (x<u)
 ·cases h2:(x==u)
  ·have e:=A5 (A0t (x,y) (u,v) h1 h2);go_enter func99,ntmps99;go_wp2_with fail;go_ret;exact ⟨AA (by rw [e.out]),more (more (start _) _) _⟩
  ·have e:=A5 (A0u (x,y) (u,v) h1 h2);go_enter func99,ntmps99;go_wp2_with fail;go_ret;exact ⟨AA (by rw [e.out]),more (more (start _) _) _⟩
 ·have e:=A5 (A0s (x,y) (u,v) h1);go_enter func99,ntmps99;go_wp2_with fail;go_ret;exact ⟨AA (by rw [e.out]),more (more (start _) _) _⟩
def II (lo hi n:Int):Bool:=btw lo n hi&&(n != 0)
def E6 (b:Bool) (w:Wd):Bool:=EF w&&(b||decide (w.1=0))
theorem wI (lo hi n:Int) (h:decide (n<lo)=true):II lo hi n=false:=by unfold II;rw [(JU lo n hi).2 (by rw [decide_eq_true_eq] at h;omega)];rfl
theorem wJ (lo hi n:Int) (h:decide (hi<n)=true):II lo hi n=false:=by unfold II;rw [(JU lo n hi).2 (by rw [decide_eq_true_eq] at h;omega)];rfl
theorem A0v (lo hi n:Int) (h:(n==0)=true):II lo hi n=false:=by unfold II;rw [bne,h,Bool.not_true,Bool.and_false]
theorem wK (lo hi n:Int) (h1:decide (n<lo)=false) (h2:decide (hi<n)=false) (h3:(n==0)=false):II lo hi n=true:=by
 unfold II;rw [bne,h3,(AY lo n hi).2 (by rw [decide_eq_false_iff_not] at h1 h2;omega)];rfl
theorem XR {α:Type} (p:α->Bool) (lt:α->α->Bool) (d:α) (l:List α) (h:∀ i,i<l.length->F0 p lt d l i=true):C0 p lt d l=decide (l.length<=12):=by
 unfold C0;rw [(GG p lt d l).2 h,Bool.and_true]
theorem B7 (A:Option Addr) (n c:Nat) (l:List Int) (lo hi:Int) (w:World) (hl:BS w A l) (hn:n=l.length) (hsz:l.length<=10000) :
  Calls prog 63 #[.slice A n c,.int .i64 lo,.int .i64 hi] w (Ans w (.bool (FX l lo hi))):=by
 subst hn
 by_cases hnil:l=[]
 ·subst hnil;go_enter func63,ntmps63;go_wp2_with fail;refine wp_loop_rounds 1 ?_;rw [rounds_succ];go_wp2_with fail;go_ret;exact ⟨rfl,start _⟩
 ·obtain ⟨b1,o1,rfl,hb1,hc1⟩:=hl hnil;have HC1:=A5 hc1;clear hl hc1 hnil;go_enter func63,ntmps63;go_wp2_with fail
  go_loopw [7] (fun i wr=>∃ j:Nat,j<=l.length/\i=.int .i64 j/\(∀ i,i<j->F0 (II lo hi) AI 0 l i=true)/\Below w.heap.size w wr) (fun i _=>l.length-(intOf i).toNat)
  case atStart=>exact ⟨0,Nat.zero_le _,rfl,fun i h=>absurd h (Nat.not_lt_zero _),start _⟩
  case round =>
   obtain ⟨j,hj,rfl,heq,hbw⟩:=hrel;have HE:=A5 heq;clear heq
   by_cases hlt:j<l.length
   ·have p1:wr.cell? ⟨b1,o1+j,none⟩=some (.int .i64 l[j]):=(hbw.cell (p:=⟨b1,_,none⟩) hb1).trans (HC1.out j hlt);have hi0:(0:Int)<=(j:Int):=by omega
    have hi1:(j:Int)<(l.length:Int):=by omega
    cases k1:decide (l[j]<lo)
    ·cases k2:decide (hi<l[j])
     ·cases k3:(l[j]==0)
      ·have hq:=wK lo hi l[j] k1 k2 k3;rcases Nat.eq_zero_or_pos j with hz|hz
       ·subst hz;replace p1:wr.cell? ⟨b1,o1,none⟩=some (.int .i64 l[0]):=p1;have HN:=A5 (CL (II lo hi) AI 0 l 0 HE.out (by rw [I1 _ _ _ _ hlt];exact hq));have g1:decide ((0:Int)<((0:Nat):Int))=false:=rfl;have g0:¬ (0:Int)<((0:Nat):Int):=by omega
        clear hq;go_wp2_with fail;go_quiet (fail);go_wp2_with fail
        go_roundw
        case rel=>exact ⟨1,by omega,by go_num,HN.out,AJ hbw _⟩
        case measure=>simp [intOf];omega
       ·obtain ⟨m,rfl⟩:∃ m,j=m+1:=⟨j-1,by omega⟩;have hlm:m<l.length:=Nat.lt_of_succ_lt hlt;have p0:wr.cell? ⟨b1,o1+m,none⟩=some (.int .i64 l[m]):=(hbw.cell (p:=⟨b1,_,none⟩) hb1).trans (HC1.out m hlm);have g0:(0:Int)<((m+1:Nat):Int):=by omega
        have g1:decide ((0:Int)<((m+1:Nat):Int))=true:=z0H g0;have g2:((m+1:Nat):Int)-1=(m:Int):=by omega
        have g3:(0:Int)<=(m:Int):=by omega
        have g4:(m:Int)<(l.length:Int):=by omega
        have hs:=DP (II lo hi) AI 0 l m hlt;rw [hq,Bool.true_and] at hs;have hin:decide (l[m+1]<=l[m])=!AI l[m] l[m+1]:=by
         unfold AI
         by_cases h:l[m]<l[m+1]
         ·rw [z0H h,z0G (by omega)];rfl
         ·rw [z0G h,z0H (by omega)];rfl
        clear hq
        cases hc:AI l[m] l[m+1]
        ·rw [hc] at hs hin;replace hin:decide (l[m+1]<=l[m])=true:=hin;have HN:=A5 (show FX l lo hi=false from DC (II lo hi) AI 0 l (m+1) hlt hs);go_wp2_with fail;go_quiet (fail);go_wp2_with fail;go_ret;exact ⟨AA (by rw [HN.out]),AJ hbw _⟩
        ·rw [hc] at hs hin;replace hin:decide (l[m+1]<=l[m])=false:=hin;have HN:=A5 (CL (II lo hi) AI 0 l (m+1) HE.out hs);clear hs hc;go_wp2_with fail;go_quiet (fail);go_wp2_with fail
         go_roundw
         case rel=>exact ⟨m+1+1,by omega,by go_num,HN.out,AJ hbw _⟩
         case measure=>simp [intOf];omega
      ·have HN:=A5 (show FX l lo hi=false from DC (II lo hi) AI 0 l j hlt (EW _ _ _ _ _ hlt (A0v lo hi l[j] k3)));go_wp2_with fail;go_quiet (fail);go_wp2_with fail;go_ret;exact ⟨AA (by rw [HN.out]),AJ hbw _⟩
     ·have HN:=A5 (show FX l lo hi=false from DC (II lo hi) AI 0 l j hlt (EW _ _ _ _ _ hlt (wJ lo hi l[j] k2)));go_wp2_with fail;go_quiet (fail);go_wp2_with fail;go_ret;exact ⟨AA (by rw [HN.out]),AJ hbw _⟩
    ·have HN:=A5 (show FX l lo hi=false from DC (II lo hi) AI 0 l j hlt (EW _ _ _ _ _ hlt (wI lo hi l[j] k1)));go_wp2_with fail;go_quiet (fail);go_wp2_with fail;go_ret;exact ⟨AA (by rw [HN.out]),AJ hbw _⟩
   ·obtain rfl:j=l.length:=by omega
    have HF:=A5 (show FX l lo hi=decide (l.length<=12) from XR (II lo hi) AI 0 l HE.out);have hcast:decide ((l.length:Int)<=12)=decide (l.length<=12):=by
     by_cases h:l.length<=12
     ·rw [z0H h,z0H (by omega)]
     ·rw [z0G h,z0G (by omega)]
    have HX:=A5 hcast;clear hcast;go_wp2_with fail;go_ret;exact ⟨AA (by rw [HF.out];try exact HX.out),hbw⟩
end Go.Proofs.YtfecnkhoojnkbaaGreatDoor.R
namespace Go.Proofs.YtfecnkhoojnkbaaGreatDoor.R
open Go.RowKit Rul Go.Sort Tryz
theorem A0w (b:Bool) (w:Wd) (h:decide (w.2<0)=true):E6 b w=false:=by
 unfold E6 EF;rw [(JU 0 w.2 6).2 (by rw [decide_eq_true_eq] at h;omega),Bool.and_false];rfl
theorem A0x (b:Bool) (w:Wd) (h:decide (6<w.2)=true):E6 b w=false:=by
 unfold E6 EF;rw [(JU 0 w.2 6).2 (by rw [decide_eq_true_eq] at h;omega),Bool.and_false];rfl
theorem A0y (b:Bool) (w:Wd) (h:decide (w.1 < -5)=true):E6 b w=false:=by
 unfold E6 EF;rw [(JU (-5) w.1 5).2 (by rw [decide_eq_true_eq] at h;omega)];rfl
theorem A0z (b:Bool) (w:Wd) (h:decide (5<w.1)=true):E6 b w=false:=by
 unfold E6 EF;rw [(JU (-5) w.1 5).2 (by rw [decide_eq_true_eq] at h;omega)];rfl
theorem A0A (w:Wd) (h:(w.1 != 0)=true):E6 false w=false:=by
 unfold E6;rw [bne_iff_ne] at h;rw [z0G h];simp
theorem eC (w:Wd) (h1:decide (w.2<0)=false) (h2:decide (6<w.2)=false) (h3:decide (w.1 < -5)=false) (h4:decide (5<w.1)=false):EF w=true:=by
 rw [decide_eq_false_iff_not] at *;unfold EF;rw [(AY _ _ _).2 (by omega),(AY _ _ _).2 (by omega)];rfl
theorem A0B (b:Bool) (w:Wd) (h1:decide (w.2<0)=false) (h2:decide (6<w.2)=false) (h3:decide (w.1 < -5)=false) (h4:decide (5<w.1)=false) (h5:(w.1 != 0)=false):E6 b w=true:=by
 unfold E6;rw [eC w h1 h2 h3 h4,z0H (by simpa using h5)];simp
theorem A0C (w:Wd) (h1:decide (w.2<0)=false) (h2:decide (6<w.2)=false) (h3:decide (w.1 < -5)=false) (h4:decide (5<w.1)=false):E6 true w=true:=by
 unfold E6;rw [eC w h1 h2 h3 h4];rfl
theorem K0 (a b:Wd) (c:Bool) (w:World) (h:BO a b=c) :
  Calls prog 99 #[.agg #[.int .i64 a.1,.int .i64 a.2],.agg #[.int .i64 b.1,.int .i64 b.2]] w (Ans w (.bool c)):=by subst h;exact V8 _ _ _ _ w
theorem CU (A:Option Addr) (n c:Nat) (l:List Wd) (b:Bool) (w:World) (hl:EL w A l) (hn:n=l.length) (hsz:l.length<=10000) :
  Calls prog 62 #[.slice A n c,.bool b] w (Ans w (.bool (DL l b))):=by
 subst hn
 by_cases hnil:l=[]
 ·subst hnil;go_enter func62,ntmps62;go_wp2_with fail;refine wp_loop_rounds 1 ?_;rw [rounds_succ];go_wp2_with fail;go_ret;exact ⟨rfl,start _⟩
 ·obtain ⟨b1,o1,rfl,hb1,hc1⟩:=hl hnil;have HC1:=A5 hc1;clear hl hc1 hnil;go_enter func62,ntmps62;go_wp2_with fail
  go_loopw [5] (fun i wr=>∃ j:Nat,j<=l.length/\i=.int .i64 j/\(∀ i,i<j->F0 (E6 b) BO (0,0) l i=true)/\Below w.heap.size w wr) (fun i _=>l.length-(intOf i).toNat)
  case atStart=>exact ⟨0,Nat.zero_le _,rfl,fun i h=>absurd h (Nat.not_lt_zero _),start _⟩
  case round =>
   obtain ⟨j,hj,rfl,heq,hbw⟩:=hrel;have HE:=A5 heq;clear heq
   by_cases hlt:j<l.length
   ·have p1:wr.cell? ⟨b1,o1+j*2,none⟩=some (.int .i64 l[j].1):=(hbw.cell (p:=⟨b1,_,none⟩) hb1).trans (HC1.out j hlt).1;have p1':wr.cell? ⟨b1,o1+j*2+1,none⟩=some (.int .i64 l[j].2):=(hbw.cell (p:=⟨b1,_,none⟩) hb1).trans (HC1.out j hlt).2;have hi0:(0:Int)<=(j:Int):=by omega
    have hi1:(j:Int)<(l.length:Int):=by omega
    cases k1:decide (l[j].2<0)
    ·cases k2:decide (6<l[j].2)
     ·cases k3:decide (l[j].1 < -5)
      ·cases k4:decide (5<l[j].1)
       ·cases k5:(l[j].1 != 0)
        ·have hq:=A0B b l[j] k1 k2 k3 k4 k5;rcases Nat.eq_zero_or_pos j with hz|hz
         ·subst hz;replace p1:wr.cell? ⟨b1,o1,none⟩=some (.int .i64 l[0].1):=by simpa using p1
          replace p1':wr.cell? ⟨b1,o1+1,none⟩=some (.int .i64 l[0].2):=by simpa using p1'
          have HN:=A5 (CL (E6 b) BO (0,0) l 0 HE.out (by rw [I1 _ _ _ _ hlt];exact hq));have g1:decide ((0:Int)<((0:Nat):Int))=false:=rfl;have g0:¬ (0:Int)<((0:Nat):Int):=by omega
          clear hq;go_wp2_with fail;have hbx:=more hbw (.cells #[.int .i64 l[0].1,.int .i64 l[0].2] 114);have x0:(wr.alloc (.cells #[.int .i64 l[0].1,.int .i64 l[0].2] 114)).cell? ⟨wr.heap.size,0,none⟩=some (.int .i64 l[0].1):=by rw [World.cell?_alloc_at _ _ _ _ rfl];rfl
          have x1:(wr.alloc (.cells #[.int .i64 l[0].1,.int .i64 l[0].2] 114)).cell? ⟨wr.heap.size,1,none⟩=some (.int .i64 l[0].2):=by rw [World.cell?_alloc_at _ _ _ _ rfl];rfl
          generalize wr.alloc (.cells #[.int .i64 l[0].1,.int .i64 l[0].2] 114)=W at *;generalize wr.heap.size=X at *;have f0:=fun d os=>cell_regrown x0 d os
          have f1:=fun d os=>cell_regrown x1 d os
          clear x0 x1 p1 p1';refine wp_region_quiet_below (by kernel_rfl) (by kernel_rfl) ?_
          repeat (first|go_big_quiet_step ((first|(fail)))|quiet_step ((first|(fail))))
          refine wpQuiet_nil ?_;intro _ hw';obtain ⟨⟨nq,osq⟩,hw''⟩:=hw';subst hw'';replace hbw:=hbx.trans ((below_regrown W nq osq).mono hbx.size);clear hbx;generalize grow (redrawn W nq) osq=W2 at *;go_wp2_with fail
          go_roundw
          case rel=>exact ⟨1,by omega,by go_num,HN.out,hbw⟩
          case measure=>simp [intOf];omega
         ·obtain ⟨m,rfl⟩:∃ m,j=m+1:=⟨j-1,by omega⟩;have hlm:m<l.length:=Nat.lt_of_succ_lt hlt;have p0:wr.cell? ⟨b1,o1+m*2,none⟩=some (.int .i64 l[m].1):=(hbw.cell (p:=⟨b1,_,none⟩) hb1).trans (HC1.out m hlm).1;have p0':wr.cell? ⟨b1,o1+m*2+1,none⟩=some (.int .i64 l[m].2):=(hbw.cell (p:=⟨b1,_,none⟩) hb1).trans (HC1.out m hlm).2;have g0:(0:Int)<((m+1:Nat):Int):=by omega
          have g1:decide ((0:Int)<((m+1:Nat):Int))=true:=z0H g0;have g2:((m+1:Nat):Int)-1=(m:Int):=by omega
          have g3:(0:Int)<=(m:Int):=by omega
          have g4:(m:Int)<(l.length:Int):=by omega
          have hs:=DP (E6 b) BO (0,0) l m hlt;rw [hq,Bool.true_and] at hs;clear hq
          cases hc:BO l[m] l[m+1]
          ·rw [hc] at hs;have HV:=A5 hc;have HN:=A5 (show DL l b=false from DC (E6 b) BO (0,0) l (m+1) hlt hs);clear hs hc;go_wp2_with fail;have hbx:=more hbw (.cells #[.int .i64 l[m+1].1,.int .i64 l[m+1].2] 114);have x0:(wr.alloc (.cells #[.int .i64 l[m+1].1,.int .i64 l[m+1].2] 114)).cell? ⟨wr.heap.size,0,none⟩=some (.int .i64 l[m+1].1):=by rw [World.cell?_alloc_at _ _ _ _ rfl];rfl
           have x1:(wr.alloc (.cells #[.int .i64 l[m+1].1,.int .i64 l[m+1].2] 114)).cell? ⟨wr.heap.size,1,none⟩=some (.int .i64 l[m+1].2):=by rw [World.cell?_alloc_at _ _ _ _ rfl];rfl
           have q0:=A9 (more (start wr) (.cells #[.int .i64 l[m+1].1,.int .i64 l[m+1].2] 114)) p0;have q0':=A9 (more (start wr) (.cells #[.int .i64 l[m+1].1,.int .i64 l[m+1].2] 114)) p0';generalize wr.alloc (.cells #[.int .i64 l[m+1].1,.int .i64 l[m+1].2] 114)=W at *;generalize wr.heap.size=X at *;have f0:=fun d os=>cell_regrown x0 d os
           have f1:=fun d os=>cell_regrown x1 d os
           have f2:=fun d os=>cell_regrown q0 d os
           have f3:=fun d os=>cell_regrown q0' d os
           clear x0 x1 p1 p1' q0 q0' p0 p0';refine wp_region_quiet_below (by kernel_rfl) (by kernel_rfl) ?_
           repeat (first|go_big_quiet_step ((first|(go_at_call 99;exact Calls.regrown_of (K0 l[m] l[m+1] _ _ HV.out))))|quiet_step ((first|(go_at_call 99;exact Calls.regrown_of (K0 l[m] l[m+1] _ _ HV.out)))))
           refine wpQuiet_nil ?_;intro _ hw';obtain ⟨⟨nq,osq⟩,hw''⟩:=hw';subst hw'';replace hbw:=hbx.trans ((below_regrown W nq osq).mono hbx.size);clear hbx;generalize grow (redrawn W nq) osq=W2 at *;go_wp2_with fail;go_ret;exact ⟨AA (by rw [HN.out]),hbw⟩
          ·rw [hc] at hs;have HV:=A5 hc;have HN:=A5 (CL (E6 b) BO (0,0) l (m+1) HE.out hs);clear hs hc;go_wp2_with fail;have hbx:=more hbw (.cells #[.int .i64 l[m+1].1,.int .i64 l[m+1].2] 114);have x0:(wr.alloc (.cells #[.int .i64 l[m+1].1,.int .i64 l[m+1].2] 114)).cell? ⟨wr.heap.size,0,none⟩=some (.int .i64 l[m+1].1):=by rw [World.cell?_alloc_at _ _ _ _ rfl];rfl
           have x1:(wr.alloc (.cells #[.int .i64 l[m+1].1,.int .i64 l[m+1].2] 114)).cell? ⟨wr.heap.size,1,none⟩=some (.int .i64 l[m+1].2):=by rw [World.cell?_alloc_at _ _ _ _ rfl];rfl
           have q0:=A9 (more (start wr) (.cells #[.int .i64 l[m+1].1,.int .i64 l[m+1].2] 114)) p0;have q0':=A9 (more (start wr) (.cells #[.int .i64 l[m+1].1,.int .i64 l[m+1].2] 114)) p0';generalize wr.alloc (.cells #[.int .i64 l[m+1].1,.int .i64 l[m+1].2] 114)=W at *;generalize wr.heap.size=X at *;have f0:=fun d os=>cell_regrown x0 d os
           have f1:=fun d os=>cell_regrown x1 d os
           have f2:=fun d os=>cell_regrown q0 d os
           have f3:=fun d os=>cell_regrown q0' d os
           clear x0 x1 p1 p1' q0 q0' p0 p0';refine wp_region_quiet_below (by kernel_rfl) (by kernel_rfl) ?_
           repeat (first|go_big_quiet_step ((first|(go_at_call 99;exact Calls.regrown_of (K0 l[m] l[m+1] _ _ HV.out))))|quiet_step ((first|(go_at_call 99;exact Calls.regrown_of (K0 l[m] l[m+1] _ _ HV.out)))))
           refine wpQuiet_nil ?_;intro _ hw';obtain ⟨⟨nq,osq⟩,hw''⟩:=hw';subst hw'';replace hbw:=hbx.trans ((below_regrown W nq osq).mono hbx.size);clear hbx;generalize grow (redrawn W nq) osq=W2 at *;go_wp2_with fail
           go_roundw
           case rel=>exact ⟨m+1+1,by omega,by go_num,HN.out,hbw⟩
           case measure=>simp [intOf];omega
        ·cases b
         ·have HN:=A5 (show DL l false=false from DC (E6 false) BO (0,0) l j hlt (EW _ _ _ _ _ hlt (A0A l[j] k5)));go_wp2_with fail;have hbx:=more hbw (.cells #[.int .i64 l[j].1,.int .i64 l[j].2] 114);have x0:(wr.alloc (.cells #[.int .i64 l[j].1,.int .i64 l[j].2] 114)).cell? ⟨wr.heap.size,0,none⟩=some (.int .i64 l[j].1):=by rw [World.cell?_alloc_at _ _ _ _ rfl];rfl
          have x1:(wr.alloc (.cells #[.int .i64 l[j].1,.int .i64 l[j].2] 114)).cell? ⟨wr.heap.size,1,none⟩=some (.int .i64 l[j].2):=by rw [World.cell?_alloc_at _ _ _ _ rfl];rfl
          generalize wr.alloc (.cells #[.int .i64 l[j].1,.int .i64 l[j].2] 114)=W at *;generalize wr.heap.size=X at *;have f0:=fun d os=>cell_regrown x0 d os
          have f1:=fun d os=>cell_regrown x1 d os
          clear x0 x1 p1 p1';refine wp_region_quiet_below (by kernel_rfl) (by kernel_rfl) ?_
          repeat (first|go_big_quiet_step ((first|(fail)))|quiet_step ((first|(fail))))
          refine wpQuiet_nil ?_;intro _ hw';obtain ⟨⟨nq,osq⟩,hw''⟩:=hw';subst hw'';replace hbw:=hbx.trans ((below_regrown W nq osq).mono hbx.size);clear hbx;generalize grow (redrawn W nq) osq=W2 at *;go_wp2_with fail;go_ret;exact ⟨AA (by rw [HN.out]),hbw⟩
         ·have hq:=A0C l[j] k1 k2 k3 k4;rcases Nat.eq_zero_or_pos j with hz|hz
          ·subst hz;replace p1:wr.cell? ⟨b1,o1,none⟩=some (.int .i64 l[0].1):=by simpa using p1
           replace p1':wr.cell? ⟨b1,o1+1,none⟩=some (.int .i64 l[0].2):=by simpa using p1'
           have HN:=A5 (CL (E6 true) BO (0,0) l 0 HE.out (by rw [I1 _ _ _ _ hlt];exact hq));have g1:decide ((0:Int)<((0:Nat):Int))=false:=rfl;have g0:¬ (0:Int)<((0:Nat):Int):=by omega
           clear hq;go_wp2_with fail;have hbx:=more hbw (.cells #[.int .i64 l[0].1,.int .i64 l[0].2] 114);have x0:(wr.alloc (.cells #[.int .i64 l[0].1,.int .i64 l[0].2] 114)).cell? ⟨wr.heap.size,0,none⟩=some (.int .i64 l[0].1):=by rw [World.cell?_alloc_at _ _ _ _ rfl];rfl
           have x1:(wr.alloc (.cells #[.int .i64 l[0].1,.int .i64 l[0].2] 114)).cell? ⟨wr.heap.size,1,none⟩=some (.int .i64 l[0].2):=by rw [World.cell?_alloc_at _ _ _ _ rfl];rfl
           generalize wr.alloc (.cells #[.int .i64 l[0].1,.int .i64 l[0].2] 114)=W at *;generalize wr.heap.size=X at *;have f0:=fun d os=>cell_regrown x0 d os
           have f1:=fun d os=>cell_regrown x1 d os
           clear x0 x1 p1 p1';refine wp_region_quiet_below (by kernel_rfl) (by kernel_rfl) ?_
           repeat (first|go_big_quiet_step ((first|(fail)))|quiet_step ((first|(fail))))
           refine wpQuiet_nil ?_;intro _ hw';obtain ⟨⟨nq,osq⟩,hw''⟩:=hw';subst hw'';replace hbw:=hbx.trans ((below_regrown W nq osq).mono hbx.size);clear hbx;generalize grow (redrawn W nq) osq=W2 at *;go_wp2_with fail
           go_roundw
           case rel=>exact ⟨1,by omega,by go_num,HN.out,hbw⟩
           case measure=>simp [intOf];omega
          ·obtain ⟨m,rfl⟩:∃ m,j=m+1:=⟨j-1,by omega⟩;have hlm:m<l.length:=Nat.lt_of_succ_lt hlt;have p0:wr.cell? ⟨b1,o1+m*2,none⟩=some (.int .i64 l[m].1):=(hbw.cell (p:=⟨b1,_,none⟩) hb1).trans (HC1.out m hlm).1;have p0':wr.cell? ⟨b1,o1+m*2+1,none⟩=some (.int .i64 l[m].2):=(hbw.cell (p:=⟨b1,_,none⟩) hb1).trans (HC1.out m hlm).2;have g0:(0:Int)<((m+1:Nat):Int):=by omega
           have g1:decide ((0:Int)<((m+1:Nat):Int))=true:=z0H g0;have g2:((m+1:Nat):Int)-1=(m:Int):=by omega
           have g3:(0:Int)<=(m:Int):=by omega
           have g4:(m:Int)<(l.length:Int):=by omega
           have hs:=DP (E6 true) BO (0,0) l m hlt;rw [hq,Bool.true_and] at hs;clear hq
           cases hc:BO l[m] l[m+1]
           ·rw [hc] at hs;have HV:=A5 hc;have HN:=A5 (show DL l true=false from DC (E6 true) BO (0,0) l (m+1) hlt hs);clear hs hc;go_wp2_with fail;have hbx:=more hbw (.cells #[.int .i64 l[m+1].1,.int .i64 l[m+1].2] 114);have x0:(wr.alloc (.cells #[.int .i64 l[m+1].1,.int .i64 l[m+1].2] 114)).cell? ⟨wr.heap.size,0,none⟩=some (.int .i64 l[m+1].1):=by rw [World.cell?_alloc_at _ _ _ _ rfl];rfl
            have x1:(wr.alloc (.cells #[.int .i64 l[m+1].1,.int .i64 l[m+1].2] 114)).cell? ⟨wr.heap.size,1,none⟩=some (.int .i64 l[m+1].2):=by rw [World.cell?_alloc_at _ _ _ _ rfl];rfl
            have q0:=A9 (more (start wr) (.cells #[.int .i64 l[m+1].1,.int .i64 l[m+1].2] 114)) p0;have q0':=A9 (more (start wr) (.cells #[.int .i64 l[m+1].1,.int .i64 l[m+1].2] 114)) p0';generalize wr.alloc (.cells #[.int .i64 l[m+1].1,.int .i64 l[m+1].2] 114)=W at *;generalize wr.heap.size=X at *;have f0:=fun d os=>cell_regrown x0 d os
            have f1:=fun d os=>cell_regrown x1 d os
            have f2:=fun d os=>cell_regrown q0 d os
            have f3:=fun d os=>cell_regrown q0' d os
            clear x0 x1 p1 p1' q0 q0' p0 p0';refine wp_region_quiet_below (by kernel_rfl) (by kernel_rfl) ?_
            repeat (first|go_big_quiet_step ((first|(go_at_call 99;exact Calls.regrown_of (K0 l[m] l[m+1] _ _ HV.out))))|quiet_step ((first|(go_at_call 99;exact Calls.regrown_of (K0 l[m] l[m+1] _ _ HV.out)))))
            refine wpQuiet_nil ?_;intro _ hw';obtain ⟨⟨nq,osq⟩,hw''⟩:=hw';subst hw'';replace hbw:=hbx.trans ((below_regrown W nq osq).mono hbx.size);clear hbx;generalize grow (redrawn W nq) osq=W2 at *;go_wp2_with fail;go_ret;exact ⟨AA (by rw [HN.out]),hbw⟩
           ·rw [hc] at hs;have HV:=A5 hc;have HN:=A5 (CL (E6 true) BO (0,0) l (m+1) HE.out hs);clear hs hc;go_wp2_with fail;have hbx:=more hbw (.cells #[.int .i64 l[m+1].1,.int .i64 l[m+1].2] 114);have x0:(wr.alloc (.cells #[.int .i64 l[m+1].1,.int .i64 l[m+1].2] 114)).cell? ⟨wr.heap.size,0,none⟩=some (.int .i64 l[m+1].1):=by rw [World.cell?_alloc_at _ _ _ _ rfl];rfl
            have x1:(wr.alloc (.cells #[.int .i64 l[m+1].1,.int .i64 l[m+1].2] 114)).cell? ⟨wr.heap.size,1,none⟩=some (.int .i64 l[m+1].2):=by rw [World.cell?_alloc_at _ _ _ _ rfl];rfl
            have q0:=A9 (more (start wr) (.cells #[.int .i64 l[m+1].1,.int .i64 l[m+1].2] 114)) p0;have q0':=A9 (more (start wr) (.cells #[.int .i64 l[m+1].1,.int .i64 l[m+1].2] 114)) p0';generalize wr.alloc (.cells #[.int .i64 l[m+1].1,.int .i64 l[m+1].2] 114)=W at *;generalize wr.heap.size=X at *;have f0:=fun d os=>cell_regrown x0 d os
            have f1:=fun d os=>cell_regrown x1 d os
            have f2:=fun d os=>cell_regrown q0 d os
            have f3:=fun d os=>cell_regrown q0' d os
            clear x0 x1 p1 p1' q0 q0' p0 p0';refine wp_region_quiet_below (by kernel_rfl) (by kernel_rfl) ?_
            repeat (first|go_big_quiet_step ((first|(go_at_call 99;exact Calls.regrown_of (K0 l[m] l[m+1] _ _ HV.out))))|quiet_step ((first|(go_at_call 99;exact Calls.regrown_of (K0 l[m] l[m+1] _ _ HV.out)))))
            refine wpQuiet_nil ?_;intro _ hw';obtain ⟨⟨nq,osq⟩,hw''⟩:=hw';subst hw'';replace hbw:=hbx.trans ((below_regrown W nq osq).mono hbx.size);clear hbx;generalize grow (redrawn W nq) osq=W2 at *;go_wp2_with fail
            go_roundw
            case rel=>exact ⟨m+1+1,by omega,by go_num,HN.out,hbw⟩
            case measure=>simp [intOf];omega
       ·have HN:=A5 (show DL l b=false from DC (E6 b) BO (0,0) l j hlt (EW _ _ _ _ _ hlt (A0z b l[j] k4)));go_wp2_with fail;have hbx:=more hbw (.cells #[.int .i64 l[j].1,.int .i64 l[j].2] 114);have x0:(wr.alloc (.cells #[.int .i64 l[j].1,.int .i64 l[j].2] 114)).cell? ⟨wr.heap.size,0,none⟩=some (.int .i64 l[j].1):=by rw [World.cell?_alloc_at _ _ _ _ rfl];rfl
        have x1:(wr.alloc (.cells #[.int .i64 l[j].1,.int .i64 l[j].2] 114)).cell? ⟨wr.heap.size,1,none⟩=some (.int .i64 l[j].2):=by rw [World.cell?_alloc_at _ _ _ _ rfl];rfl
        generalize wr.alloc (.cells #[.int .i64 l[j].1,.int .i64 l[j].2] 114)=W at *;generalize wr.heap.size=X at *;have f0:=fun d os=>cell_regrown x0 d os
        have f1:=fun d os=>cell_regrown x1 d os
        clear x0 x1 p1 p1';refine wp_region_quiet_below (by kernel_rfl) (by kernel_rfl) ?_
        repeat (first|go_big_quiet_step ((first|(fail)))|quiet_step ((first|(fail))))
        refine wpQuiet_nil ?_;intro _ hw';obtain ⟨⟨nq,osq⟩,hw''⟩:=hw';subst hw'';replace hbw:=hbx.trans ((below_regrown W nq osq).mono hbx.size);clear hbx;generalize grow (redrawn W nq) osq=W2 at *;go_wp2_with fail;go_ret;exact ⟨AA (by rw [HN.out]),hbw⟩
      ·have HN:=A5 (show DL l b=false from DC (E6 b) BO (0,0) l j hlt (EW _ _ _ _ _ hlt (A0y b l[j] k3)));go_wp2_with fail;have hbx:=more hbw (.cells #[.int .i64 l[j].1,.int .i64 l[j].2] 114);have x0:(wr.alloc (.cells #[.int .i64 l[j].1,.int .i64 l[j].2] 114)).cell? ⟨wr.heap.size,0,none⟩=some (.int .i64 l[j].1):=by rw [World.cell?_alloc_at _ _ _ _ rfl];rfl
       have x1:(wr.alloc (.cells #[.int .i64 l[j].1,.int .i64 l[j].2] 114)).cell? ⟨wr.heap.size,1,none⟩=some (.int .i64 l[j].2):=by rw [World.cell?_alloc_at _ _ _ _ rfl];rfl
       generalize wr.alloc (.cells #[.int .i64 l[j].1,.int .i64 l[j].2] 114)=W at *;generalize wr.heap.size=X at *;have f0:=fun d os=>cell_regrown x0 d os
       have f1:=fun d os=>cell_regrown x1 d os
       clear x0 x1 p1 p1';refine wp_region_quiet_below (by kernel_rfl) (by kernel_rfl) ?_
       repeat (first|go_big_quiet_step ((first|(fail)))|quiet_step ((first|(fail))))
       refine wpQuiet_nil ?_;intro _ hw';obtain ⟨⟨nq,osq⟩,hw''⟩:=hw';subst hw'';replace hbw:=hbx.trans ((below_regrown W nq osq).mono hbx.size);clear hbx;generalize grow (redrawn W nq) osq=W2 at *;go_wp2_with fail;go_ret;exact ⟨AA (by rw [HN.out]),hbw⟩
     ·have HN:=A5 (show DL l b=false from DC (E6 b) BO (0,0) l j hlt (EW _ _ _ _ _ hlt (A0x b l[j] k2)));go_wp2_with fail;have hbx:=more hbw (.cells #[.int .i64 l[j].1,.int .i64 l[j].2] 114);have x0:(wr.alloc (.cells #[.int .i64 l[j].1,.int .i64 l[j].2] 114)).cell? ⟨wr.heap.size,0,none⟩=some (.int .i64 l[j].1):=by rw [World.cell?_alloc_at _ _ _ _ rfl];rfl
      have x1:(wr.alloc (.cells #[.int .i64 l[j].1,.int .i64 l[j].2] 114)).cell? ⟨wr.heap.size,1,none⟩=some (.int .i64 l[j].2):=by rw [World.cell?_alloc_at _ _ _ _ rfl];rfl
      generalize wr.alloc (.cells #[.int .i64 l[j].1,.int .i64 l[j].2] 114)=W at *;generalize wr.heap.size=X at *;have f0:=fun d os=>cell_regrown x0 d os
      have f1:=fun d os=>cell_regrown x1 d os
      clear x0 x1 p1 p1';refine wp_region_quiet_below (by kernel_rfl) (by kernel_rfl) ?_
      repeat (first|go_big_quiet_step ((first|(fail)))|quiet_step ((first|(fail))))
      refine wpQuiet_nil ?_;intro _ hw';obtain ⟨⟨nq,osq⟩,hw''⟩:=hw';subst hw'';replace hbw:=hbx.trans ((below_regrown W nq osq).mono hbx.size);clear hbx;generalize grow (redrawn W nq) osq=W2 at *;go_wp2_with fail;go_ret;exact ⟨AA (by rw [HN.out]),hbw⟩
    ·have HN:=A5 (show DL l b=false from DC (E6 b) BO (0,0) l j hlt (EW _ _ _ _ _ hlt (A0w b l[j] k1)));go_wp2_with fail;have hbx:=more hbw (.cells #[.int .i64 l[j].1,.int .i64 l[j].2] 114);have x0:(wr.alloc (.cells #[.int .i64 l[j].1,.int .i64 l[j].2] 114)).cell? ⟨wr.heap.size,0,none⟩=some (.int .i64 l[j].1):=by rw [World.cell?_alloc_at _ _ _ _ rfl];rfl
     have x1:(wr.alloc (.cells #[.int .i64 l[j].1,.int .i64 l[j].2] 114)).cell? ⟨wr.heap.size,1,none⟩=some (.int .i64 l[j].2):=by rw [World.cell?_alloc_at _ _ _ _ rfl];rfl
     generalize wr.alloc (.cells #[.int .i64 l[j].1,.int .i64 l[j].2] 114)=W at *;generalize wr.heap.size=X at *;have f0:=fun d os=>cell_regrown x0 d os
     have f1:=fun d os=>cell_regrown x1 d os
     clear x0 x1 p1 p1';refine wp_region_quiet_below (by kernel_rfl) (by kernel_rfl) ?_
     repeat (first|go_big_quiet_step ((first|(fail)))|quiet_step ((first|(fail))))
     refine wpQuiet_nil ?_;intro _ hw';obtain ⟨⟨nq,osq⟩,hw''⟩:=hw';subst hw'';replace hbw:=hbx.trans ((below_regrown W nq osq).mono hbx.size);clear hbx;generalize grow (redrawn W nq) osq=W2 at *;go_wp2_with fail;go_ret;exact ⟨AA (by rw [HN.out]),hbw⟩
   ·obtain rfl:j=l.length:=by omega
    have HF:=A5 (show DL l b=decide (l.length<=12) from XR (E6 b) BO (0,0) l HE.out);have hcast:decide ((l.length:Int)<=12)=decide (l.length<=12):=by
     by_cases h:l.length<=12
     ·rw [z0H h,z0H (by omega)]
     ·rw [z0G h,z0G (by omega)]
    have HX:=A5 hcast;clear hcast;go_wp2_with fail;go_ret;exact ⟨AA (by rw [HF.out];try exact HX.out),hbw⟩
end Go.Proofs.YtfecnkhoojnkbaaGreatDoor.R

import Derived.Test.YtfecnkhoojnkbaaGreatDoorXC1
set_option maxHeartbeats 8000000
set_option maxRecDepth 1000000
namespace Go.Proofs.YtfecnkhoojnkbaaGreatDoor
open Go.RowKit Rul Rt Go.Sort Tryz
theorem J2 (fr ev ct un:Int) (D M Y:Option Addr) (dn dc mn mc yn yc:Nat) (w:World) :
  Calls prog 25 #[.agg #[.int .i64 fr,.int .i64 ev,.int .i64 ct,.int .i64 un,.slice D dn dc,.slice M mn mc,.slice Y yn yc]] w (Ans w (.bool (decide (dn<=20)&&decide (mn<=20)&&decide (yn<=20)))):=by
 have q:=YC w 44 (.int .i64 fr) (.int .i64 ev) (.int .i64 ct) (.int .i64 un) (.slice D dn dc) (.slice M mn mc) (.slice Y yn yc) rfl;have HB:=A5 (more (start w) (.cells #[.int .i64 fr,.int .i64 ev,.int .i64 ct,.int .i64 un,.slice D dn dc,.slice M mn mc,.slice Y yn yc] 44));obtain ⟨q0,q1,q2,q3,q4,q5,q6⟩:=q;clear q0 q1 q2 q3
 by_cases h0:dn<=20
 ·by_cases h1:mn<=20
  ·by_cases h2:yn<=20
   ·rw [z0H h0,z0H h1,z0H h2];have i0:(dn:Int)<=20:=by omega
    have i1:(mn:Int)<=20:=by omega
    have i2:(yn:Int)<=20:=by omega
    go_enter func25,ntmps25;go_wp2_with fail;go_ret;exact ⟨rfl,HB.out⟩
   ·rw [z0H h0,z0H h1,z0G h2];have i0:(dn:Int)<=20:=by omega
    have i1:(mn:Int)<=20:=by omega
    have i2:¬ (yn:Int)<=20:=by omega
    go_enter func25,ntmps25;go_wp2_with fail;go_ret;exact ⟨rfl,HB.out⟩
  ·rw [z0H h0,z0G h1];have i0:(dn:Int)<=20:=by omega
   have i1:¬ (mn:Int)<=20:=by omega
   go_enter func25,ntmps25;go_wp2_with fail;go_ret;exact ⟨rfl,HB.out⟩
 ·rw [z0G h0];have i0:¬ (dn:Int)<=20:=by omega
  go_enter func25,ntmps25;go_wp2_with fail;go_ret;exact ⟨rfl,HB.out⟩
def IT (dn mn yn us ts on xn:Nat):Bool:=(decide (dn<=20)&&decide (mn<=20)&&decide (yn<=20))&&decide (us<=30)&&decide (ts<=60)&&decide (on<=10)&&decide (xn<=20)
theorem nS (dn mn yn us ts on xn:Nat):IT dn mn yn us ts on xn=true↔dn<=20/\mn<=20/\yn<=20/\us<=30/\ts<=60/\on<=10/\xn<=20:=by simp [IT,and_assoc]
theorem sY (U T:ByteArray) (s l:Int) (O:Option Addr) (on oc:Nat) (fr ev ct un:Int) (D M Y X:Option Addr) (dn dc mn mc yn yc xn xc:Nat) (w:World) :
  Calls prog 15 #[.agg #[.string U,.string T,.int .i64 s,.int .i64 l,.slice O on oc,.int .i64 fr,.int .i64 ev,.int .i64 ct,.int .i64 un,.slice D dn dc,.slice M mn mc,.slice Y yn yc,.slice X xn xc]] w (Ans w (.bool (IT dn mn yn U.size T.size on xn))):=by
 have hk:=DY w #[.string U,.string T,.int .i64 s,.int .i64 l,.slice O on oc,.int .i64 fr,.int .i64 ev,.int .i64 ct,.int .i64 un,.slice D dn dc,.slice M mn mc,.slice Y yn yc,.slice X xn xc] 47;have HB:=A5 (more (start w) (.cells #[.string U,.string T,.int .i64 s,.int .i64 l,.slice O on oc,.int .i64 fr,.int .i64 ev,.int .i64 ct,.int .i64 un,.slice D dn dc,.slice M mn mc,.slice Y yn yc,.slice X xn xc] 47));have s0:=hk.cell 0 (by simp);have s1:=hk.cell 1 (by simp);have s4:=hk.cell 4 (by simp);have s5:=hk.cell 5 (by simp);have s6:=hk.cell 6 (by simp);have s7:=hk.cell 7 (by simp);have s8:=hk.cell 8 (by simp);have s9:=hk.cell 9 (by simp);have s10:=hk.cell 10 (by simp);have s11:=hk.cell 11 (by simp);have s12:=hk.cell 12 (by simp);simp only [List.getElem_cons_zero,List.getElem_cons_succ] at s0 s1 s4 s5 s6 s7 s8 s9 s10 s11 s12;clear hk;obtain ⟨b,hb⟩:∃ b,(decide (dn<=20)&&decide (mn<=20)&&decide (yn<=20))=b:=⟨_,rfl⟩;have HFB:=A5 hb
 cases b
 ·have HV:=A5 (show IT dn mn yn U.size T.size on xn=false from by unfold IT;rw [hb];rfl);clear hb;go_enter func15,ntmps15;go_wp2_with fail;refine (AF (J2 fr ev ct un D M Y dn dc mn mc yn yc _) HFB.out).mono ?_;rintro e w1 ⟨rfl,hb1⟩;replace HB:=A5 (andthen HB.out hb1);replace s0:=A9 hb1 s0;replace s1:=A9 hb1 s1;replace s4:=A9 hb1 s4;replace s12:=A9 hb1 s12;clear s5 s6 s7 s8 s9 s10 s11 hb1;go_wp2_with fail;go_ret;rw [HV.out]
  first|exact ⟨rfl,HB.out⟩|exact ⟨AA (z0H (by omega)),HB.out⟩|exact ⟨AA (z0G (by omega)),HB.out⟩
 ·by_cases g0:U.size<=30
  ·by_cases g1:T.size<=60
   ·by_cases g2:on<=10
    ·by_cases g3:xn<=20
     ·have i0:(U.size:Int)<=30:=by omega
      have i1:(T.size:Int)<=60:=by omega
      have i2:(on:Int)<=10:=by omega
      have i3:(xn:Int)<=20:=by omega
      have HV:=A5 (show IT dn mn yn U.size T.size on xn=true from by unfold IT;rw [hb,z0H g0,z0H g1,z0H g2,z0H g3];rfl);clear hb;go_enter func15,ntmps15;go_wp2_with fail;refine (AF (J2 fr ev ct un D M Y dn dc mn mc yn yc _) HFB.out).mono ?_;rintro e w1 ⟨rfl,hb1⟩;replace HB:=A5 (andthen HB.out hb1);replace s0:=A9 hb1 s0;replace s1:=A9 hb1 s1;replace s4:=A9 hb1 s4;replace s12:=A9 hb1 s12;clear s5 s6 s7 s8 s9 s10 s11 hb1;go_wp2_with fail;go_ret;rw [HV.out]
      first|exact ⟨rfl,HB.out⟩|exact ⟨AA (z0H (by omega)),HB.out⟩|exact ⟨AA (z0G (by omega)),HB.out⟩
     ·have i0:(U.size:Int)<=30:=by omega
      have i1:(T.size:Int)<=60:=by omega
      have i2:(on:Int)<=10:=by omega
      have i3:¬ (xn:Int)<=20:=by omega
      have HV:=A5 (show IT dn mn yn U.size T.size on xn=false from by unfold IT;rw [hb,z0H g0,z0H g1,z0H g2,z0G g3];rfl);clear hb;go_enter func15,ntmps15;go_wp2_with fail;refine (AF (J2 fr ev ct un D M Y dn dc mn mc yn yc _) HFB.out).mono ?_;rintro e w1 ⟨rfl,hb1⟩;replace HB:=A5 (andthen HB.out hb1);replace s0:=A9 hb1 s0;replace s1:=A9 hb1 s1;replace s4:=A9 hb1 s4;replace s12:=A9 hb1 s12;clear s5 s6 s7 s8 s9 s10 s11 hb1;go_wp2_with fail;go_ret;rw [HV.out]
      first|exact ⟨rfl,HB.out⟩|exact ⟨AA (z0H (by omega)),HB.out⟩|exact ⟨AA (z0G (by omega)),HB.out⟩
    ·have i0:(U.size:Int)<=30:=by omega
     have i1:(T.size:Int)<=60:=by omega
     have i2:¬ (on:Int)<=10:=by omega
     have HV:=A5 (show IT dn mn yn U.size T.size on xn=false from by unfold IT;rw [hb,z0H g0,z0H g1,z0G g2];rfl);clear hb;go_enter func15,ntmps15;go_wp2_with fail;refine (AF (J2 fr ev ct un D M Y dn dc mn mc yn yc _) HFB.out).mono ?_;rintro e w1 ⟨rfl,hb1⟩;replace HB:=A5 (andthen HB.out hb1);replace s0:=A9 hb1 s0;replace s1:=A9 hb1 s1;replace s4:=A9 hb1 s4;replace s12:=A9 hb1 s12;clear s5 s6 s7 s8 s9 s10 s11 hb1;go_wp2_with fail;go_ret;rw [HV.out]
     first|exact ⟨rfl,HB.out⟩|exact ⟨AA (z0H (by omega)),HB.out⟩|exact ⟨AA (z0G (by omega)),HB.out⟩
   ·have i0:(U.size:Int)<=30:=by omega
    have i1:¬ (T.size:Int)<=60:=by omega
    have HV:=A5 (show IT dn mn yn U.size T.size on xn=false from by unfold IT;rw [hb,z0H g0,z0G g1];rfl);clear hb;go_enter func15,ntmps15;go_wp2_with fail;refine (AF (J2 fr ev ct un D M Y dn dc mn mc yn yc _) HFB.out).mono ?_;rintro e w1 ⟨rfl,hb1⟩;replace HB:=A5 (andthen HB.out hb1);replace s0:=A9 hb1 s0;replace s1:=A9 hb1 s1;replace s4:=A9 hb1 s4;replace s12:=A9 hb1 s12;clear s5 s6 s7 s8 s9 s10 s11 hb1;go_wp2_with fail;go_ret;rw [HV.out]
    first|exact ⟨rfl,HB.out⟩|exact ⟨AA (z0H (by omega)),HB.out⟩|exact ⟨AA (z0G (by omega)),HB.out⟩
  ·have i0:¬ (U.size:Int)<=30:=by omega
   have HV:=A5 (show IT dn mn yn U.size T.size on xn=false from by unfold IT;rw [hb,z0G g0];rfl);clear hb;go_enter func15,ntmps15;go_wp2_with fail;refine (AF (J2 fr ev ct un D M Y dn dc mn mc yn yc _) HFB.out).mono ?_;rintro e w1 ⟨rfl,hb1⟩;replace HB:=A5 (andthen HB.out hb1);replace s0:=A9 hb1 s0;replace s1:=A9 hb1 s1;replace s4:=A9 hb1 s4;replace s12:=A9 hb1 s12;clear s5 s6 s7 s8 s9 s10 s11 hb1;go_wp2_with fail;go_ret;rw [HV.out]
   first|exact ⟨rfl,HB.out⟩|exact ⟨AA (z0H (by omega)),HB.out⟩|exact ⟨AA (z0G (by omega)),HB.out⟩
end Go.Proofs.YtfecnkhoojnkbaaGreatDoor
namespace Go.Proofs.YtfecnkhoojnkbaaGreatDoor.Ca
open Go.Proofs.YtfecnkhoojnkbaaGreatDoor Rul Rt Li Fo Ev Tryz
theorem nT:FU unU [66,69,71,73,78,58,86,67,65,76,69,78,68,65,82,13,10,120]=([],1,14):=by
 have h:Lib.split [66,69,71,73,78,58,86,67,65,76,69,78,68,65,82,13,10,120] crlf=[[66,69,71,73,78,58,86,67,65,76,69,78,68,65,82],[120]]:=by decide +kernel
 have hu:CJ [66,69,71,73,78,58,86,67,65,76,69,78,68,65,82,13,10,120]=[[66,69,71,73,78,58,86,67,65,76,69,78,68,65,82],[120]]:=by
  unfold CJ;rw [h];rfl
 unfold FU;rw [if_neg (by decide),hu,if_neg (by decide),ZC unU 100 _ (by decide)];exact vT (by decide +kernel)
end Go.Proofs.YtfecnkhoojnkbaaGreatDoor.Ca

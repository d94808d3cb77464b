/- Package cal: read, Parse. -/
import Derived.Test.YtfecnkhoojnkbaaGreatDoorZC3
import Derived.Test.YtfecnkhoojnkbaaGreatDoorZW7
set_option maxHeartbeats 8000000
set_option maxRecDepth 100000
namespace Go.Proofs.YtfecnkhoojnkbaaGreatDoor
open Go.RowKit Rul Rt Go.Sort
theorem run_from (b o n c j : Nat) (W : World) (h : j < n) (hc : n <= c) :
  (Instr.sliceAt 52 (.slice (some ⟨b,o,none⟩) n c) (some (.int .i64 (j : Int))) none none).run Tryz.prog W = .ok (.slice (some ⟨b,o + j,none⟩) (n - j) (c - j)) W:=by
 have h0 : (0 : Int) <= (j : Int):=by omega
 have h1 : (j : Int) <= (n : Int):=by omega
 have h2 : ¬ c = j:=by omega
 simp [go_sem,h0,h1,h2]
theorem isCal_true {n t : Tx} (h : Ca.isCal n t = true) : ∃ v,Li.lineE t = some (n,v) /\ Li.capE v = Ca.wCAL:=by
 unfold Ca.isCal at h
 cases hl : Li.lineE t with
 | none => rw [hl] at h; simp at h
 | some p =>
  obtain ⟨m,v⟩:=p
  rw [hl] at h
  simp only [Bool.and_eq_true,decide_eq_true_eq] at h
  exact ⟨v,by rw [h.1],h.2⟩
def ReadsC (w : World) (p : List Ev.E × Nat × Int) (e : Ending) (w' : World) : Prop:=Below w.heap.size w w' ∧
 ∃ v l,e = .returned (.tuple #[v,.int .i64 p.2.1,.bool (decide (p.2.2 = 0))]) /\ l.map Prod.fst = p.1 /\ HasE w' w.heap.size v l
theorem readsC_no {w w' : World} {p : List Ev.E × Nat × Int} {k : Nat} {i : Int} (hp : p = ([],k,14)) (hi : i = (k : Int)) (hb : Below w.heap.size w w') : ReadsC w p (.returned (.tuple #[.slice none 0 0,.int .i64 i,.bool false])) w':=by
 subst hp hi
 exact ⟨hb,_,[],rfl,rfl,hasE_nil _ _⟩
theorem rgAt_new (w : World) (t : TypeId) : RgAt ((w.alloc (.map #[] 0)).alloc (.cells #[.slice none 0 0,.map (some w.heap.size),.bool false] t)) (w.heap.size + 1 + 1) (w.heap.size + 1) w.heap.size (.slice none 0 0) [] [] false:=by
 have hm:=more (start (w.alloc (.map #[] 0))) (.cells #[.slice none 0 0,.map (some w.heap.size),.bool false] t)
 refine ⟨?_,(setU_new w).keep hm,hasE_nil _ _,by omega,by omega,by omega,by simp⟩
 have:=blk_new (w.alloc (.map #[] 0)) #[.slice none 0 0,.map (some w.heap.size),.bool false] t
 rw [World.size_alloc] at this
 exact this
theorem cread_any (A : Option Addr) (n c : Nat) (ls : List Tx) (w : World) (hr : RowS w A ls) (hn : n = ls.length) (hcap : ls.length <= c) (hsz : ls.length <= 900) (hb : ∀ p ∈ ls,p.length <= 90000) (he : EnvE w) :
  Calls Tryz.prog 23 #[.slice A n c] w (ReadsC w (Ca.linC unU ls)):=by
 subst hn
 have hmm:=@run_makeMap Tryz.prog
 have HR:=hide hr
 have HL:=hide hb
 have HENV:=hide he
 clear hr hb he
 obtain ⟨R,hR⟩ : ∃ R,Ca.linC unU ls = R:=⟨_,rfl⟩
 by_cases h0 : ls.length = 0
 ·have hls : ls = []:=List.eq_nil_of_length_eq_zero h0
  have HF : Hid (Ca.linC unU ls = ([],0,14)):=hide (by rw [hls]; rfl)
  rw [h0]
  clear hR hls
  go_enter Tryz.func23,Tryz.ntmps23
  go_wp2_with fail
  go_ret3
  exact readsC_no HF.out rfl (start _)
 ·obtain ⟨t,ts,hts⟩ : ∃ t ts,ls = t :: ts:=by
   cases ls with
   | nil => exact absurd rfl h0
   | cons a b => exact ⟨a,b,rfl⟩
  have hlp : 0 < ls.length:=by omega
  obtain ⟨b1,o1,rfl,hb1,hc1⟩:=HR.out (by rw [hts]; simp)
  have ht0 : ls[0] = t:=by simp [hts]
  have p0 : w.cell? ⟨b1,o1,none⟩ = some (.string (str t)):=by have:=hc1 0 hlp; rwa [ht0] at this
  have htl : t.length <= 90000:=HL.out t (by rw [hts]; exact List.mem_cons_self)
  have hz0 : (((ls.length : Nat) : Int) == 0) = false:=beq_eq_false_iff_ne.2 (by omega)
  have hz1 : (0 : Int) < (ls.length : Int):=by omega
  obtain ⟨g,hg⟩ : ∃ g,Ca.isCal Ev.nBEGIN t = g:=⟨_,rfl⟩
  have HI:=hide (isCal_at Ev.nBEGIN t g w HENV.out htl hg)
  have hlin : Ca.linC unU ls = if g = true then Ca.evsC unU 1 false [] (ls.drop 1) else ([],0,14):=by rw [hts,Ca.lin_first,hg]; rfl
  have HC1:=hide hc1
  have HB1:=hide hb1
  clear ht0 htl hts hg h0 hc1
  rw [hR]
  rw [hR] at hlin
  cases g with
  | false =>
   have HF : Hid (R = ([],0,14)):=hide (by rw [hlin]; rfl)
   clear hlin hR
   go_enter Tryz.func23,Tryz.ntmps23
   go_wp2_with fail
   refine (HI.out).mono ?_
   rintro _ w1 ⟨rfl,hbw⟩
   have HBW:=hide hbw
   clear hbw
   go_wp2_with fail
   go_ret3
   exact readsC_no HF.out rfl HBW.out
  | true =>
   have HF : Hid (R = Ca.evsC unU 1 false [] (ls.drop 1)):=hide (by rw [hlin]; rfl)
   clear hlin hR
   go_enter Tryz.func23,Tryz.ntmps23
   go_wp2_with fail
   refine (HI.out).mono ?_
   rintro _ w1 ⟨rfl,hbw⟩
   have HW1:=hide hbw
   have HNEW:=hide (rgAt_new w1 84)
   have HB0:=hide (andthen (andthen hbw (more (start w1) (.map #[] 0))) (more (start (w1.alloc (.map #[] 0))) (.cells #[.slice none 0 0,.map (some w1.heap.size),.bool false] 84)))
   have hsw:=hbw.size
   clear hbw
   go_wp2_with fail
   obtain ⟨M,hM⟩ : ∃ M,w1.heap.size = M:=⟨_,rfl⟩
   rw [hM] at HNEW HB0 hsw
   try rw [hM]
   have HM:=hide hM
   clear hM
   go_loopw [6,7,8] (fun i _ _ wr => ∃ (j : Nat) (v : Value) (l : List EM) (ver : Bool),1 <= j /\ j <= ls.length /\ i = .int .i64 j /\ Hid (RgAt wr (M + 1 + 1) (M + 1) M v l (Ca.uidsC (l.map Prod.fst)) ver) /\ Hid (R = Ca.evsC unU j ver (l.map Prod.fst) (ls.drop j)) /\ Hid (Below w.heap.size w wr) /\ Hid (l.length <= j)) (fun i _ _ _ => ls.length - (intOf i).toNat)
   case atStart => exact ⟨1,_,[],false,Nat.le_refl _,by omega,rfl,HNEW,HF,HB0,hide (by simp)⟩
   case round =>
    obtain ⟨j,v,l,ver,hj1,hj,rfl,HRG,HE,HB,HLL⟩:=hrel
    have hj0 : (0 : Int) <= (j : Int):=by omega
    by_cases hlt : j < ls.length
    ·obtain ⟨u,hu⟩ : ∃ u,ls[j] = u:=⟨_,rfl⟩
     have hul:=HL.out ls[j] (List.getElem_mem _)
     have p1 : wr.cell? ⟨b1,o1 + j,none⟩ = some (.string (str u)):=(HB.out.cell (p:=⟨b1,_,none⟩) HB1.out).trans (by rw [<- hu]; exact HC1.out j hlt)
     rw [hu] at hul
     have hj2 : (j : Int) < (ls.length : Int):=by omega
     obtain ⟨g,hg⟩ : ∃ g,Ca.isCal Ev.nEND u = g:=⟨_,rfl⟩
     have HI2:=hide (isCal_at Ev.nEND u g wr (HENV.out.keep HB.out) hul hg)
     cases g with
     | false =>
      have hc0 : Ca.isCal Ev.nEND ls[j] = false:=by rw [hu]; exact hg
      obtain ⟨Q,hQ⟩ : ∃ Q,Ca.takC unU ver (l.map Prod.fst) (ls.drop j) = Q:=⟨_,rfl⟩
      have hev:=Ca.evs_tak (U:=unU) (ver:=ver) (out:=l.map Prod.fst) hlt hc0
      rw [hQ,<- HE.out] at hev
      have HEV:=hide hev
      have HQ:=hide hQ
      have hrw2 : RowS w (some ⟨b1,o1 + j,none⟩) (ls.drop j):=rowS_drp HR.out j
      have hsl:=fun W => run_from b1 o1 ls.length c j W hlt hcap
      have HRW:=hide hrw2
      have hjn : (j : Int) <= (c : Int):=by omega
      have hjs : (j : Int) <= (ls.length : Int):=by omega
      have HNE : Hid (ls.drop j ≠ []):=hide (fun q => by have:=congrArg List.length q; rw [List.length_drop] at this; simp at this; omega)
      clear hg hu hul hev hQ hrw2 hc0
      go_wp2_with fail
      refine (HI2.out).mono ?_
      rintro _ w2 ⟨rfl,hb2⟩
      have HB2:=hide (andthen HB.out hb2)
      have HRG2:=hide (HRG.out.keep hb2)
      clear hb2
      go_wp2_with fail
      refine (ctake_any w.heap.size (M + 1 + 1) (M + 1) M v l ver _ _ _ (ls.drop j) w2 HRG2.out (by omega) (by omega) (by have:=HLL.out; omega) (HRW.out.keep HB2.out) (by rw [List.length_drop]) HNE.out (by rw [List.length_drop]; omega) (fun p hp => HL.out p (List.mem_of_mem_drop hp)) (HENV.out.keep HB2.out)).mono ?_
      rw [HQ.out]
      obtain ⟨o,k⟩:=Q
      rintro _ w3 ⟨hb3,hx⟩
      have HB3:=hide (HB2.out.trans hb3)
      clear hb3
      cases o with
      | none =>
       dsimp only at hx
       subst hx
       have hk:=Ca.tak_bad HQ.out
       rw [List.length_drop] at hk
       have HF2 : Hid (R = ([],j + k,14)):=hide HEV.out
       have hk0 : (0 : Int) <= (k : Int):=by omega
       have hk1 : (k : Int) <= 900:=by omega
       have hjk : (j : Int) <= 900:=by omega
       have HJK : Hid ((j : Int) + (k : Int) = ((j + k : Nat) : Int)):=hide (by omega)
       clear hk
       go_wp2_with fail
       go_ret3
       exact readsC_no HF2.out HJK.out HB3.out
      | some vo =>
       obtain ⟨ver2,o2⟩:=vo
       obtain ⟨v2,l2,rfl,h2,h3⟩:=hx
       have hk:=Ca.tak_len HQ.out
       rw [List.length_drop,List.length_map] at hk
       have hl2 : l2.length = o2.length:=by rw [<- h2,List.length_map]
       have HF2 : Hid (R = Ca.evsC unU (j + k) ver2 (l2.map Prod.fst) (ls.drop (j + k))):=hide (by rw [h2]; exact HEV.out)
       have HRG3:=hide (show RgAt w3 (M + 1 + 1) (M + 1) M v2 l2 (Ca.uidsC (l2.map Prod.fst)) ver2 by rw [h2]; exact h3)
       have hk0 : (0 : Int) <= (k : Int):=by omega
       have hk1 : (k : Int) <= 900:=by omega
       have hjk : (j : Int) <= 900:=by omega
       have HL3 : Hid (l2.length <= j + k):=hide (by have:=HLL.out; omega)
       clear h2 h3 hl2
       go_wp2_with fail
       go_roundw
       case rel => exact ⟨j + k,v2,l2,ver2,by omega,by omega,by go_num,HRG3,HF2,HB3,HL3⟩
       case measure => simp [intOf]; omega
     | true =>
      obtain ⟨vl,hvl,hcp⟩:=isCal_true hg
      have hvl' : Li.lineE ls[j] = some (Ev.nEND,vl):=by rw [hu]; exact hvl
      have hjk : (j : Int) <= 900:=by omega
      have hze : ((j : Int) == ((ls.length : Nat) : Int)) = false:=beq_eq_false_iff_ne.2 (by omega)
      by_cases hm : j + 1 < ls.length
      ·have HF2 : Hid (R = ([],j + 1,14)):=hide (by rw [HE.out]; exact Ca.evs_end_more hm hvl' hcp)
       have hm1 : (j : Int) + 1 < (ls.length : Int):=by omega
       clear hvl hcp hvl' hg hu hul hm
       go_wp2_with fail
       refine (HI2.out).mono ?_
       rintro _ w2 ⟨rfl,hb2⟩
       have HB2:=hide (andthen HB.out hb2)
       clear hb2
       go_wp2_with fail
       go_ret3
       exact readsC_no HF2.out (by omega) HB2.out
      ·have hm2 : j + 1 = ls.length:=by omega
       have HF2 : Hid (R = (l.map Prod.fst,ls.length,0)):=hide (by rw [HE.out]; exact Ca.evs_end hm2 (by exact hvl') hcp)
       have hm1 : ¬ (j : Int) + 1 < (ls.length : Int):=by omega
       clear hvl hcp hvl' hg hu hul hm
       obtain ⟨A2,c2,rfl,_⟩:=OwnE.row HRG.out.h.own
       go_wp2_with fail
       refine (HI2.out).mono ?_
       rintro _ w2 ⟨rfl,hb2⟩
       have HB2:=hide (andthen HB.out hb2)
       have HRG2:=hide (HRG.out.keep hb2)
       have k0 : w2.cell? ⟨M + 1,0,none⟩ = some (.slice A2 l.length c2):=HRG2.out.k.cell 0 (by simp)
       clear hb2
       go_wp2_with fail
       go_ret3
       refine ⟨HB2.out,_,l,?_,by rw [HF2.out],HRG2.out.h.down (by omega)⟩
       rw [HF2.out]
       rfl
    ·obtain rfl : j = ls.length:=by omega
     have HF2 : Hid (R = ([],ls.length,14)):=hide (by rw [HE.out]; exact Ca.evs_out)
     have hze : (((ls.length : Nat) : Int) == ((ls.length : Nat) : Int)) = true:=beq_self_eq_true _
     go_wp2_with fail
     go_ret3
     exact readsC_no HF2.out rfl HB.out
def ParseB (w : World) (p : List Ev.E × Nat × Int) (e : Ending) (w' : World) : Prop:=Below w.heap.size w w' ∧
 ∃ v l,e = .returned (.tuple #[v,.int .i64 p.2.1,.int .i64 p.2.2]) /\ l.map Prod.fst = p.1 /\ HasE w' w.heap.size v l
theorem parseB_no {w w' : World} {p : List Ev.E × Nat × Int} {k : Nat} {i z : Int} (hp : p = ([],k,z)) (hi : i = (k : Int)) (hb : Below w.heap.size w w') : ParseB w p (.returned (.tuple #[.slice none 0 0,.int .i64 i,.int .i64 z])) w':=by
 subst hp hi
 exact ⟨hb,_,[],rfl,rfl,hasE_nil _ _⟩
theorem unfold_tx (t : Tx) (w : World) (he : EnvE w) (ht : t.length <= 90000) (L : List Tx) (hL : Fo.unfoldE t = L) :
  Calls Tryz.prog 22 #[.string (str t)] w fun x w' => ∃ A c,x = .returned (.slice A L.length c) /\ L.length <= c /\ RowS w' A L /\ Below w.heap.size w w':=by
 have:=unfold_any (str t) w he.e (by rw [str_size]; omega)
 rw [str_list,hL] at this
 refine this.mono ?_
 rintro _ w' ⟨v,rfl,hown,hb⟩
 obtain ⟨A,cap,rfl,hr,hc⟩:=OwnS.row hown
 exact ⟨A,cap,rfl,hc,hr,hb⟩
theorem cParse_any (s : Tx) (w : World) (hs : s.length <= 90000) (he : EnvE w) :
  Calls Tryz.prog 12 #[.string (str s)] w (ParseB w (Ca.parseC unU s)):=by
 have hsz : ((str s).size : Int) = (s.length : Int):=by rw [str_size]
 obtain ⟨P,hP⟩ : ∃ P,Ca.parseC unU s = P:=⟨_,rfl⟩
 rw [hP]
 unfold Ca.parseC at hP
 by_cases h8 : 8000 < s.length
 ·rw [if_pos h8] at hP
  have HP:=hide hP.symm
  have hz : (8000 : Int) < ((str s).size : Int):=by omega
  clear hP
  go_enter Tryz.func12,Tryz.ntmps12
  go_wp2_with fail
  go_ret3
  exact parseB_no HP.out rfl (start _)
 ·rw [if_neg h8] at hP
  have hz : ¬ (8000 : Int) < ((str s).size : Int):=by omega
  obtain ⟨L,hL⟩ : ∃ L,Fo.unfoldE s = L:=⟨_,rfl⟩
  have HU:=hide (unfold_tx s w he hs L hL)
  have HUS : Hid (∀ p ∈ L,p.length <= 90000):=hide (fun p hp => by have:=Ca.unfold_size s p (hL ▸ hp); omega)
  have HENV:=hide he
  rw [hL] at hP
  clear hL he hs
  by_cases h2 : 200 < L.length
  ·rw [if_pos h2] at hP
   have HP:=hide hP.symm
   have hz2 : (200 : Int) < (L.length : Int):=by omega
   clear hP
   go_enter Tryz.func12,Tryz.ntmps12
   go_wp2_with fail
   refine (HU.out).mono ?_
   rintro _ w1 ⟨A,c,rfl,hc,hr,hb⟩
   have HB:=hide hb
   clear hb hr
   go_wp2_with fail
   go_ret3
   exact parseB_no HP.out rfl HB.out
  ·rw [if_neg h2] at hP
   have hz2 : ¬ (200 : Int) < (L.length : Int):=by omega
   have hL9 : L.length <= 900:=by omega
   have HP:=hide hP
   have HIS:=hide (Ca.lin_is unU L)
   clear hP
   go_enter Tryz.func12,Tryz.ntmps12
   go_wp2_with fail
   refine (HU.out).mono ?_
   rintro _ w1 ⟨A,c,rfl,hc,hr,hb⟩
   have HB:=hide hb
   have HC:=hide (cread_any A _ c L w1 hr rfl hc hL9 HUS.out (HENV.out.keep hb))
   have hsw:=hb.size
   rw [HP.out] at HC HIS
   clear hb hr
   go_wp2_with fail
   refine (HC.out).mono ?_
   obtain ⟨es,k,z⟩:=P
   rintro _ w2 ⟨hb2,v,l,rfl,hl,hh⟩
   have HB2:=hide (andthen HB.out hb2)
   have HH:=hide (hh.down hsw)
   have HLE:=hide hl
   clear hb2 hh hl
   obtain ⟨A2,c2,rfl,_⟩:=OwnE.row HH.out.own
   rcases HIS.out with ⟨hz0,_⟩ | ⟨hz0,hn0⟩
   ·simp only at hz0
    subst hz0
    have hd : decide ((0 : Int) = 0) = true:=rfl
    go_wp2_with fail
    go_ret3
    exact ⟨HB2.out,_,l,rfl,HLE.out,HH.out⟩
   ·simp only at hz0 hn0
    subst hz0
    have hd : decide ((14 : Int) = 0) = false:=rfl
    go_wp2_with fail
    go_ret3
    exact parseB_no (by rw [hn0]) rfl HB2.out
end Go.Proofs.YtfecnkhoojnkbaaGreatDoor

/- The document's Print. -/
import Derived.Test.YtfecnkhoojnkbaaGreatDoorZEvRC
import Derived.Test.YtfecnkhoojnkbaaGreatDoorZC1
import Derived.Test.YtfecnkhoojnkbaaGreatDoorZM4
set_option maxHeartbeats 8000000
set_option maxRecDepth 100000
namespace Go.Proofs.YtfecnkhoojnkbaaGreatDoor
open Go.RowKit Rul Rt Go.Sort
theorem lit_head : (⟨#[66,69,71,73,78,58,86,67,65,76,69,78,68,65,82,13,10,86,69,82,83,73,79,78,58,50,46,48,13,10]⟩ : ByteArray) = str (upC []):=by
 rw [upC_nil,Ca.flatS_is _ (by decide)]; rfl
theorem lit_end : (⟨#[69,78,68,58,86,67,65,76,69,78,68,65,82,13,10]⟩ : ByteArray) = str (Fo.flat [Ca.endC]):=by
 rw [Ca.flatS_is _ (by decide)]; rfl
theorem rIs_at (e : Ev.E) (m : Mem) (b : Bool) (w : World) (h : EvL w e m) (hb : Ev.isE e = b) :
  Calls Tryz.prog 18 #[evV e m] w (Ans w (.bool b)):=by subst hb; exact rIs_any e m w h
theorem rLines_ev (e : Ev.E) (m : Mem) (w : World) (h : EvL w e m) (L : List Tx) (hL : Ev.linesE unU e = L) :
  Calls Tryz.prog 19 #[evV e m] w fun x w' => ∃ A c,x = .returned (.slice A L.length c) /\ RowS w' A L /\ Below w.heap.size w w':=by
 subst hL
 refine (rLines_any e m w h).mono ?_
 rintro _ w' ⟨v,rfl,hown,hb⟩
 obtain ⟨A,cap,rfl,hr,_⟩:=OwnS.row hown
 exact ⟨A,cap,rfl,hr,hb⟩
theorem rfold_tx (t r : Tx) (w : World) (ht : t.length <= 100000) (h : Fo.foldE t = r) : Calls Tryz.prog 20 #[.string (str t)] w (Ans w (.string (str r))):=by
 have:=rFold_any (str t) w (by rw [str_size]; exact ht)
 rw [str_list,h] at this
 exact this
def PrintR (w : World) (es : List Ev.E) (e : Ending) (w' : World) : Prop:=Below w.heap.size w w' /\ e = .returned (.tuple #[.string (str (Ca.printC unU es).1),.int .i64 (Ca.printC unU es).2])
theorem printR_form {w w' : World} {es : List Ev.E} (h : Ca.okC es = false) (hb : Below w.heap.size w w') : PrintR w es (.returned (.tuple #[.string ⟨#[]⟩,.int .i64 14])) w':=by
 refine ⟨hb,?_⟩
 unfold Ca.printC
 rw [h,if_neg (by decide)]
 rfl
theorem body_big : ∀ l : List Ev.E,(Fo.flat (Ca.bodyC unU l)).length <= l.length * 139000
 | [] => by simp [Ca.bodyC,Fo.flat]
 | e :: l => by
  have h1:=body_big l
  have h2:=flat_ev e
  have h3 : Ca.bodyC unU (e :: l) = Ev.linesE unU e ++ Ca.bodyC unU l:=rfl
  rw [h3,flat_app,List.length_append,List.length_cons,Nat.add_mul,Nat.one_mul]
  omega
theorem upC_big (l : List Ev.E) : (upC l).length <= 300 + l.length * 139000:=by
 have h1:=body_big l
 have h2 : upC l = Fo.flat [Ca.firstC,Ca.verC] ++ Fo.flat (Ca.bodyC unU l):=by
  unfold upC
  rw [<- flat_app]; rfl
 have h3 : (Fo.flat [Ca.firstC,Ca.verC]).length <= 300:=Nat.le_trans (flat_len 30 _ (by decide)) (by decide)
 rw [h2,List.length_append]
 omega
theorem rPrint_any8 (A : Option Addr) (n c : Nat) (l : List EM) (w : World) (hl : RowE w A l) (hn : n = l.length) (hsz : l.length <= 1000) (hb : EvsL w l) :
  Calls Tryz.prog 10 #[.slice A n c] w (PrintR w (l.map Prod.fst)):=by
 subst hn
 have HR:=hide hl
 have HL:=hide hb
 clear hl hb
 obtain ⟨es,hes⟩ : ∃ es,l.map Prod.fst = es:=⟨_,rfl⟩
 rw [hes]
 have hel : es.length = l.length:=by rw [<- hes,List.length_map]
 have HG : Hid (∀ (j : Nat) (h : j < l.length),es[j]'(by rw [hel]; exact h) = l[j].1):=hide (fun j h => by simp only [<- hes,List.getElem_map])
 have HST : Hid ((.string ⟨#[66,69,71,73,78,58,86,67,65,76,69,78,68,65,82,13,10,86,69,82,83,73,79,78,58,50,46,48,13,10]⟩ : Value) = .string (str (upC (es.take 0)))):=hide (by rw [lit_head,List.take_zero])
 clear hes
 go_enter Tryz.func10,Tryz.ntmps10
 go_wp2_with fail
 go_loopw [4,5,6,7,8] (fun s i _ _ _ wr => ∃ j : Nat,j <= l.length /\ i = .int .i64 j /\ s = .string (str (upC (es.take j))) /\ Hid (Ca.okC (es.take j) = true) /\ Hid (Below w.heap.size w wr)) (fun _ i _ _ _ _ => l.length - (intOf i).toNat)
 case atStart => exact ⟨0,Nat.zero_le _,rfl,HST.out,hide rfl,hide (start w)⟩
 case round =>
  obtain ⟨j,hj,rfl,rfl,HO,HB⟩:=hrel
  by_cases hlt : j < l.length
  ·obtain ⟨b1,o1,rfl,hb1,hc1⟩:=HR.out (by intro h0; rw [h0] at hlt; exact absurd hlt (Nat.not_lt_zero _))
   have hje : j < es.length:=by rw [hel]; exact hlt
   obtain ⟨p,hp⟩ : ∃ p,l[j] = p:=⟨_,rfl⟩
   obtain ⟨e,m⟩:=p
   have h13:=hc1 j hlt
   have hem:=HL.out l[j] (List.getElem_mem _)
   have hge:=HG.out j hlt
   rw [hp] at h13 hem hge
   have HTK : Hid (es.take (j + 1) = es.take j ++ [e]):=hide (by rw [List.take_succ_eq_append_getElem hje,hge])
   have H13:=hide h13
   have HC1:=hide (And.intro hb1 hc1)
   have HEM:=hide hem
   obtain ⟨p0,p1,p2,p3,p4,p5,p6,p7,p8,p9,p10,p11,p12⟩:=(h13.keep HB.out).all
   have hi0 : (0 : Int) <= (j : Int):=by omega
   have hi1 : (j : Int) < (l.length : Int):=by omega
   have hem2:=hem.keep HB.out
   cases hi : Ev.isE e with
   | false =>
    have HF : Hid (Ca.okC es = false):=hide (Ca.okC_out (k:=j + 1) (by rw [HTK.out,Ca.okC_snoc,hi]; simp))
    have HI:=hide (rIs_at e m false _ hem2 hi)
    clear hem2 h13 hem hge hp hi hc1
    go_wp2_with fail
    refine (HI.out).mono ?_
    rintro _ w1 ⟨rfl,hb2⟩
    have HB3:=hide (andthen HB.out hb2)
    clear hb2
    go_wp2_with fail
    go_ret2
    exact printR_form HF.out HB3.out
   | true =>
    have HI:=hide (rIs_at e m true _ hem2 hi)
    have HIE:=hide hi
    obtain ⟨G,hG⟩ : ∃ G,upC (es.take j) = G:=⟨_,rfl⟩
    have hGL : G.length <= 300 + j * 139000:=by rw [<- hG]; have:=upC_big (es.take j); rw [List.length_take,Nat.min_eq_left (by omega)] at this; exact this
    have HGL : Hid (G.length <= 139000300):=hide (by have:=Nat.mul_le_mul_right 139000 (show j <= 1000 by omega); omega)
    have HUP : Hid (upC (es.take (j + 1)) = G ++ Fo.flat (Ev.linesE unU e)):=hide (by rw [HTK.out,upC_snoc,hG])
    rw [hG]
    clear hem2 h13 hem hge hp hi hc1 hG hGL p0 p1 p2 p3 p4 p5 p6 p7 p8 p9 p10 p11 p12
    obtain ⟨p0,p1,p2,p3,p4,p5,p6,p7,p8,p9,p10,p11,p12⟩:=(H13.out.keep HB.out).all
    go_wp2_with fail
    refine (HI.out).mono ?_
    rintro _ w1 ⟨rfl,hb2⟩
    have HB1:=hide (andthen HB.out hb2)
    clear hb2 p0 p1 p2 p3 p4 p5 p6 p7 p8 p9 p10 p11 p12
    go_wp2_with fail
    go_loopw [6] (fun s wx => ∃ k : Nat,k <= j /\ s = .int .i64 k /\ Hid (∀ (i : Nat) (h : i < k) (h2 : i < es.length),es[i].uid ≠ e.uid) /\ Hid (Below w.heap.size w wx)) (fun s _ => j - (intOf s).toNat)
    case atStart => exact ⟨0,Nat.zero_le _,rfl,hide (fun i h => absurd h (Nat.not_lt_zero _)),HB1⟩
    case round =>
     obtain ⟨k,hk,rfl,HU,HBX⟩:=hrel
     by_cases hkj : k < j
     ·have hkl : k < l.length:=by omega
      have hke : k < es.length:=by omega
      obtain ⟨u,hu⟩ : ∃ u,es[k].uid = u:=⟨_,rfl⟩
      have r0 : wr.cell? ⟨b1,o1 + k * 13,none⟩ = some (.string (str u)):=by
       have:=((HC1.out.2 k hkl).keep HBX.out).all.1
       rw [<- HG.out k hkl,hu] at this
       exact this
      have p0 : wr.cell? ⟨b1,o1 + j * 13,none⟩ = some (.string (str e.uid)):=(H13.out.keep HBX.out).all.1
      have hk0 : (0 : Int) <= (k : Int):=by omega
      have hk1 : (k : Int) < (l.length : Int):=by omega
      have hk2 : (k : Int) < (j : Int):=by omega
      have q1:=str_tl u
      have q2:=str_tl e.uid
      have HB2:=hide (fun a => below_drawn HBX.out a)
      by_cases hq : u = e.uid
      ·have HF : Hid (Ca.okC es = false):=hide (Ca.okC_out (k:=j + 1) (by
        rw [HTK.out,Ca.okC_snoc]
        have : e.uid ∈ Ca.uidsC (es.take j):=by
         unfold Ca.uidsC
         rw [List.map_take,List.mem_iff_getElem]
         exact ⟨k,by rw [List.length_take,List.length_map]; omega,by rw [List.getElem_take,List.getElem_map,hu,hq]⟩
        rw [decide_eq_true this]
        simp))
       have q3 : (u == e.uid) = true:=by rw [tx_eq,decide_eq_true hq]
       clear hu hq
       go_wp2_with fail
       go_quiet (fail)
       have HB3:=hide (HB2.out nq)
       generalize wr.drewN nq = wq at *
       clear HB2
       go_wp2_with fail
       go_ret2
       exact printR_form HF.out HB3.out
      ·have q3 : (u == e.uid) = false:=by rw [tx_eq,decide_eq_false hq]
       have HN : Hid (∀ (i : Nat) (h : i < k + 1) (h2 : i < es.length),es[i].uid ≠ e.uid):=hide (fun i h h2 => by
        rcases (by omega : i < k ∨ i = k) with g | rfl
        ·exact HU.out i g h2
        ·rw [hu]; exact hq)
       clear hu hq
       go_wp2_with fail
       go_quiet (fail)
       have HB3:=hide (HB2.out nq)
       generalize wr.drewN nq = wq at *
       clear HB2
       go_wp2_with fail
       go_roundw
       case rel => exact ⟨k + 1,by omega,by go_num,HN,HB3⟩
       case measure => simp [intOf]; omega
     ·obtain rfl : k = j:=by omega
      have HOK : Hid (Ca.okC (es.take (k + 1)) = true):=hide (by
       have hni : e.uid ∉ Ca.uidsC (es.take k):=fun g => by
        unfold Ca.uidsC at g
        rw [List.map_take,List.mem_iff_getElem] at g
        obtain ⟨i,hi,g⟩:=g
        rw [List.length_take,List.length_map] at hi
        rw [List.getElem_take,List.getElem_map] at g
        exact HU.out i (by omega) (by omega) g
       rw [HTK.out,Ca.okC_snoc,HO.out,HIE.out,decide_eq_false hni]
       rfl)
      obtain ⟨L,hL⟩ : ∃ L,Ev.linesE unU e = L:=⟨_,rfl⟩
      have HLN:=hide (rLines_ev e m wr (HEM.out.keep HBX.out) L hL)
      have HLB : Hid ((∀ p ∈ L,p.length <= 7700) /\ L.length <= 9):=hide (hL ▸ lines_low e)
      rw [hL] at HUP
      obtain ⟨p0,p1,p2,p3,p4,p5,p6,p7,p8,p9,p10,p11,p12⟩:=(H13.out.keep HBX.out).all
      clear hL
      go_wp2_with fail
      refine (HLN.out).mono ?_
      rintro _ w2 ⟨AL,cl,rfl,hrl,hb3⟩
      have HRL:=hide hrl
      have HB4:=hide (andthen HBX.out hb3)
      clear hrl hb3 p0 p1 p2 p3 p4 p5 p6 p7 p8 p9 p10 p11 p12
      have HS0 : Hid ((.string (str G) : Value) = .string (str (G ++ Fo.flat (L.take 0)))):=hide (by rw [List.take_zero]; simp [Fo.flat])
      go_wp2_with fail
      go_loopw [4,8] (fun s x wr => ∃ i : Nat,i <= L.length /\ x = .int .i64 i /\ s = .string (str (G ++ Fo.flat (L.take i))) /\ Hid (Below w2.heap.size w2 wr)) (fun _ x _ => L.length - (intOf x).toNat)
      case atStart => exact ⟨0,Nat.zero_le _,rfl,HS0.out,hide (start w2)⟩
      case round =>
       obtain ⟨i,hil,rfl,rfl,HBY⟩:=hrel
       by_cases hlt2 : i < L.length
       ·obtain ⟨b2,o2,rfl,hb2,hc2⟩:=HRL.out (by intro h0; rw [h0] at hlt2; exact absurd hlt2 (Nat.not_lt_zero _))
        obtain ⟨t,ht⟩ : ∃ t,L[i] = t:=⟨_,rfl⟩
        have p0 : wr.cell? ⟨b2,o2 + i,none⟩ = some (.string (str t)):=(HBY.out.cell (p:=⟨b2,_,none⟩) hb2).trans (by rw [<- ht]; exact hc2 i hlt2)
        have htl:=HLB.out.1 L[i] (List.getElem_mem _)
        rw [ht] at htl
        have HFO:=hide (fun w => rfold_tx t _ w (by omega) rfl)
        have hfl : (Fo.foldE t).length <= 20000:=by have:=Fo.foldE_len t; omega
        have hgl : (Fo.flat (L.take i)).length <= 1000000:=by
         have h1:=flat_len 7700 (L.take i) (fun p hp => HLB.out.1 p (List.mem_of_mem_take hp))
         have h2:=Nat.mul_le_mul_right (2 * 7700 + 6) (show (L.take i).length <= 9 by have:=HLB.out.2; rw [List.length_take]; omega)
         omega
        have HNX : Hid (((G ++ Fo.flat (L.take i)) ++ Fo.foldE t) ++ Fo.crlf = G ++ Fo.flat (L.take (i + 1))):=hide (by rw [List.take_succ_eq_append_getElem hlt2,Fo.flat_snoc,ht]; simp [List.append_assoc])
        have hi2 : (0 : Int) <= (i : Int):=by omega
        have hLB:=HLB.out.2
        have hi3 : (i : Int) < (L.length : Int):=by omega
        obtain ⟨T1,hT1⟩ : ∃ T,G ++ Fo.flat (L.take i) = T:=⟨_,rfl⟩
        have hTL : T1.length <= 150000000:=by rw [<- hT1,List.length_append]; have:=HGL.out; omega
        rw [hT1] at HNX ⊢
        obtain ⟨F,hF⟩ : ∃ F,Fo.foldE t = F:=⟨_,rfl⟩
        rw [hF] at HNX HFO hfl
        have z1 : (str T1).size <= 150000000:=by rw [str_size]; exact hTL
        have z2 : (str F).size <= 20000:=by rw [str_size]; exact hfl
        have HSE : Hid ((str T1 ++ str F) ++ (⟨#[13,10]⟩ : ByteArray) = str (T1 ++ F ++ Fo.crlf)):=hide (by rw [show (⟨#[13,10]⟩ : ByteArray) = str Fo.crlf from rfl,str_app,str_app])
        clear ht htl hc2 hT1 hF hgl
        go_wp2_with fail
        refine (HFO.out _).mono ?_
        rintro _ w4 ⟨rfl,hb5⟩
        have HB5:=hide (andthen HBY.out hb5)
        clear hb5
        go_wp2_with fail
        go_roundw
        case rel => exact ⟨i + 1,by omega,by go_num,by rw [HSE.out,HNX.out],HB5⟩
        case measure => simp [intOf]; omega
       ·obtain rfl : i = L.length:=by omega
        have HEQ : Hid (G ++ Fo.flat (L.take L.length) = upC (es.take (k + 1))):=hide (by rw [List.take_length,HUP.out])
        rw [HEQ.out]
        have HBF:=hide (HB4.out.trans (HBY.out.mono HB4.out.size))
        go_wp2_with fail
        go_roundw
        case rel => exact ⟨k + 1,by omega,by go_num,rfl,HOK,HBF⟩
        case measure => simp [intOf]; omega
  ·obtain rfl : j = l.length:=by omega
   have hta : es.take l.length = es:=List.take_of_length_le (by omega)
   rw [hta] at HO ⊢
   have hGL:=upC_big es
   rw [hel] at hGL
   have hGM:=Nat.mul_le_mul_right 139000 (show l.length <= 1000 by omega)
   have HTX : Hid (str (upC es) ++ (⟨#[69,78,68,58,86,67,65,76,69,78,68,65,82,13,10]⟩ : ByteArray) = str (Ca.textC unU es)):=hide (by rw [lit_end,str_app,<- textC_up])
   obtain ⟨T,hT⟩ : ∃ T,Ca.textC unU es = T:=⟨_,rfl⟩
   have HT:=hide hT
   rw [hT] at HTX
   have z1 : (str (upC es)).size <= 150000000:=by rw [str_size]; omega
   obtain ⟨Z,hZ⟩ : ∃ Z,str (upC es) ++ (⟨#[69,78,68,58,86,67,65,76,69,78,68,65,82,13,10]⟩ : ByteArray) = Z:=⟨_,rfl⟩
   have hZT : Z = str T:=hZ.symm.trans HTX.out
   have hzs : (Z.size : Int) = (T.length : Int):=by rw [hZT,str_size]
   have HZT:=hide hZT
   clear hT hta hGL hGM hZT
   generalize upC es = G at *
   by_cases hbig : 8000 < T.length
   ·have hz : (8000 : Int) < (Z.size : Int):=by omega
    go_wp2_with fail
    go_ret2
    refine ⟨HB.out,?_⟩
    unfold Ca.printC
    rw [HO.out,if_pos rfl,HT.out,if_pos hbig]
    rfl
   ·have hz : ¬ (8000 : Int) < (Z.size : Int):=by omega
    go_wp2_with fail
    go_ret2
    refine ⟨HB.out,?_⟩
    unfold Ca.printC
    rw [HO.out,if_pos rfl,HT.out,if_neg hbig]
    first | rfl | (rw [HZT.out]; rfl)
end Go.Proofs.YtfecnkhoojnkbaaGreatDoor

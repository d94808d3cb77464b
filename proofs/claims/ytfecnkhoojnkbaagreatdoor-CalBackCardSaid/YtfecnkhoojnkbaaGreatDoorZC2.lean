/- CaC; CaD of the recipes, what is needed of them. -/
import Derived.Test.YtfecnkhoojnkbaaGreatDoorZC1
import Derived.Test.YtfecnkhoojnkbaaGreatDoorZM4
import Derived.Test.YtfecnkhoojnkbaaGreatDoorZW7
import Derived.Test.YtfecnkhoojnkbaaGreatDoorZW8
set_option maxHeartbeats 8000000
set_option maxRecDepth 100000
namespace Go.Proofs.YtfecnkhoojnkbaaGreatDoor
open Go.RowKit Rul Rt Go.Sort
theorem zero_unit (w : World) : (zeroValue 98).run Tryz.prog w = .ok (.agg #[]) w:=by kernel_rfl
theorem add_any (b : Nat) (us : List Tx) (t : Tx) (w : World) (hs : SetU w b us) (hn : us.length <= 1000000) (ht : t.length <= 1000000) :
  Calls Tryz.prog 27 #[.map (some b),.string (str t)] w fun e w' => e = .returned (.bool (!decide (t ∈ us))) /\ SetU w' b (us ++ [t]) /\ w.grownBy w' (some b):=by
 have hkey:=keyU_of t ht
 have hhas:=has_setU us t
 have hput:=put_setU us t
 have hlen : (us ++ [t]).length = us.length + 1:=by rw [List.length_append]; rfl
 unfold SetU
 rw [hlen,<- hput]
 unfold SetU at hs
 generalize decide (t ∈ us) = D at *
 generalize setU us = S at *
 generalize keyU t = K at *
 generalize us.length = n at *
 generalize str t = s at *
 clear hput hlen ht
 go_enter Tryz.func27,Tryz.ntmps27
 go_wp2_with (first
  | (at_lookup; refine wpList_lookup_own_unit _ rfl _ _ 63 rfl 9 98 key_law Tryz.underlying63 (zero_unit _) b n _ rfl hs _ _ rfl hkey ?_; rw [hhas])
  | (at_mapUpdate; refine wpList_mapUpdate_own _ rfl _ _ _ 63 rfl 9 98 key_law Tryz.underlying63 (unitElem (H:=Unit)) b n _ rfl (hs.alloc _) (by unfold maxLen; omega) _ _ _ rfl rfl hkey _ [] unitElem_mk ?_; intro w1 hown1 hgrow1)
  | go_in)
 go_ret
 exact ⟨rfl,hown1,(World.grownBy_alloc _ _ _).trans hgrow1⟩
theorem eIs_at (e : Ev.E) (m : Mem) (b : Bool) (w : World) (h : EvL w e m) (hb : Ev.isE e = b) :
  Calls Tryz.prog 26 #[evV e m] w (Ans w (.bool b)):=by subst hb; exact eIs_any e m w h
theorem add_at (b : Nat) (us : List Tx) (t : Tx) (d : Bool) (w : World) (hs : SetU w b us) (hn : us.length <= 1000000) (ht : t.length <= 1000000) (hd : (!decide (t ∈ us)) = d) :
  Calls Tryz.prog 27 #[.map (some b),.string (str t)] w fun e w' => e = .returned (.bool d) /\ SetU w' b (us ++ [t]) /\ w.grownBy w' (some b):=by subst hd; exact add_any b us t w hs hn ht
theorem canBe_any (A : Option Addr) (n c : Nat) (l : List EM) (w : World) (hl : RowE w A l) (hn : n = l.length) (hsz : l.length <= 100000) (hb : EvsL w l) :
  Calls Tryz.prog 16 #[.slice A n c] w (Ans w (.bool (Ca.okC (l.map Prod.fst)))):=by
 subst hn
 have HR:=hide hl
 have HL:=hide hb
 clear hl hb
 have hmm:=@run_makeMap Tryz.prog
 have HS0 : Hid (SetU (w.alloc (.map #[] 0)) w.heap.size []):=hide (setU_new w)
 have HW0 : Hid (Below w.heap.size w (w.alloc (.map #[] 0))):=hide (more (start w) _)
 obtain ⟨es,hes⟩ : ∃ es,l.map Prod.fst = es:=⟨_,rfl⟩
 rw [hes]
 have hel : es.length = l.length:=by rw [<- hes,List.length_map]
 have HG : Hid (∀ (j : Nat) (h : j < l.length),es[j]'(by rw [hel]; exact h) = l[j].1):=hide (fun j h => by simp only [<- hes,List.getElem_map])
 clear hes
 go_enter Tryz.func16,Tryz.ntmps16
 go_wp2_with fail
 go_loopw [5,9] (fun _ i wr => ∃ j : Nat,j <= l.length /\ i = .int .i64 j /\ Hid (Ca.okC (es.take j) = true) /\ Hid (SetU wr w.heap.size (Ca.uidsC (es.take j))) /\ Hid (Below w.heap.size w wr /\ w.heap.size < wr.heap.size)) (fun _ i _ => l.length - (intOf i).toNat)
 case atStart => exact ⟨0,Nat.zero_le _,rfl,hide rfl,HS0,hide ⟨HW0.out,by simp⟩⟩
 case round =>
  obtain ⟨j,hj,rfl,HO,HS,HB⟩:=hrel
  by_cases hlt : j < l.length
  ·obtain ⟨b1,o1,rfl,hb1,hc1⟩:=HR.out (by intro h0; rw [h0] at hlt; exact absurd hlt (Nat.not_lt_zero _))
   have hje : j < es.length:=by rw [hel]; exact hlt
   obtain ⟨p,hp⟩ : ∃ p,l[j] = p:=⟨_,rfl⟩
   obtain ⟨e,m⟩:=p
   have h13:=hc1 j hlt
   have hem:=HL.out l[j] (List.getElem_mem _)
   have hge:=HG.out j hlt
   rw [hp] at h13 hem hge
   have HTK : Hid (es.take (j + 1) = es.take j ++ [e]):=hide (by rw [List.take_succ_eq_append_getElem hje,hge])
   have HUS : Hid ((Ca.uidsC (es.take j)).length <= 1000000):=hide (by have:=Ca.uids_take es j; omega)
   obtain ⟨p0,p1,p2,p3,p4,p5,p6,p7,p8,p9,p10,p11,p12⟩:=(h13.keep HB.out.1).all
   have hi0 : (0 : Int) <= (j : Int):=by omega
   have hi1 : (j : Int) < (l.length : Int):=by omega
   have hbV:=more (start wr) (.cells #[.string (str e.uid),.string (str e.text),.int .i64 e.st,.int .i64 e.lg,.slice m.O e.rooms.length m.oc,.int .i64 e.r.fr,.int .i64 e.r.ev,.int .i64 e.r.ct,.int .i64 e.r.un,.slice m.D e.r.ds.length m.dc,.slice m.M e.r.ms.length m.mc,.slice m.Y e.r.ys.length m.yc,.slice m.X e.ex.length m.xc] 47)
   have hem2:=(hem.keep HB.out.1).keep hbV
   have hx0:=cell_new wr #[.string (str e.uid),.string (str e.text),.int .i64 e.st,.int .i64 e.lg,.slice m.O e.rooms.length m.oc,.int .i64 e.r.fr,.int .i64 e.r.ev,.int .i64 e.r.ct,.int .i64 e.r.un,.slice m.D e.r.ds.length m.dc,.slice m.M e.r.ms.length m.mc,.slice m.Y e.r.ys.length m.yc,.slice m.X e.ex.length m.xc] 47 0 _ rfl
   have HX0:=hide hx0
   have HS2:=hide (HS.out.keep hbV)
   have HB2:=hide (andthen HB.out.1 hbV)
   have HZ2 : Hid (w.heap.size < wr.heap.size):=hide HB.out.2
   have HUL : Hid (e.uid.length <= 1000000):=hide (Nat.le_trans hem.ul (by decide))
   cases hi : Ev.isE e with
   | false =>
    have HF : Hid (Ca.okC es = false):=hide (Ca.okC_out (k:=j + 1) (by rw [HTK.out,Ca.okC_snoc,hi]; simp))
    have HI:=hide (eIs_at e m false _ hem2 hi)
    clear hbV hem2 hx0 h13 hem hge hp hi hc1
    go_wp2_with fail
    refine (HI.out).mono ?_
    rintro _ w1 ⟨rfl,hb2⟩
    have HB3:=hide (andthen HB2.out hb2)
    clear hb2
    go_wp2_with fail
    go_ret
    exact ⟨ret_bool (by rw [HF.out]),HB3.out⟩
   | true =>
    have HI:=hide (eIs_at e m true _ hem2 hi)
    obtain ⟨d,hd⟩ : ∃ d,(!decide (e.uid ∈ Ca.uidsC (es.take j))) = d:=⟨_,rfl⟩
    have HD:=hide hd
    have HN : Hid (Ca.okC (es.take (j + 1)) = d):=hide (by rw [HTK.out,Ca.okC_snoc,HO.out,hi,hd]; simp)
    have HUN : Hid (Ca.uidsC (es.take (j + 1)) = Ca.uidsC (es.take j) ++ [e.uid]):=hide (by rw [HTK.out]; simp [Ca.uidsC])
    clear hbV hem2 hx0 h13 hem hge hp hi hc1 hd
    go_wp2_with fail
    refine (HI.out).mono ?_
    rintro _ w1 ⟨rfl,hb2⟩
    have HB3:=hide (andthen HB2.out hb2)
    have HS3:=hide (HS2.out.keep hb2)
    have x0 : w1.cell? ⟨wr.heap.size,0,none⟩ = some (.string (str e.uid)):=(hb2.cell (p:=⟨wr.heap.size,0,none⟩) (by simp)).trans HX0.out
    have hz2:=hb2.size
    rw [World.size_alloc] at hz2
    clear hb2
    go_wp2_with fail
    refine (add_at w.heap.size _ e.uid d w1 HS3.out HUS.out HUL.out HD.out).mono ?_
    rintro _ w2 ⟨rfl,hs2,hg2⟩
    have HS4:=hide hs2
    have HB4:=hide (HB3.out.grown hg2 (by have:=HZ2.out; omega) (fun k hk => by injection hk with hk; omega))
    have hz3:=hg2.size
    have HZ4 : Hid (w.heap.size < w2.heap.size):=hide (by have:=HZ2.out; omega)
    clear hs2 hg2 x0
    cases d with
    | true =>
     go_wp2_with fail
     go_roundw
     case rel => exact ⟨j + 1,by omega,by go_num,HN,hide (by rw [HUN.out]; exact HS4.out),hide ⟨HB4.out,HZ4.out⟩⟩
     case measure => simp [intOf]; omega
    | false =>
     go_wp2_with fail
     go_ret
     exact ⟨ret_bool (by rw [Ca.okC_out HN.out]),HB4.out⟩
  ·obtain rfl : j = l.length:=by omega
   have HF : Hid (Ca.okC es = true):=hide (by have:=HO.out; rwa [List.take_of_length_le (by omega)] at this)
   go_wp2_with fail
   go_ret
   exact ⟨ret_bool (by rw [HF.out]),HB.out.1⟩
theorem fold_tx (t r : Tx) (w : World) (ht : t.length <= 100000) (h : Fo.foldE t = r) : Calls Tryz.prog 55 #[.string (str t)] w (Ans w (.string (str r))):=by
 have:=fold_any (str t) w (by rw [str_size]; exact ht)
 rw [str_list,h] at this
 exact this
theorem ws_tx (b : Nat) (l t : Tx) (w : World) (h : Bu w b l) (hl : l.length <= 1000000) (hs : t.length <= 1000000) :
  Calls Tryz.prog 28 #[.pointer (some ⟨b,0,none⟩),.string (str t)] w fun e w' => e = .returned (.tuple #[.int .i64 t.length,.nilIface]) /\ Bu w' b (l ++ t) /\ Below b w w':=by
 have:=ws_any b l (str t) w h hl (by rw [str_size]; exact hs)
 rw [str_list,str_size] at this
 exact this
theorem blenF_any (b : Nat) (l : Tx) (w : World) (h : Lib.IsBuilderF 66 5 b b (Lib.byteCells l) w) :
  Calls Tryz.prog 32 #[.pointer (some ⟨b,0,none⟩)] w fun e w' => e = .returned (.int .i64 l.length) /\ w = w':=by
 refine (Tryz.Builder_Len_f b b (Lib.byteCells l) w h).mono ?_
 rintro e w' ⟨rfl,rfl⟩
 exact ⟨by rw [Lib.byteCells_length],rfl⟩
theorem blen_any (b : Nat) (l : Tx) (w : World) (h : Bu w b l) :
  Calls Tryz.prog 32 #[.pointer (some ⟨b,0,none⟩)] w fun e w' => e = .returned (.int .i64 l.length) /\ w = w':=blenF_any b l w (Lib.IsBuilderF.of h)
theorem bstr_keep (b : Nat) (l : Tx) (w : World) (h : Bu w b l) :
  Calls Tryz.prog 33 #[.pointer (some ⟨b,0,none⟩)] w fun e w' => e = .returned (.string (str l)) /\ Below b w w' /\ Lib.IsBuilderF 66 5 b b (Lib.byteCells l) w':=by
 refine (Tryz.Builder_String_any_f b b l w (Lib.IsBuilderF.of h) (Nat.le_of_lt h.lt)).mono ?_
 rintro e w' ⟨rfl,h1,h2⟩
 exact ⟨rfl,h2,h1⟩
theorem flat_take_le : ∀ (l : List Tx) (k : Nat),(Fo.flat (l.take k)).length <= (Fo.flat l).length:=fun l k => by
 have h : Fo.flat l = Fo.flat (l.take k) ++ Fo.flat (l.drop k):=by rw [<- flat_app,List.take_append_drop]
 rw [h,List.length_append]; omega
theorem flat_mem {l : List Tx} {t : Tx} (h : t ∈ l) : (Fo.foldE t).length <= (Fo.flat l).length:=by
 induction l with
 | nil => cases h
 | cons a l ih =>
  rw [Fo.flat,List.length_append,List.length_append]
  rcases List.mem_cons.1 h with rfl | h
  ·omega
  ·have:=ih h; omega
theorem cwritten_any (A : Option Addr) (n c : Nat) (l : List Tx) (w : World) (hl : RowS w A l) (hn : n = l.length) (hsz : l.length <= 100000) (hb : ∀ p ∈ l,p.length <= 100000) (hf : (Fo.flat l).length <= 900000) :
  Calls Tryz.prog 29 #[.slice A n c] w (Ans w (.string (str (Fo.flat l)))):=by
 subst hn
 have HR:=hide hl
 have HL:=hide hb
 have HF:=hide hf
 clear hl hb hf
 have HB0:=hide (bu_new w)
 have HW0 : Hid (Below w.heap.size w (w.alloc (.cells #[.pointer none,.slice none 0 0] 66))):=hide (more (start w) _)
 go_enter Tryz.func29,Tryz.ntmps29
 go_wp2_with fail
 go_loopw [5,8] (fun _ i wr => ∃ j : Nat,j <= l.length /\ i = .int .i64 j /\ Hid (Bu wr w.heap.size (Fo.flat (l.take j))) /\ Hid (Below w.heap.size w wr)) (fun _ i _ => l.length - (intOf i).toNat)
 case atStart => exact ⟨0,Nat.zero_le _,rfl,HB0,HW0⟩
 case round =>
  obtain ⟨j,hj,rfl,HU,HB⟩:=hrel
  by_cases hlt : j < l.length
  ·obtain ⟨b1,o1,rfl,hb1,hc1⟩:=HR.out (by intro h0; rw [h0] at hlt; exact absurd hlt (Nat.not_lt_zero _))
   obtain ⟨t,ht⟩ : ∃ t,l[j] = t:=⟨_,rfl⟩
   have htl:=HL.out l[j] (List.getElem_mem _)
   have hfl:=flat_mem (List.getElem_mem hlt)
   have p0 : wr.cell? ⟨b1,o1 + j,none⟩ = some (.string (str t)):=(HB.out.cell (p:=⟨b1,_,none⟩) hb1).trans (by rw [<- ht]; exact hc1 j hlt)
   rw [ht] at htl hfl
   have HTK : Hid (Fo.flat (l.take (j + 1)) = (Fo.flat (l.take j) ++ Fo.foldE t) ++ Fo.crlf):=hide (by rw [List.take_succ_eq_append_getElem hlt,Fo.flat_snoc,ht,List.append_assoc])
   have HSZ : Hid ((Fo.flat (l.take j) ++ Fo.foldE t).length <= 900000 /\ (Fo.flat (l.take j)).length <= 900000 /\ (Fo.foldE t).length <= 900000):=hide (by
    have h1:=flat_take_le l (j + 1)
    have h2:=HF.out
    rw [HTK.out,List.length_append,List.length_append] at h1
    rw [List.length_append]
    omega)
   have HFO:=hide (fun w => fold_tx t _ w htl rfl)
   generalize Fo.foldE t = F at *
   generalize Fo.flat (l.take j) = G at *
   have hi0 : (0 : Int) <= (j : Int):=by omega
   have hi1 : (j : Int) < (l.length : Int):=by omega
   clear ht htl hfl hc1
   go_wp2_with fail
   refine (HFO.out _).mono ?_
   rintro _ w1 ⟨rfl,hb2⟩
   have HU2:=hide (HU.out.keep hb2)
   have HB2:=hide (andthen HB.out hb2)
   clear hb2
   go_wp2_with fail
   refine (ws_tx _ G F w1 HU2.out (by have:=HSZ.out; omega) (by have:=HSZ.out; omega)).mono ?_
   rintro _ w2 ⟨rfl,hu3,hb3⟩
   have HU3:=hide hu3
   have HB3:=hide (HB2.out.trans hb3)
   clear hu3 hb3
   go_wp2_with fail
   refine (ws_tx _ (G ++ F) Fo.crlf w2 HU3.out (by have:=HSZ.out; omega) (by decide)).mono ?_
   rintro _ w3 ⟨rfl,hu4,hb4⟩
   have HU4:=hide hu4
   have HB4:=hide (HB3.out.trans hb4)
   clear hu4 hb4
   go_wp2_with fail
   go_roundw
   case rel => exact ⟨j + 1,by omega,by go_num,hide (by rw [HTK.out]; exact HU4.out),HB4⟩
   case measure => simp [intOf]; omega
  ·obtain rfl : j = l.length:=by omega
   rw [List.take_length] at HU
   go_wp2_with fail
   refine (bstr_any _ _ wr HU.out).mono ?_
   rintro _ w1 ⟨rfl,b1⟩
   have B1:=hide (HB.out.trans b1)
   clear b1
   go_wp2_with fail
   go_ret
   exact ⟨rfl,B1.out⟩
theorem join_first (w : World) : Calls Tryz.prog 30 #[.string ⟨#[66,69,71,73,78]⟩,.string ⟨#[86,67,65,76,69,78,68,65,82]⟩] w (Ans w (.string (str Ca.firstC))) :=
 join_at ⟨#[66,69,71,73,78]⟩ ⟨#[86,67,65,76,69,78,68,65,82]⟩ Ca.firstC w (by decide) (by decide) (Fo.foldE_short _ (by decide))
theorem join_ver (w : World) : Calls Tryz.prog 30 #[.string ⟨#[86,69,82,83,73,79,78]⟩,.string ⟨#[50,46,48]⟩] w (Ans w (.string (str Ca.verC))) :=
 join_at ⟨#[86,69,82,83,73,79,78]⟩ ⟨#[50,46,48]⟩ Ca.verC w (by decide) (by decide) (Fo.foldE_short _ (by decide))
theorem join_end (w : World) : Calls Tryz.prog 30 #[.string ⟨#[69,78,68]⟩,.string ⟨#[86,67,65,76,69,78,68,65,82]⟩] w (Ans w (.string (str Ca.endC))) :=
 join_at ⟨#[69,78,68]⟩ ⟨#[86,67,65,76,69,78,68,65,82]⟩ Ca.endC w (by decide) (by decide) (Fo.foldE_short _ (by decide))
theorem head_small : (Fo.flat [Ca.firstC,Ca.verC]).length <= 300:=Nat.le_trans (flat_len 30 _ (by decide)) (by decide)
theorem end_small : (Fo.flat [Ca.endC]).length <= 300:=Nat.le_trans (flat_len 30 _ (by decide)) (by decide)
theorem written_head (c : Nat) (w : World) (A : Addr) (h : RowS w (some A) [Ca.firstC,Ca.verC]) : Calls Tryz.prog 29 #[.slice (some A) 2 c] w (Ans w (.string (str (upC [])))) :=
 by
 have h2:=cwritten_any (some A) 2 c [Ca.firstC,Ca.verC] w h rfl (by decide) (by decide) (by have:=head_small; omega)
 exact h2
theorem written_end (c : Nat) (w : World) (A : Addr) (h : RowS w (some A) [Ca.endC]) : Calls Tryz.prog 29 #[.slice (some A) 1 c] w (Ans w (.string (str (Fo.flat [Ca.endC])))) :=
 by
 have h2:=cwritten_any (some A) 1 c [Ca.endC] w h rfl (by decide) (by decide) (by have:=end_small; omega)
 exact h2
theorem elines_ev (e : Ev.E) (m : Mem) (w : World) (h : EvL w e m) (ht : Tab w) (L : List Tx) (hL : Ev.linesE unU e = L) :
  Calls Tryz.prog 31 #[evV e m] w fun x w' => ∃ A c,x = .returned (.slice A L.length c) /\ RowS w' A L /\ Below w.heap.size w w':=by
 subst hL
 refine (eLines_any e m w h ht).mono ?_
 rintro _ w' ⟨v,rfl,hown,hb⟩
 obtain ⟨A,cap,rfl,hr,_⟩:=OwnS.row hown
 exact ⟨A,cap,rfl,hr,hb⟩
theorem written_ev (e : Ev.E) (L : List Tx) (hL : Ev.linesE unU e = L) (A : Option Addr) (c : Nat) (w : World) (h : RowS w A L) : Calls Tryz.prog 29 #[.slice A L.length c] w (Ans w (.string (str (Fo.flat L)))):=by
 subst hL
 have h1:=lines_low e
 have h2:=flat_ev e
 exact cwritten_any _ _ _ _ w h rfl (by omega) (fun p hp => by have:=h1.1 p hp; omega) (by omega)
theorem upC_nil_len : (upC []).length <= 300:=head_small
def PrintsC (w : World) (es : List Ev.E) (e : Ending) (w' : World) : Prop:=Below w.heap.size w w' ∧
 if (Ca.textC unU es).length <= 8000 then e = .returned (.tuple #[.string (str (Ca.textC unU es)),.bool true]) else ∃ s,e = .returned (.tuple #[.string s,.bool false])
theorem printsC_yes {w w' : World} {es : List Ev.E} {T : Tx} (hT : Ca.textC unU es = T) (h : T.length <= 8000) (hb : Below w.heap.size w w') : PrintsC w es (.returned (.tuple #[.string (str T),.bool true])) w':=by
 subst hT
 exact ⟨hb,by rw [if_pos h]⟩
theorem printsC_no {w w' : World} {es : List Ev.E} (s : ByteArray) (h : ¬ (Ca.textC unU es).length <= 8000) (hb : Below w.heap.size w w') : PrintsC w es (.returned (.tuple #[.string s,.bool false])) w' :=
 ⟨hb,by rw [if_neg h]; exact ⟨s,rfl⟩⟩
theorem two_cells (w : World) (a b : Tx) (t : TypeId) : RowS (w.alloc (.cells #[.string (str a),.string (str b)] t)) (some ⟨w.heap.size,0,none⟩) [a,b]:=rowS_lits w t [a,b]
theorem one_cellS (w : World) (a : Tx) (t : TypeId) : RowS (w.alloc (.cells #[.string (str a)] t)) (some ⟨w.heap.size,0,none⟩) [a]:=rowS_lits w t [a]
theorem printed_any (A : Option Addr) (n c : Nat) (l : List EM) (w : World) (hl : RowE w A l) (hn : n = l.length) (hsz : l.length <= 100000) (hb : EvsL w l) (he : EnvE w) :
  Calls Tryz.prog 17 #[.slice A n c] w (PrintsC w (l.map Prod.fst)):=by
 subst hn
 have HR:=hide hl
 have HL:=hide hb
 have HENV:=hide he
 clear hl hb he
 have HU0:=hide (bu_new w)
 have hw0:=more (start w) (.cells #[.pointer none,.slice none 0 0] 66)
 have HW0:=hide hw0
 clear hw0
 obtain ⟨es,hes⟩ : ∃ es,l.map Prod.fst = es:=⟨_,rfl⟩
 rw [hes]
 have hel : es.length = l.length:=by rw [<- hes,List.length_map]
 have HG : Hid (∀ (j : Nat) (h : j < l.length),es[j]'(by rw [hel]; exact h) = l[j].1):=hide (fun j h => by simp only [<- hes,List.getElem_map])
 clear hes
 have HJ1:=hide join_first
 have HJ2:=hide join_ver
 have HJ3:=hide join_end
 go_enter Tryz.func17,Tryz.ntmps17
 go_wp2_with fail
 refine (HJ1.out _).mono ?_
 rintro _ w1 ⟨rfl,hb1⟩
 replace HU0:=hide (HU0.out.keep hb1)
 replace HW0:=hide (andthen HW0.out hb1)
 clear hb1
 go_wp2_with fail
 refine (HJ2.out _).mono ?_
 rintro _ w2 ⟨rfl,hb2⟩
 replace HU0:=hide (HU0.out.keep hb2)
 replace HW0:=hide (andthen HW0.out hb2)
 clear hb2
 go_wp2_with fail
 have hb3:=more (start w2) (.cells #[.string (str Ca.firstC),.string (str Ca.verC)] 9)
 replace HU0:=hide (HU0.out.keep hb3)
 replace HW0:=hide (andthen HW0.out hb3)
 clear hb3
 refine (written_head _ _ _ (two_cells w2 Ca.firstC Ca.verC _)).mono ?_
 rintro _ w4 ⟨rfl,hb4⟩
 replace HU0:=hide (HU0.out.keep hb4)
 replace HW0:=hide (andthen HW0.out hb4)
 clear hb4
 go_wp2_with fail
 refine (ws_tx _ [] (upC []) w4 HU0.out (by decide) (by have:=upC_nil_len; omega)).mono ?_
 rintro _ w5 ⟨rfl,hu5,hb5⟩
 replace HU0:=hide hu5
 replace HW0:=hide (HW0.out.trans hb5)
 clear hu5 hb5
 go_wp2_with fail
 go_loopw [6,14] (fun _ i wr => ∃ j : Nat,j <= l.length /\ i = .int .i64 j /\ Hid (Bu wr w.heap.size (upC (es.take j)) /\ (upC (es.take j)).length <= 8000) /\ Hid (Below w.heap.size w wr)) (fun _ i _ => l.length - (intOf i).toNat)
 case atStart => exact ⟨0,Nat.zero_le _,rfl,hide ⟨HU0.out,by rw [List.take_zero]; have:=upC_nil_len; omega⟩,HW0⟩
 case round =>
  obtain ⟨j,hj,rfl,HU,HB⟩:=hrel
  by_cases hlt : j < l.length
  ·obtain ⟨b1,o1,rfl,hb1,hc1⟩:=HR.out (by intro h0; rw [h0] at hlt; exact absurd hlt (Nat.not_lt_zero _))
   have hje : j < es.length:=by rw [hel]; exact hlt
   obtain ⟨p,hp⟩ : ∃ p,l[j] = p:=⟨_,rfl⟩
   obtain ⟨e,m⟩:=p
   have h13:=hc1 j hlt
   have hem:=HL.out l[j] (List.getElem_mem _)
   have hge:=HG.out j hlt
   rw [hp] at h13 hem hge
   have HTK : Hid (upC (es.take (j + 1)) = upC (es.take j) ++ Fo.flat (Ev.linesE unU e)):=hide (by rw [List.take_succ_eq_append_getElem hje,hge,upC_snoc])
   have HSZ : Hid ((Fo.flat (Ev.linesE unU e)).length <= 139000):=hide (flat_ev e)
   have HLE : Hid ((upC (es.take (j + 1))).length <= (Ca.textC unU es).length):=hide (by have:=upC_le (es.take (j + 1)) (es.drop (j + 1)); rwa [List.take_append_drop] at this)
   obtain ⟨L,hL⟩ : ∃ L,Ev.linesE unU e = L:=⟨_,rfl⟩
   rw [hL] at HTK HSZ
   obtain ⟨p0,p1,p2,p3,p4,p5,p6,p7,p8,p9,p10,p11,p12⟩:=(h13.keep HB.out).all
   have hi0 : (0 : Int) <= (j : Int):=by omega
   have hi1 : (j : Int) < (l.length : Int):=by omega
   have hbV:=more (start wr) (.cells #[.string (str e.uid),.string (str e.text),.int .i64 e.st,.int .i64 e.lg,.slice m.O e.rooms.length m.oc,.int .i64 e.r.fr,.int .i64 e.r.ev,.int .i64 e.r.ct,.int .i64 e.r.un,.slice m.D e.r.ds.length m.dc,.slice m.M e.r.ms.length m.mc,.slice m.Y e.r.ys.length m.yc,.slice m.X e.ex.length m.xc] 47)
   have hem2:=(hem.keep HB.out).keep hbV
   have HU2:=hide (HU.out.1.keep hbV)
   have HB2:=hide (andthen HB.out hbV)
   have HI:=hide (elines_ev e m _ hem2 (HENV.out.keep HB2.out).e.tab L hL)
   have HWE:=hide (fun A c w h => written_ev e L hL A c w h)
   obtain ⟨G,hG⟩ : ∃ G,upC (es.take j) = G:=⟨_,rfl⟩
   have HGL : Hid (G.length <= 8000):=hide (hG ▸ HU.out.2)
   rw [hG] at HTK HU2
   generalize Fo.flat L = F at *
   generalize L.length = LN at *
   clear hbV hem2 h13 hem hge hp hc1 hG hL
   go_wp2_with fail
   refine (HI.out).mono ?_
   rintro _ w1 ⟨A1,c1,rfl,hrow1,hb1'⟩
   have HU3:=hide (HU2.out.keep hb1')
   have HB3:=hide (andthen HB2.out hb1')
   clear hb1'
   go_wp2_with fail
   refine (HWE.out _ _ _ hrow1).mono ?_
   rintro _ w2 ⟨rfl,hb2⟩
   have HU4:=hide (HU3.out.keep hb2)
   have HB4:=hide (andthen HB3.out hb2)
   clear hb2 hrow1
   go_wp2_with fail
   refine (ws_tx _ G F w2 HU4.out (by have:=HGL.out; omega) (by have:=HSZ.out; omega)).mono ?_
   rintro _ w3 ⟨rfl,hu5,hb5⟩
   have HU5:=hide hu5
   have HB5:=hide (HB4.out.trans hb5)
   clear hu5 hb5
   rw [<- HTK.out] at HU5
   go_wp2_with fail
   refine (blen_any _ _ w3 HU5.out).mono ?_
   rintro _ w6 ⟨rfl,rfl⟩
   by_cases hbig : 8000 < (upC (es.take (j + 1))).length
   ·have hbi : (8000 : Int) < ((upC (es.take (j + 1))).length : Int):=by omega
    have HNO : Hid (¬ (Ca.textC unU es).length <= 8000):=hide (by have:=HLE.out; omega)
    go_wp2_with fail
    go_ret2
    exact printsC_no _ HNO.out HB5.out
   ·have hbi : ¬ (8000 : Int) < ((upC (es.take (j + 1))).length : Int):=by omega
    have HOK : Hid ((upC (es.take (j + 1))).length <= 8000):=hide (by omega)
    go_wp2_with fail
    go_roundw
    case rel => exact ⟨j + 1,by omega,by go_num,hide ⟨HU5.out,HOK.out⟩,HB5⟩
    case measure => simp [intOf]; omega
  ·obtain rfl : j = l.length:=by omega
   rw [List.take_of_length_le (by omega)] at HU
   have HTX : Hid (upC es ++ Fo.flat [Ca.endC] = Ca.textC unU es):=hide (textC_up es).symm
   have HE0:=hide end_small
   obtain ⟨G,hG⟩ : ∃ G,upC es = G:=⟨_,rfl⟩
   rw [hG] at HU HTX
   clear hG
   go_wp2_with fail
   refine (HJ3.out _).mono ?_
   rintro _ w1 ⟨rfl,hb1⟩
   have HU1:=hide (HU.out.1.keep hb1)
   have HB1:=hide (andthen HB.out hb1)
   clear hb1
   go_wp2_with fail
   have hb3:=more (start w1) (.cells #[.string (str Ca.endC)] 9)
   have HU2:=hide (HU1.out.keep hb3)
   have HB2:=hide (andthen HB1.out hb3)
   clear hb3
   refine (written_end _ _ _ (one_cellS w1 Ca.endC _)).mono ?_
   rintro _ w4 ⟨rfl,hb4⟩
   have HU3:=hide (HU2.out.keep hb4)
   have HB3:=hide (andthen HB2.out hb4)
   clear hb4
   go_wp2_with fail
   refine (ws_tx _ G _ w4 HU3.out (by have:=HU.out.2; omega) (by have:=HE0.out; omega)).mono ?_
   rintro _ w5 ⟨rfl,hu5,hb5⟩
   have HU5:=hide hu5
   have HB5:=hide (HB3.out.trans hb5)
   clear hu5 hb5
   obtain ⟨T,hT⟩ : ∃ T,Ca.textC unU es = T:=⟨_,rfl⟩
   have HT:=hide hT
   rw [HTX.out,hT] at HU5
   clear hT
   go_wp2_with fail
   refine (bstr_keep _ _ w5 HU5.out).mono ?_
   rintro _ w6 ⟨rfl,hb6,hf6⟩
   have HB6:=hide (HB5.out.trans hb6)
   have HF6:=hide hf6
   clear hb6 hf6
   go_wp2_with fail
   refine (blenF_any _ _ w6 HF6.out).mono ?_
   rintro _ w7 ⟨rfl,rfl⟩
   by_cases hbig : T.length <= 8000
   ·have hbi : decide (((T.length : Nat) : Int) <= 8000) = true:=decide_eq_true (by omega)
    have hbj : ((T.length : Nat) : Int) <= 8000:=by omega
    go_wp2_with fail
    go_ret2
    exact printsC_yes HT.out hbig HB6.out
   ·have hbi : decide (((T.length : Nat) : Int) <= 8000) = false:=decide_eq_false (by omega)
    have hbj : ¬ ((T.length : Nat) : Int) <= 8000:=by omega
    go_wp2_with fail
    go_ret2
    exact printsC_no _ (by rw [HT.out]; exact hbig) HB6.out
def PrintB (w : World) (es : List Ev.E) (e : Ending) (w' : World) : Prop:=Below w.heap.size w w' /\ e = .returned (.tuple #[.string (str (Ca.printC unU es).1),.int .i64 (Ca.printC unU es).2])
theorem cPrint_any (A : Option Addr) (n c : Nat) (l : List EM) (w : World) (hl : RowE w A l) (hn : n = l.length) (hsz : l.length <= 100000) (hb : EvsL w l) (he : EnvE w) :
  Calls Tryz.prog 9 #[.slice A n c] w (PrintB w (l.map Prod.fst)):=by
 have HC:=hide (canBe_any A n c l w hl hn hsz hb)
 have HP:=hide (fun w hl hb he => printed_any A n c l w hl hn hsz hb he)
 have HR:=hide hl
 have HL:=hide hb
 have HENV:=hide he
 obtain ⟨es,hes⟩ : ∃ es,l.map Prod.fst = es:=⟨_,rfl⟩
 rw [hes] at HC HP ⊢
 clear hl hb he hes hn hsz
 obtain ⟨P,hP⟩ : ∃ P,Ca.printC unU es = P:=⟨_,rfl⟩
 have HPP:=hide hP
 unfold Ca.printC at hP
 cases hk : Ca.okC es with
 | false =>
  rw [hk,if_neg (by decide)] at hP
  rw [hk] at HC
  have HQ:=hide hP
  clear hP hk
  go_enter Tryz.func9,Tryz.ntmps9
  go_wp2_with fail
  refine (HC.out).mono ?_
  rintro _ w1 ⟨rfl,hb1⟩
  have HB1:=hide hb1
  clear hb1
  go_wp2_with fail
  go_ret2
  exact ⟨HB1.out,by rw [HPP.out,<- HQ.out]; rfl⟩
 | true =>
  rw [hk,if_pos rfl] at hP
  rw [hk] at HC
  by_cases hbig : (Ca.textC unU es).length <= 8000
  ·rw [if_neg (by omega)] at hP
   have HQ:=hide hP
   have HBIG:=hide hbig
   clear hP hk hbig
   go_enter Tryz.func9,Tryz.ntmps9
   go_wp2_with fail
   refine (HC.out).mono ?_
   rintro _ w1 ⟨rfl,hb1⟩
   have HB1:=hide hb1
   clear hb1
   go_wp2_with fail
   refine (HP.out _ (HR.out.keep HB1.out) (HL.out.keep HB1.out) (HENV.out.keep HB1.out)).mono ?_
   rintro _ w2 ⟨hb2,h2⟩
   rw [if_pos HBIG.out] at h2
   subst h2
   have HB2:=hide (andthen HB1.out hb2)
   clear hb2
   go_wp2_with fail
   go_ret2
   exact ⟨HB2.out,by rw [HPP.out,<- HQ.out]; rfl⟩
  ·rw [if_pos (by omega)] at hP
   have HQ:=hide hP
   have HBIG:=hide hbig
   clear hP hk hbig
   go_enter Tryz.func9,Tryz.ntmps9
   go_wp2_with fail
   refine (HC.out).mono ?_
   rintro _ w1 ⟨rfl,hb1⟩
   have HB1:=hide hb1
   clear hb1
   go_wp2_with fail
   refine (HP.out _ (HR.out.keep HB1.out) (HL.out.keep HB1.out) (HENV.out.keep HB1.out)).mono ?_
   rintro _ w2 ⟨hb2,h2⟩
   rw [if_neg HBIG.out] at h2
   obtain ⟨s,rfl⟩:=h2
   have HB2:=hide (andthen HB1.out hb2)
   clear hb2
   go_wp2_with fail
   go_ret2
   exact ⟨HB2.out,by rw [HPP.out,<- HQ.out]; rfl⟩
end Go.Proofs.YtfecnkhoojnkbaaGreatDoor

/- Walks of the document's reading of an event: hostelryref8's set, the event in a block of its own. -/
import Derived.Test.YtgdjeddelcfgeaaGreatDoorXW18
import Derived.Test.YtgdjeddelcfgeaaGreatDoorXW20
import Derived.Test.YtgdjeddelcfgeaaGreatDoorXW11
import Derived.Test.YtgdjeddelcfgeaaGreatDoorXW16
import Derived.Test.YtgdjeddelcfgeaaGreatDoorXFoR
namespace Go.Proofs.YtgdjeddelcfgeaaGreatDoor
open Go.RowKit Rul Rt Go.Sort

abbrev evC (e : Ev.E) (m : Mem) : List Value:=[.string (str e.uid),.string (str e.text),.int .i64 e.st,.int .i64 e.lg,.slice m.O e.rooms.length m.oc,.int .i64 e.r.fr,.int .i64 e.r.ev,.int .i64 e.r.ct,.int .i64 e.r.un,.slice m.D e.r.ds.length m.dc,.slice m.M e.r.ms.length m.mc,.slice m.Y e.r.ys.length m.yc,.slice m.X e.ex.length m.xc]
def OffX {α : Type} (B : Nat) (l : List α) (A : Option Addr) : Prop:=l ≠ [] → ∀ g o,A = some ⟨g,o,none⟩ → B ≤ g
structure EvAt (w : World) (X B : Nat) (e : Ev.E) (m : Mem) : Prop where
 k : BlkAt w X (evC e m)
 l : EvL w e m
 oo : OffX B e.rooms m.O
 od : OffX B e.r.ds m.D
 om : OffX B e.r.ms m.M
 oy : OffX B e.r.ys m.Y
 ox : OffX B e.ex m.X
 xb : X < B
 bs : B ≤ w.heap.size
theorem EvAt.keep {w w' : World} {X B : Nat} {e : Ev.E} {m : Mem} (h : EvAt w X B e m) (hb : Below w.heap.size w w') : EvAt w' X B e m :=
 ⟨h.k.keep hb,h.l.keep hb,h.oo,h.od,h.om,h.oy,h.ox,h.xb,Nat.le_trans h.bs hb.size⟩
theorem OffX.row {α : Type} {X B : Nat} {l : List α} {A : Option Addr} (h : OffX B l A) (hX : X < B) : l ≠ [] → ∀ b o,A = some ⟨b,o,none⟩ → some b ≠ some X:=fun hn b o e k => by have:=h hn b o e; injection k with k; omega
theorem EvAt.put {w w' : World} {X B : Nat} {e : Ev.E} {m : Mem} (hx : X < B) (hs : B ≤ w.heap.size) (k : BlkAt w' X (evC e m)) (g : w.grownBy w' (some X)) (l : EvL w e m) (oo : OffX B e.rooms m.O) (od : OffX B e.r.ds m.D) (om : OffX B e.r.ms m.M) (oy : OffX B e.r.ys m.Y) (ox : OffX B e.ex m.X) : EvAt w' X B e m :=
 ⟨k,l.past g (oo.row hx) (od.row hx) (om.row hx) (oy.row hx) (ox.row hx),oo,od,om,oy,ox,hx,Nat.le_trans hs g.size⟩
theorem EvAt.far {w : World} {X B c i : Nat} {e : Ev.E} {m : Mem} {y : Value} (h : EvAt w X B e m) (hc : c < B) (hne : c ≠ X) : EvAt (w.setCell ⟨c,i,none⟩ y) X B e m :=
 ⟨h.k.far hne,h.l.past (grown_set (start w)) (h.oo.row hc) (h.od.row hc) (h.om.row hc) (h.oy.row hc) (h.ox.row hc),h.oo,h.od,h.om,h.oy,h.ox,h.xb,by rw [World.size_setCell]; exact h.bs⟩
theorem offX_new {α : Type} {B N : Nat} {l : List α} {A : Option Addr} (h : ∀ g o,A = some ⟨g,o,none⟩ → N ≤ g) (hX : B ≤ N) : OffX B l A:=fun _ g o e => Nat.le_trans hX (h g o e)
def SetsD (w : World) (X B : Nat) (o : Option Ev.E) (e : Ending) (w' : World) : Prop :=
 w.grownBy w' (some X) ∧ match o with
  | none => e = .returned (.bool false)
  | some q => e = .returned (.bool true) ∧ ∃ m,EvAt w' X B q m

set_option maxRecDepth 100000 in
set_option maxHeartbeats 2000000 in
theorem dset_0 (t : Tx) (X B : Nat) (e : Ev.E) (m : Mem) (w : World) (h : EvAt w X B e m) (ht : t.length ≤ 400) :
  Calls Tryz.prog 49 #[.pointer (some ⟨X,0,none⟩),.string (str Ev.nUID),.string (str t)] w (SetsD w X B (Ev.setE unU e Ev.nUID t)):=by
 have H0 : Ev.setE unU e Ev.nUID t = if Ev.uidB t = true then some { e with uid:=t } else none:=Ev.setE_0 ..
 rw [H0]
 clear H0
 obtain ⟨N,hN⟩ : ∃ N,Ev.nUID = N:=⟨_,rfl⟩
 have e0 : (N == [85,73,68]) = true:=by rw [← hN]; decide
 have q1:=str_tl N
 have hts : (str t).size ≤ 400:=by rw [str_size]; exact ht
 have htl : (str t).data.toList = t:=str_list t
 have H:=hide h
 have hX:=h.k.lt
 have hxb:=h.xb
 have hbs:=h.bs
 rw [hN]
 clear h hN
 have HC:=hide (fun w => rcall_u t w (by omega) rfl)
 generalize Ev.uidB t = B at *
 obtain ⟨O,hO⟩ : ∃ O,(if B = true then some { e with uid:=t } else none) = O:=⟨_,rfl⟩
 rw [hO]
 have HO:=hide hO
 clear hO
 have ck : w.cell? ⟨X,0,none⟩ = some (.string (str e.uid)):=H.out.k.cell 0 (by simp)
 have fk:=H.out.k.free 0
 go_enter Tryz.func49,Tryz.ntmps49
 go_wp2_with fail
 refine (HC.out _).mono ?_
 rintro e w1 ⟨rfl,rfl⟩
 go_wp2_with fail
 go_ret
 have hg:=grown_set (b:=X) (i:=0) (y:=.string (str t)) (start w)
 cases B with
 | true =>
  rw [← HO.out,if_pos rfl]
  exact ⟨hg,rfl,m,EvAt.put hxb hbs ((H.out.k.set 0 (.string (str t)) (by simp)).is rfl) hg ⟨H.out.l.o,H.out.l.ol,H.out.l.r,H.out.l.x,H.out.l.xl,by show t.length ≤ 40000; omega,H.out.l.tl⟩ H.out.oo H.out.od H.out.om H.out.oy H.out.ox⟩
 | false => rw [← HO.out,if_neg (by decide)]; exact ⟨hg,rfl⟩

set_option maxRecDepth 100000 in
set_option maxHeartbeats 2000000 in
theorem dset_1 (t : Tx) (X B : Nat) (e : Ev.E) (m : Mem) (w : World) (h : EvAt w X B e m) (ht : t.length ≤ 400) :
  Calls Tryz.prog 49 #[.pointer (some ⟨X,0,none⟩),.string (str Ev.nSTART),.string (str t)] w (SetsD w X B (Ev.setE unU e Ev.nSTART t)):=by
 have H0 : Ev.setE unU e Ev.nSTART t = (unU.f t).map fun m => { e with st:=m }:=Ev.setE_1 ..
 rw [H0]
 clear H0
 obtain ⟨N,hN⟩ : ∃ N,Ev.nSTART = N:=⟨_,rfl⟩
 have e0 : (N == [85,73,68]) = false:=by rw [← hN]; decide
 have e1 : (N == [68,84,83,84,65,82,84]) = true:=by rw [← hN]; decide
 have q1:=str_tl N
 have hts : (str t).size ≤ 400:=by rw [str_size]; exact ht
 have htl : (str t).data.toList = t:=str_list t
 have H:=hide h
 have hX:=h.k.lt
 have hxb:=h.xb
 have hbs:=h.bs
 rw [hN]
 clear h hN
 have HC:=hide (fun w => rParse_any (str t) w)
 rw [htl] at HC
 have hun : unU.f t = if (parseE t).2 = 0 then some (parseE t).1 else none:=rfl
 rw [hun]
 obtain ⟨⟨n,c⟩,hP⟩ : ∃ P,parseE t = P:=⟨_,rfl⟩
 rw [hP] at HC ⊢
 clear hun hP
 simp only at HC ⊢
 by_cases hc : c = 0
 ·have q2 : (c == 0) = true:=beq_iff_eq.2 hc
  rw [if_pos hc]
  clear hc
  go_enter Tryz.func49,Tryz.ntmps49
  go_wp2_with fail
  refine (HC.out _).mono ?_
  rintro _ w1 ⟨rfl,hb⟩
  have H1:=hide (H.out.keep hb)
  have HB:=hide hb
  have ck : w1.cell? ⟨X,2,none⟩ = some (.int .i64 e.st):=H1.out.k.cell 2 (by simp)
  have fk:=H1.out.k.free 2
  clear hb
  go_wp2_with fail
  go_ret
  have hg:=grown_set (b:=X) (i:=2) (y:=.int .i64 n) HB.out
  exact ⟨hg,rfl,m,EvAt.put hxb H1.out.bs ((H1.out.k.set 2 (.int .i64 n) (by simp)).is rfl) (grown_set (start w1)) ⟨H1.out.l.o,H1.out.l.ol,H1.out.l.r,H1.out.l.x,H1.out.l.xl,H1.out.l.ul,H1.out.l.tl⟩ H1.out.oo H1.out.od H1.out.om H1.out.oy H1.out.ox⟩
 ·have q2 : (c == 0) = false:=beq_eq_false_iff_ne.2 hc
  rw [if_neg hc]
  clear hc
  go_enter Tryz.func49,Tryz.ntmps49
  go_wp2_with fail
  refine (HC.out _).mono ?_
  rintro _ w1 ⟨rfl,hb⟩
  have H1:=hide (H.out.keep hb)
  have HB:=hide hb
  have ck : w1.cell? ⟨X,2,none⟩ = some (.int .i64 e.st):=H1.out.k.cell 2 (by simp)
  have fk:=H1.out.k.free 2
  clear hb
  go_wp2_with fail
  go_ret
  exact ⟨grown_set (b:=X) (i:=2) (y:=.int .i64 n) HB.out,rfl⟩

theorem long_no {t : Tx} (h : t.length < 4 ∨ t.take 2 ≠ Ev.wPT ∨ t.getLast? ≠ some 77) : Ev.longE t = none:=by
 rw [Ev.long_agree]
 unfold Ev.longR
 split
 ·rename_i hf
  unfold Ev.longForm at hf
  rw [Bool.and_eq_true,Bool.and_eq_true,decide_eq_true_eq,decide_eq_true_eq,decide_eq_true_eq] at hf
  rcases h with h | h | h
  ·have : Ev.within t = []:=List.eq_nil_of_length_eq_zero (by unfold Ev.within; rw [List.length_dropLast,List.length_drop]; omega)
   rw [this]; rfl
  ·exact absurd hf.1 h
  ·exact absurd hf.2.2 h
 ·rfl
theorem long_yes {t : Tx} (h1 : ¬ t.length < 4) (h2 : t.take 2 = Ev.wPT) (h3 : t.getLast? = some 77) : Ev.longE t = Ev.keepI Ev.lgB (decR (Ev.within t) false):=by
 rw [Ev.long_agree]
 unfold Ev.longR Ev.longForm
 rw [decide_eq_true h2,decide_eq_true h3,decide_eq_true (show 3 ≤ t.length by omega)]
 exact if_pos rfl
set_option maxRecDepth 100000 in
set_option maxHeartbeats 2000000 in
theorem dset_2 (t : Tx) (X B : Nat) (e : Ev.E) (m : Mem) (w : World) (h : EvAt w X B e m) (ht : t.length ≤ 400) :
  Calls Tryz.prog 49 #[.pointer (some ⟨X,0,none⟩),.string (str Ev.nLONG),.string (str t)] w (SetsD w X B (Ev.setE unU e Ev.nLONG t)):=by
 have H0 : Ev.setE unU e Ev.nLONG t = (Ev.longE t).map fun m => { e with lg:=m }:=Ev.setE_2 ..
 rw [H0]
 clear H0
 obtain ⟨N,hN⟩ : ∃ N,Ev.nLONG = N:=⟨_,rfl⟩
 have e0 : (N == [85,73,68]) = false:=by rw [← hN]; decide
 have e1 : (N == [68,84,83,84,65,82,84]) = false:=by rw [← hN]; decide
 have e2 : (N == [68,85,82,65,84,73,79,78]) = true:=by rw [← hN]; decide
 have q1:=str_tl N
 have hts : (str t).size ≤ 400:=by rw [str_size]; exact ht
 have htl : (str t).data.toList = t:=str_list t
 have H:=hide h
 have hX:=h.k.lt
 have hxb:=h.xb
 have hbs:=h.bs
 rw [hN]
 clear h hN
 have HL1:=hide (fun h => long_no (t:=t) h)
 have HL2:=hide (fun h1 h2 h3 => long_yes (t:=t) h1 h2 h3)
 obtain ⟨L,hL⟩ : ∃ L,Ev.longE t = L:=⟨_,rfl⟩
 rw [hL] at HL1 HL2 ⊢
 clear hL
 have hs2 : (str t).extract 0 2 = str (t.take 2):=by rw [ext_str,str_list,List.drop_zero]
 by_cases h4 : t.length < 4
 ·have g : ((str t).size : Int) < 4:=by rw [str_size]; omega
  have HL:=hide (HL1.out (Or.inl h4))
  rw [HL.out]
  clear h4 hs2
  go_enter Tryz.func49,Tryz.ntmps49
  go_wp2_with fail
  go_ret
  exact ⟨grown_below (start _),rfl⟩
 ·obtain ⟨P,hP⟩ : ∃ P,t.take 2 = P:=⟨_,rfl⟩
  rw [hP] at hs2
  have qp:=str_tl P
  obtain ⟨n,hn⟩ : ∃ n,t.length = n + 1:=⟨t.length - 1,by omega⟩
  have hsz : (str t).size = n + 1:=by rw [str_size]; exact hn
  have g1 : ¬ ((str t).size : Int) < 4:=by omega
  have g2 : (2 : Int) ≤ ((str t).size : Int):=by omega
  by_cases h2 : P = Ev.wPT
  ·have ep : (P == [80,84]) = true:=beq_iff_eq.2 h2
   have hns : n < (str t).size:=by omega
   obtain ⟨c,hc⟩ : ∃ c,(str t)[n]'hns = c:=⟨_,rfl⟩
   have hlast : t.getLast? = some c:=by
    rw [List.getLast?_eq_getElem?,hn,Nat.add_sub_cancel,List.getElem?_eq_getElem (by omega),← hc]
    have:=byte_list (str t) n hns (by rw [str_list]; omega)
    rw [← this]
    simp only [str_list]
   have hb7 : ((c.toNat : Int) == 77) = decide (c = 77):=byte_eq c 77
   by_cases h7 : c = 77
   ·have q7 : ((c.toNat : Int) != 77) = false:=by rw [bne,hb7,decide_eq_true h7]; rfl
    have HL:=hide (HL2.out h4 (by rw [hP]; exact h2) (by rw [hlast,h7]))
    have hw : (str t).extract 2 n = str (Ev.within t):=by
     rw [ext_str,str_list]
     congr 1
     unfold Ev.within
     rw [List.dropLast_eq_take,List.length_drop,hn,List.drop_take]
     congr 1
    have hwl : (Ev.within t).length ≤ 400:=by unfold Ev.within; rw [List.length_dropLast,List.length_drop]; omega
    have HDC:=hide (fun w => rDec_any (str (Ev.within t)) false w (by rw [str_size]; omega))
    rw [str_list] at HDC
    have ck : w.cell? ⟨X,3,none⟩ = some (.int .i64 e.lg):=H.out.k.cell 3 (by simp)
    have fk:=H.out.k.free 3
    have g3 : (2 : Int) ≤ (n : Int):=by omega
    have g4 : (n : Int) ≤ (n : Int) + 1:=by omega
    generalize Ev.within t = V at *
    clear hb7 h4 h2 h7 hP hlast HL1 HL2 hn
    cases hd : decR V false with
    | none =>
     rw [decA_none hd] at HDC
     have HLN : Hid (L = none):=hide (by rw [HL.out,hd]; rfl)
     have ck2 : (w.setCell ⟨X,3,none⟩ (.int .i64 0)).cell? ⟨X,3,none⟩ = some (.int .i64 0):=World.cell?_setCell_same _ _ _ ck
     clear hd HL
     go_enter Tryz.func49,Tryz.ntmps49
     go_wp2_with fail
     refine (HDC.out _).mono ?_
     rintro _ w1 ⟨rfl,rfl⟩
     go_wp2_with fail
     go_ret
     rw [HLN.out]
     exact ⟨grown_set (b:=X) (i:=3) (y:=.int .i64 0) (start _),rfl⟩
    | some x =>
     rw [decA_some hd] at HDC
     have HLN : Hid (L = Ev.keepI Ev.lgB (some x)):=hide (by rw [HL.out,hd])
     have HG:=hide (grown_set (b:=X) (i:=3) (y:=.int .i64 x) (start w))
     have HN : Hid (EvAt (w.setCell ⟨X,3,none⟩ (.int .i64 x)) X B { e with lg:=x } m):=hide (EvAt.put hxb hbs ((H.out.k.set 3 (.int .i64 x) (by simp)).is rfl) HG.out ⟨H.out.l.o,H.out.l.ol,H.out.l.r,H.out.l.x,H.out.l.xl,H.out.l.ul,H.out.l.tl⟩ H.out.oo H.out.od H.out.om H.out.oy H.out.ox)
     have ck2 : (w.setCell ⟨X,3,none⟩ (.int .i64 x)).cell? ⟨X,3,none⟩ = some (.int .i64 x):=World.cell?_setCell_same _ _ _ ck
     clear hd HL
     by_cases x1 : 1 ≤ x
     ·have d1 : decide ((1 : Int) ≤ x) = true:=decide_eq_true x1
      by_cases x2 : x ≤ 10080
      ·have d2 : decide (x ≤ (10080 : Int)) = true:=decide_eq_true x2
       have HE : Hid (L = some x):=hide (by rw [HLN.out,Ev.keepI_some]; exact ⟨rfl,by rw [Ev.lgB,btw_iff]; omega⟩)
       clear x1 x2 HLN
       go_enter Tryz.func49,Tryz.ntmps49
       go_wp2_with fail
       refine (HDC.out _).mono ?_
       rintro _ w1 ⟨rfl,rfl⟩
       go_wp2_with fail
       go_ret
       rw [HE.out]
       exact ⟨HG.out,rfl,_,HN.out⟩
      ·have d2 : decide (x ≤ (10080 : Int)) = false:=decide_eq_false x2
       have HE : Hid (L = none):=hide (by
        rw [HLN.out]
        unfold Ev.keepI
        simp only
        rw [if_neg]
        rw [Ev.lgB,btw_iff]; omega)
       clear x1 x2 HLN
       go_enter Tryz.func49,Tryz.ntmps49
       go_wp2_with fail
       refine (HDC.out _).mono ?_
       rintro _ w1 ⟨rfl,rfl⟩
       go_wp2_with fail
       go_ret
       rw [HE.out]
       exact ⟨HG.out,rfl⟩
     ·have d1 : decide ((1 : Int) ≤ x) = false:=decide_eq_false x1
      have HE : Hid (L = none):=hide (by
       rw [HLN.out]
       unfold Ev.keepI
       simp only
       rw [if_neg]
       rw [Ev.lgB,btw_iff]; omega)
      clear x1 HLN
      go_enter Tryz.func49,Tryz.ntmps49
      go_wp2_with fail
      refine (HDC.out _).mono ?_
      rintro _ w1 ⟨rfl,rfl⟩
      go_wp2_with fail
      go_ret
      rw [HE.out]
      exact ⟨HG.out,rfl⟩
   ·have q7 : ((c.toNat : Int) != 77) = true:=by rw [bne,hb7,decide_eq_false h7]; rfl
    have HL:=hide (HL1.out (Or.inr (Or.inr (by rw [hlast]; intro e; injection e with e; exact h7 e))))
    clear hb7 h4 h2 h7 hP hlast HL1 HL2 hn
    go_enter Tryz.func49,Tryz.ntmps49
    go_wp2_with fail
    go_ret
    rw [HL.out]
    exact ⟨grown_below (start _),rfl⟩
  ·have ep : (P == [80,84]) = false:=beq_eq_false_iff_ne.2 h2
   have HL:=hide (HL1.out (Or.inr (Or.inl (by rw [hP]; exact h2))))
   rw [HL.out]
   clear h4 h2 hP
   go_enter Tryz.func49,Tryz.ntmps49
   go_wp2_with fail
   go_ret
   exact ⟨grown_below (start _),rfl⟩

set_option maxRecDepth 100000 in
set_option maxHeartbeats 2000000 in
theorem dset_3 (t : Tx) (X B : Nat) (e : Ev.E) (m : Mem) (w : World) (h : EvAt w X B e m) (ht : t.length ≤ 400) :
  Calls Tryz.prog 49 #[.pointer (some ⟨X,0,none⟩),.string (str Ev.nRULE),.string (str t)] w (SetsD w X B (Ev.setE unU e Ev.nRULE t)):=by
 have H0 : Ev.setE unU e Ev.nRULE t = (ansC unU t).map fun r => { e with r:=r }:=Ev.setE_3 ..
 rw [H0]
 clear H0
 obtain ⟨N,hN⟩ : ∃ N,Ev.nRULE = N:=⟨_,rfl⟩
 have e0 : (N == [85,73,68]) = false:=by rw [← hN]; decide
 have e1 : (N == [68,84,83,84,65,82,84]) = false:=by rw [← hN]; decide
 have e2 : (N == [68,85,82,65,84,73,79,78]) = false:=by rw [← hN]; decide
 have e3 : (N == [82,82,85,76,69]) = true:=by rw [← hN]; decide
 have q1:=str_tl N
 have hts : (str t).size ≤ 400:=by rw [str_size]; exact ht
 have htl : (str t).data.toList = t:=str_list t
 have H:=hide h
 have hX:=h.k.lt
 have hxb:=h.xb
 have hbs:=h.bs
 rw [hN]
 clear h hN
 have HC:=hide (fun w => rread_any (str t) w (by omega))
 rw [htl,← ans_agree] at HC
 generalize ansC unU t = O at *
 go_enter Tryz.func49,Tryz.ntmps49
 go_wp2_with fail
 refine (HC.out _).mono ?_
 rintro _ w1 ⟨hb,⟨rfl,rfl⟩ | ⟨q,D,dn,dc,M,mn,mc,Y,yn,yc,rfl,rfl,hr⟩⟩
 ·unfold noRule
  have H1:=hide (H.out.keep hb)
  have HB:=hide hb
  have ck0 : w1.cell? ⟨X,5,none⟩ = some (.int .i64 e.r.fr):=H1.out.k.cell 5 (by simp)
  have fk0:=H1.out.k.free 5
  have ck1 : w1.cell? ⟨X,6,none⟩ = some (.int .i64 e.r.ev):=H1.out.k.cell 6 (by simp)
  have fk1:=H1.out.k.free 6
  have ck2 : w1.cell? ⟨X,7,none⟩ = some (.int .i64 e.r.ct):=H1.out.k.cell 7 (by simp)
  have fk2:=H1.out.k.free 7
  have ck3 : w1.cell? ⟨X,8,none⟩ = some (.int .i64 e.r.un):=H1.out.k.cell 8 (by simp)
  have fk3:=H1.out.k.free 8
  have ck4 : w1.cell? ⟨X,9,none⟩ = some (.slice m.D e.r.ds.length m.dc):=H1.out.k.cell 9 (by simp)
  have fk4:=H1.out.k.free 9
  have ck5 : w1.cell? ⟨X,10,none⟩ = some (.slice m.M e.r.ms.length m.mc):=H1.out.k.cell 10 (by simp)
  have fk5:=H1.out.k.free 10
  have ck6 : w1.cell? ⟨X,11,none⟩ = some (.slice m.Y e.r.ys.length m.yc):=H1.out.k.cell 11 (by simp)
  have fk6:=H1.out.k.free 11
  clear hb
  go_wp2_with fail
  refine ret_gen (fun W => W = setAll w1 X 5 [.int .i64 0,.int .i64 0,.int .i64 0,.int .i64 0,.slice none 0 0,.slice none 0 0,.slice none 0 0]) rfl ?_
  rintro W rfl
  refine bodyPost_ret (v:=.bool false) (by simp [results,Tryz.results49,go_sem]) rfl ?_
  exact ⟨World.grownBy.trans (grown_below (b:=X) HB.out) (all_grown _ w1 X 5),rfl⟩
 ·unfold ruleV
  have H1:=hide (H.out.keep hb)
  have HB:=hide hb
  have HL:=hide hr.lies
  have hd : OffX B q.ds D:=fun _ g o e => by have:=(hr.od g o e).2.2.2; omega
  have hm : OffX B q.ms M:=fun _ g o e => by have:=(hr.om g o e).2.2.2; omega
  have hy : OffX B q.ys Y:=fun _ g o e => by have:=(hr.oy g o e).2.2.2; omega
  have HD:=hide hd
  have HM:=hide hm
  have HY:=hide hy
  have ck0 : w1.cell? ⟨X,5,none⟩ = some (.int .i64 e.r.fr):=H1.out.k.cell 5 (by simp)
  have fk0:=H1.out.k.free 5
  have ck1 : w1.cell? ⟨X,6,none⟩ = some (.int .i64 e.r.ev):=H1.out.k.cell 6 (by simp)
  have fk1:=H1.out.k.free 6
  have ck2 : w1.cell? ⟨X,7,none⟩ = some (.int .i64 e.r.ct):=H1.out.k.cell 7 (by simp)
  have fk2:=H1.out.k.free 7
  have ck3 : w1.cell? ⟨X,8,none⟩ = some (.int .i64 e.r.un):=H1.out.k.cell 8 (by simp)
  have fk3:=H1.out.k.free 8
  have ck4 : w1.cell? ⟨X,9,none⟩ = some (.slice m.D e.r.ds.length m.dc):=H1.out.k.cell 9 (by simp)
  have fk4:=H1.out.k.free 9
  have ck5 : w1.cell? ⟨X,10,none⟩ = some (.slice m.M e.r.ms.length m.mc):=H1.out.k.cell 10 (by simp)
  have fk5:=H1.out.k.free 10
  have ck6 : w1.cell? ⟨X,11,none⟩ = some (.slice m.Y e.r.ys.length m.yc):=H1.out.k.cell 11 (by simp)
  have fk6:=H1.out.k.free 11
  clear hb hr hd hm hy
  go_wp2_with fail
  refine ret_gen (fun W => W = setAll w1 X 5 [.int .i64 q.fr,.int .i64 q.ev,.int .i64 q.ct,.int .i64 q.un,.slice D dn dc,.slice M mn mc,.slice Y yn yc]) rfl ?_
  rintro W rfl
  refine bodyPost_ret (v:=.bool true) (by simp [results,Tryz.results49,go_sem]) rfl ?_
  have hg2:=all_grown [.int .i64 q.fr,.int .i64 q.ev,.int .i64 q.ct,.int .i64 q.un,.slice D dn dc,.slice M mn mc,.slice Y yn yc] w1 X 5
  have hg:=World.grownBy.trans (grown_below (b:=X) HB.out) hg2
  have hdn:=HL.out.dn
  have hmn:=HL.out.mn
  have hyn:=HL.out.yn
  have hl:=HL.out
  clear HL
  subst hdn hmn hyn
  refine ⟨hg,rfl,⟨m.O,m.oc,D,dc,M,mc,Y,yc,m.X,m.xc⟩,EvAt.put hxb H1.out.bs ?_ hg2 ⟨H1.out.l.o,H1.out.l.ol,hl,H1.out.l.x,H1.out.l.xl,H1.out.l.ul,H1.out.l.tl⟩ H1.out.oo HD.out HM.out HY.out H1.out.ox⟩
  exact (((((((H1.out.k.set 5 (.int .i64 _) (by simp)).set 6 (.int .i64 _) (by simp)).set 7 (.int .i64 _) (by simp)).set 8 (.int .i64 _) (by simp)).set 9 (.slice D _ dc) (by simp)).set 10 (.slice M _ mc) (by simp)).set 11 (.slice Y _ yc) (by simp)).is rfl

set_option maxRecDepth 100000 in
set_option maxHeartbeats 2000000 in
theorem dset_4 (t : Tx) (X B : Nat) (e : Ev.E) (m : Mem) (w : World) (h : EvAt w X B e m) (ht : t.length ≤ 400) :
  Calls Tryz.prog 49 #[.pointer (some ⟨X,0,none⟩),.string (str Ev.nEX),.string (str t)] w (SetsD w X B (Ev.setE unU e Ev.nEX t)):=by
 have H0 : Ev.setE unU e Ev.nEX t = (Ev.exE unU t).map fun l => { e with ex:=l }:=Ev.setE_4 ..
 rw [H0]
 clear H0
 obtain ⟨N,hN⟩ : ∃ N,Ev.nEX = N:=⟨_,rfl⟩
 have e0 : (N == [85,73,68]) = false:=by rw [← hN]; decide
 have e1 : (N == [68,84,83,84,65,82,84]) = false:=by rw [← hN]; decide
 have e2 : (N == [68,85,82,65,84,73,79,78]) = false:=by rw [← hN]; decide
 have e3 : (N == [82,82,85,76,69]) = false:=by rw [← hN]; decide
 have e4 : (N == [69,88,68,65,84,69]) = true:=by rw [← hN]; decide
 have q1:=str_tl N
 have hts : (str t).size ≤ 400:=by rw [str_size]; exact ht
 have htl : (str t).data.toList = t:=str_list t
 have H:=hide h
 have hX:=h.k.lt
 have hxb:=h.xb
 have hbs:=h.bs
 rw [hN]
 clear h hN
 rw [Ev.ex_agree unU unU_good]
 have HC:=hide (fun w => rdates_any (str t) w (by omega))
 rw [htl] at HC
 have hle : ∀ l,listR inLt unU.f t = some l → l.length ≤ 1000:=fun l hl => by have:=listR_len hl; omega
 unfold Ev.exR
 generalize listR inLt unU.f t = O at *
 have HLE:=hide hle
 clear hle
 go_enter Tryz.func49,Tryz.ntmps49
 go_wp2_with fail
 refine (HC.out _).mono ?_
 rintro _ w1 ⟨hb,⟨rfl,rfl⟩ | ⟨l,v,rfl,rfl,hown⟩⟩
 ·have H1:=hide (H.out.keep hb)
  have HB:=hide hb
  have ck : w1.cell? ⟨X,12,none⟩ = some (.slice m.X e.ex.length m.xc):=H1.out.k.cell 12 (by simp)
  have fk:=H1.out.k.free 12
  clear hb
  go_wp2_with fail
  go_ret
  exact ⟨grown_set (b:=X) (i:=12) (y:=.slice none 0 0) HB.out,rfl⟩
 ·obtain ⟨A,cap,rfl,hrow⟩:=OwnI.row hown
  have H1:=hide (H.out.keep hb)
  have HB:=hide hb
  have HO : Hid (OffX B l A):=hide (offX_new (own_from hown) hbs)
  have HR:=hide hrow
  have hll:=HLE.out l rfl
  have ck : w1.cell? ⟨X,12,none⟩ = some (.slice m.X e.ex.length m.xc):=H1.out.k.cell 12 (by simp)
  have fk:=H1.out.k.free 12
  have cs : (w1.setCell ⟨X,12,none⟩ (.slice A l.length cap)).cell? ⟨X,12,none⟩ = some (.slice A l.length cap):=World.cell?_setCell_same _ _ _ ck
  have HRD : Hid (EvAt (w1.setCell ⟨X,12,none⟩ (.slice A l.length cap)) X B { e with ex:=l } ⟨m.O,m.oc,m.D,m.dc,m.M,m.mc,m.Y,m.yc,A,cap⟩):=hide (EvAt.put hxb H1.out.bs ((H1.out.k.set 12 (.slice A l.length cap) (by simp)).is rfl) (grown_set (start w1)) ⟨H1.out.l.o,H1.out.l.ol,H1.out.l.r,HR.out,hll,H1.out.l.ul,H1.out.l.tl⟩ H1.out.oo H1.out.od H1.out.om H1.out.oy HO.out)
  have HG:=hide (grown_set (b:=X) (i:=12) (y:=.slice A l.length cap) HB.out)
  have HD : Hid (decide ((l.length : Int) ≤ 12) = decide (l.length ≤ 12)):=hide (by rw [decide_eq_decide]; omega)
  clear hb hown hrow
  by_cases h12 : l.length ≤ 12
  ·have q3 : decide ((l.length : Int) ≤ 12) = true:=by rw [HD.out]; exact decide_eq_true h12
   have HK : Hid (Ev.keepL (fun l => decide (l.length ≤ 12)) (some l) = some l):=hide (by rw [Ev.keepL_some]; exact ⟨rfl,decide_eq_true h12⟩)
   clear h12
   go_wp2_with fail
   go_ret
   rw [HK.out]
   exact ⟨HG.out,rfl,_,HRD.out⟩
  ·have q3 : decide ((l.length : Int) ≤ 12) = false:=by rw [HD.out]; exact decide_eq_false h12
   have HK : Hid (Ev.keepL (fun l => decide (l.length ≤ 12)) (some l) = none):=hide (by unfold Ev.keepL; simp only [decide_eq_true_eq]; rw [if_neg h12])
   clear h12
   go_wp2_with fail
   go_ret
   rw [HK.out]
   exact ⟨HG.out,rfl⟩

set_option maxRecDepth 100000 in
set_option maxHeartbeats 2000000 in
theorem dset_5 (t : Tx) (X B : Nat) (e : Ev.E) (m : Mem) (w : World) (h : EvAt w X B e m) (ht : t.length ≤ 400) :
  Calls Tryz.prog 49 #[.pointer (some ⟨X,0,none⟩),.string (str Ev.nROOMS),.string (str t)] w (SetsD w X B (Ev.setE unU e Ev.nROOMS t)):=by
 have H0 : Ev.setE unU e Ev.nROOMS t = (Ev.roomsE t).map fun l => { e with rooms:=l }:=Ev.setE_5 ..
 rw [H0]
 clear H0
 obtain ⟨N,hN⟩ : ∃ N,Ev.nROOMS = N:=⟨_,rfl⟩
 have e0 : (N == [85,73,68]) = false:=by rw [← hN]; decide
 have e1 : (N == [68,84,83,84,65,82,84]) = false:=by rw [← hN]; decide
 have e2 : (N == [68,85,82,65,84,73,79,78]) = false:=by rw [← hN]; decide
 have e3 : (N == [82,82,85,76,69]) = false:=by rw [← hN]; decide
 have e4 : (N == [69,88,68,65,84,69]) = false:=by rw [← hN]; decide
 have e5 : (N == [88,45,82,79,79,77,83]) = true:=by rw [← hN]; decide
 have q1:=str_tl N
 have hts : (str t).size ≤ 400:=by rw [str_size]; exact ht
 have htl : (str t).data.toList = t:=str_list t
 have H:=hide h
 have hX:=h.k.lt
 have hxb:=h.xb
 have hbs:=h.bs
 rw [hN]
 clear h hN
 rw [Ev.rooms_agree]
 have HC:=hide (fun w => ints_any (str t) false w (by omega))
 rw [htl] at HC
 have hle : ∀ l,listR inLt (fun x => decR x false) t = some l → l.length ≤ 1000 ∧ l ≠ []:=fun l hl => ⟨by have:=listR_len hl; omega,(Ev.listR_strict ordI hl).2.2⟩
 unfold Ev.roomsR
 generalize listR inLt (fun x => decR x false) t = O at *
 have HLE:=hide hle
 clear hle
 go_enter Tryz.func49,Tryz.ntmps49
 go_wp2_with fail
 refine (HC.out _).mono ?_
 rintro _ w1 ⟨hb,⟨rfl,rfl⟩ | ⟨l,v,rfl,rfl,hown⟩⟩
 ·have H1:=hide (H.out.keep hb)
  have HB:=hide hb
  have ck : w1.cell? ⟨X,4,none⟩ = some (.slice m.O e.rooms.length m.oc):=H1.out.k.cell 4 (by simp)
  have fk:=H1.out.k.free 4
  have HG:=hide (grown_set (b:=X) (i:=4) (y:=.slice none 0 0) HB.out)
  have HD:=hide (fun a => below_drawn (start (w1.setCell ⟨X,4,none⟩ (.slice none 0 0))) a)
  clear hb
  go_wp2_with fail
  go_quiet (fail)
  have HD2:=hide (HD.out nq)
  clear HD
  generalize (w1.setCell ⟨X,4,none⟩ (.slice none 0 0)).drewN nq = wq at *
  go_wp2_with fail
  go_ret
  exact ⟨grown_more HG.out HD2.out,rfl⟩
 ·obtain ⟨A,cap,rfl,hrow⟩:=OwnI.row hown
  have H1:=hide (H.out.keep hb)
  have HB:=hide hb
  have HO : Hid (OffX B l A):=hide (offX_new (own_from hown) hbs)
  have HR:=hide hrow
  obtain ⟨hll,hne⟩:=HLE.out l rfl
  obtain ⟨bO,oO,hA,hbO,hcO⟩:=hrow hne
  subst hA
  have hXO : bO ≠ X:=by have:=HO.out hne bO oO rfl; omega
  obtain ⟨n,hn⟩ : ∃ n,l.length = n + 1:=⟨l.length - 1,by have:=List.length_pos_iff.2 hne; omega⟩
  have hnl : n < l.length:=by omega
  have hz : l.getLastD 0 = l[n]:=by
   rw [List.getLastD_eq_getLast?,List.getLast?_eq_getElem?,hn,Nat.add_sub_cancel,List.getElem?_eq_getElem hnl]; rfl
  obtain ⟨z,hzz⟩ : ∃ z,l[n] = z:=⟨_,rfl⟩
  have p0 : w1.cell? ⟨bO,oO + n,none⟩ = some (.int .i64 z):=by rw [← hzz]; exact hcO n hnl
  rw [hzz] at hz
  have p1 : (w1.setCell ⟨X,4,none⟩ (.slice (some ⟨bO,oO,none⟩) l.length cap)).cell? ⟨bO,oO + n,none⟩ = some (.int .i64 z):=(World.cell?_setCell_far _ _ _ _ (fun e => hXO e.symm)).trans p0
  have ck : w1.cell? ⟨X,4,none⟩ = some (.slice m.O e.rooms.length m.oc):=H1.out.k.cell 4 (by simp)
  have fk:=H1.out.k.free 4
  have cs : (w1.setCell ⟨X,4,none⟩ (.slice (some ⟨bO,oO,none⟩) l.length cap)).cell? ⟨X,4,none⟩ = some (.slice (some ⟨bO,oO,none⟩) l.length cap):=World.cell?_setCell_same _ _ _ ck
  have HRD : Hid (EvAt (w1.setCell ⟨X,4,none⟩ (.slice (some ⟨bO,oO,none⟩) l.length cap)) X B { e with rooms:=l } ⟨some ⟨bO,oO,none⟩,cap,m.D,m.dc,m.M,m.mc,m.Y,m.yc,m.X,m.xc⟩):=hide (EvAt.put hxb H1.out.bs ((H1.out.k.set 4 (.slice (some ⟨bO,oO,none⟩) l.length cap) (by simp)).is rfl) (grown_set (start w1)) ⟨HR.out,hll,H1.out.l.r,H1.out.l.x,H1.out.l.xl,H1.out.l.ul,H1.out.l.tl⟩ HO.out H1.out.od H1.out.om H1.out.oy H1.out.ox)
  have HG:=hide (grown_set (b:=X) (i:=4) (y:=.slice (some ⟨bO,oO,none⟩) l.length cap) HB.out)
  have HK : Hid (Ev.keepL (fun l => decide (l.length ≤ 4) && decide (l.getLastD 0 < 8)) (some l) = if (decide (n + 1 ≤ 4) && decide (z < 8)) = true then some l else none):=hide (by unfold Ev.keepL; simp only [hz,hn])
  have HN:=hide hn
  have HD:=hide (fun a => below_drawn (start (w1.setCell ⟨X,4,none⟩ (.slice (some ⟨bO,oO,none⟩) l.length cap))) a)
  have hXN : X ≠ bO:=fun e => hXO e.symm
  clear hb hown hrow hz hzz hcO p0 hne HLE
  rw [hn] at cs p1 HG HD HRD
  rw [hn]
  clear hn hnl
  by_cases h12 : n + 1 ≤ 4
  ·have h13 : (n : Int) + 1 ≤ 4:=by omega
   have q5 : decide (n + 1 ≤ 4) = true:=decide_eq_true h12
   have hn0 : (0 : Int) ≤ (n : Int):=by omega
   have hn1 : (n : Int) < (n : Int) + 1:=by omega
   by_cases h8 : z < 8
   ·have HE : Hid ((if (decide (n + 1 ≤ 4) && decide (z < 8)) = true then some l else none) = some l):=hide (by rw [q5,decide_eq_true h8]; rfl)
    clear h12 q5
    go_wp2_with fail
    go_quiet (fail)
    have HD2:=hide (HD.out nq)
    clear HD
    generalize (w1.setCell ⟨X,4,none⟩ (.slice (some ⟨bO,oO,none⟩) (n + 1) cap)).drewN nq = wq at *
    go_wp2_with fail
    go_ret
    rw [HK.out,HE.out]
    exact ⟨grown_more HG.out HD2.out,rfl,_,HRD.out.keep HD2.out⟩
   ·have HE : Hid ((if (decide (n + 1 ≤ 4) && decide (z < 8)) = true then some l else none) = none):=hide (by rw [q5,decide_eq_false h8]; rfl)
    have H8 : Hid (decide (z < 8) = false):=hide (decide_eq_false h8)
    clear h12 q5 h8
    go_wp2_with fail
    go_quiet (fail)
    have HD2:=hide (HD.out nq)
    clear HD
    generalize (w1.setCell ⟨X,4,none⟩ (.slice (some ⟨bO,oO,none⟩) (n + 1) cap)).drewN nq = wq at *
    go_wp2_with fail
    go_ret
    rw [HK.out,HE.out]
    exact ⟨grown_more HG.out HD2.out,ret_bool H8.out⟩
  ·have h13 : ((n : Int) + 1 ≤ 4) = False:=eq_false (by omega)
   have q5 : decide (n + 1 ≤ 4) = false:=decide_eq_false h12
   have HE : Hid ((if (decide (n + 1 ≤ 4) && decide (z < 8)) = true then some l else none) = none):=hide (by rw [q5]; rfl)
   clear h12 q5
   go_wp2_with fail
   go_quiet (fail)
   have HD2:=hide (HD.out nq)
   clear HD
   generalize (w1.setCell ⟨X,4,none⟩ (.slice (some ⟨bO,oO,none⟩) (n + 1) cap)).drewN nq = wq at *
   go_wp2_with fail
   go_ret
   rw [HK.out,HE.out]
   exact ⟨grown_more HG.out HD2.out,rfl⟩

set_option maxRecDepth 100000 in
set_option maxHeartbeats 2000000 in
theorem dset_6 (t : Tx) (X B : Nat) (e : Ev.E) (m : Mem) (w : World) (h : EvAt w X B e m) (ht : t.length ≤ 400) :
  Calls Tryz.prog 49 #[.pointer (some ⟨X,0,none⟩),.string (str Ev.nTEXT),.string (str t)] w (SetsD w X B (Ev.setE unU e Ev.nTEXT t)):=by
 have H0 : Ev.setE unU e Ev.nTEXT t = (Ev.textE t).map fun s => { e with text:=s }:=Ev.setE_6 ..
 rw [H0]
 clear H0
 obtain ⟨N,hN⟩ : ∃ N,Ev.nTEXT = N:=⟨_,rfl⟩
 have e0 : (N == [85,73,68]) = false:=by rw [← hN]; decide
 have e1 : (N == [68,84,83,84,65,82,84]) = false:=by rw [← hN]; decide
 have e2 : (N == [68,85,82,65,84,73,79,78]) = false:=by rw [← hN]; decide
 have e3 : (N == [82,82,85,76,69]) = false:=by rw [← hN]; decide
 have e4 : (N == [69,88,68,65,84,69]) = false:=by rw [← hN]; decide
 have e5 : (N == [88,45,82,79,79,77,83]) = false:=by rw [← hN]; decide
 have e6 : (N == [83,85,77,77,65,82,89]) = true:=by rw [← hN]; decide
 have q1:=str_tl N
 have hts : (str t).size ≤ 400:=by rw [str_size]; exact ht
 have htl : (str t).data.toList = t:=str_list t
 have H:=hide h
 have hX:=h.k.lt
 have hxb:=h.xb
 have hbs:=h.bs
 rw [hN]
 clear h hN
 have HC:=hide (fun w => rUnescape_any (str t) w (by omega))
 rw [htl] at HC
 have hul : ∀ s,Fo.unE t = some s → s.length ≤ 400:=fun s hs => Nat.le_trans (Fo.unE_len t.length t s (Nat.le_refl _) hs) ht
 unfold Ev.textE
 generalize Fo.unE t = O at *
 cases O with
 | none =>
  simp only
  go_enter Tryz.func49,Tryz.ntmps49
  go_wp2_with fail
  refine (HC.out _).mono ?_
  rintro _ w1 ⟨rfl,hb⟩
  unfold unR
  have H1:=hide (H.out.keep hb)
  have HB:=hide hb
  have ck : w1.cell? ⟨X,1,none⟩ = some (.string (str e.text)):=H1.out.k.cell 1 (by simp)
  have fk:=H1.out.k.free 1
  clear hb
  go_wp2_with fail
  go_ret
  exact ⟨grown_set (b:=X) (i:=1) (y:=.string (str [])) HB.out,rfl⟩
 | some s =>
  have hsl:=hul s rfl
  have HT:=hide (fun w => rcall_t s w (by omega) rfl)
  clear hul
  simp only
  obtain ⟨B,hB⟩ : ∃ B,Ev.textB s = B:=⟨_,rfl⟩
  rw [hB] at HT ⊢
  clear hB
  obtain ⟨O2,hO⟩ : ∃ O,Option.map (fun s => { e with text:=s }) (if B = true then some s else none) = O:=⟨_,rfl⟩
  rw [hO]
  have HO:=hide hO
  clear hO
  go_enter Tryz.func49,Tryz.ntmps49
  go_wp2_with fail
  refine (HC.out _).mono ?_
  rintro _ w1 ⟨rfl,hb⟩
  unfold unR
  have H1:=hide (H.out.keep hb)
  have HB:=hide hb
  have ck : w1.cell? ⟨X,1,none⟩ = some (.string (str e.text)):=H1.out.k.cell 1 (by simp)
  have fk:=H1.out.k.free 1
  have cs : (w1.setCell ⟨X,1,none⟩ (.string (str s))).cell? ⟨X,1,none⟩ = some (.string (str s)):=World.cell?_setCell_same _ _ _ ck
  have HG:=hide (grown_set (b:=X) (i:=1) (y:=.string (str s)) HB.out)
  clear hb
  go_wp2_with fail
  refine (HT.out _).mono ?_
  rintro _ w2 ⟨rfl,rfl⟩
  go_wp2_with fail
  go_ret
  cases B with
  | true =>
   rw [← HO.out,if_pos rfl]
   exact ⟨HG.out,rfl,m,EvAt.put hxb H1.out.bs ((H1.out.k.set 1 (.string (str s)) (by simp)).is rfl) (grown_set (start w1)) ⟨H1.out.l.o,H1.out.l.ol,H1.out.l.r,H1.out.l.x,H1.out.l.xl,H1.out.l.ul,by show s.length ≤ 40000; omega⟩ H1.out.oo H1.out.od H1.out.om H1.out.oy H1.out.ox⟩
  | false => rw [← HO.out,if_neg (by decide)]; exact ⟨HG.out,rfl⟩

theorem dset_any (N t : Tx) (hN : N ∈ kN) (X B : Nat) (e : Ev.E) (m : Mem) (w : World) (h : EvAt w X B e m) (ht : t.length ≤ 400) :
  Calls Tryz.prog 49 #[.pointer (some ⟨X,0,none⟩),.string (str N),.string (str t)] w (SetsD w X B (Ev.setE unU e N t)):=by
 unfold kN at hN
 simp only [List.mem_cons,List.not_mem_nil,or_false] at hN
 rcases hN with rfl | rfl | rfl | rfl | rfl | rfl | rfl
 ·exact dset_0 t X B e m w h ht
 ·exact dset_1 t X B e m w h ht
 ·exact dset_2 t X B e m w h ht
 ·exact dset_5 t X B e m w h ht
 ·exact dset_3 t X B e m w h ht
 ·exact dset_4 t X B e m w h ht
 ·exact dset_6 t X B e m w h ht

end Go.Proofs.YtgdjeddelcfgeaaGreatDoor

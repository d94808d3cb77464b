/- EvI; EvJ of the recipes, what is needed of them. -/
import Derived.Test.YtfecnkhoojnkbaaGreatDoorZW9
import Derived.Test.YtfecnkhoojnkbaaGreatDoorZW12
import Derived.Test.YtfecnkhoojnkbaaGreatDoorZM3
import Derived.Test.YtfecnkhoojnkbaaGreatDoorZW8
set_option maxHeartbeats 8000000
set_option maxRecDepth 100000
namespace Go.Proofs.YtfecnkhoojnkbaaGreatDoor
open Go.RowKit Rul Rt Go.Sort
structure EnvE (w : World) : Prop where
 e : Env w
 f : FoldTab w
theorem EnvE.keep {w w' : World} (h : EnvE w) (hb : Below w.heap.size w w') : EnvE w':=⟨h.e.keep hb,h.f.keep hb⟩
theorem EnvE.below {B : Nat} {w w' : World} (h : EnvE w) (hb : Below B w w') (hB : w.heap.size <= B) : EnvE w':=⟨h.e.below hb hB,h.f.below hb hB⟩
abbrev rdV (e : Ev.E) (m : Mem) (v : Value) : List Value:=[.string (str e.uid),.string (str e.text),.int .i64 e.st,.int .i64 e.lg,.int .i64 e.r.fr,.int .i64 e.r.ev,.int .i64 e.r.ct,.int .i64 e.r.un,.slice m.D e.r.ds.length m.dc,.slice m.M e.r.ms.length m.mc,.slice m.Y e.r.ys.length m.yc,.slice m.X e.ex.length m.xc,.slice m.O e.rooms.length m.oc,v]
def OffA {α : Type} (X : Nat) (v : Value) (l : List α) (A : Option Addr) : Prop:=l ≠ [] -> ∀ g o,A = some ⟨g,o,none⟩ -> X < g /\ some g ≠ v.ownBlock
structure RdAt (w : World) (X : Nat) (e : Ev.E) (m : Mem) (v : Value) : Prop where
 k : BlkAt w X (rdV e m v)
 l : EvL w e m
 oo : OffA X v e.rooms m.O
 od : OffA X v e.r.ds m.D
 om : OffA X v e.r.ms m.M
 oy : OffA X v e.r.ys m.Y
 ox : OffA X v e.ex m.X
 own : some X ≠ v.ownBlock
theorem RdAt.keep {w w' : World} {X : Nat} {e : Ev.E} {m : Mem} {v : Value} (h : RdAt w X e m v) (hb : Below w.heap.size w w') : RdAt w' X e m v :=
 ⟨h.k.keep hb,h.l.keep hb,h.oo,h.od,h.om,h.oy,h.ox,h.own⟩
theorem RowI.past {w w' : World} {row : Option Nat} {A : Option Addr} {l : List Int} (h : RowI w A l) (g : w.grownBy w' row) (ho : l ≠ [] -> ∀ b o,A = some ⟨b,o,none⟩ -> some b ≠ row) : RowI w' A l:=fun hn => RowI.grow h g (ho hn) hn
theorem RowD.past {w w' : World} {row : Option Nat} {A : Option Addr} {l : List Wd} (h : RowD w A l) (g : w.grownBy w' row) (ho : l ≠ [] -> ∀ b o,A = some ⟨b,o,none⟩ -> some b ≠ row) : RowD w' A l:=fun hn => RowD.grow h g (ho hn) hn
theorem EvL.past {w w' : World} {row : Option Nat} {e : Ev.E} {m : Mem} (h : EvL w e m) (g : w.grownBy w' row) (oo : e.rooms ≠ [] -> ∀ b o,m.O = some ⟨b,o,none⟩ -> some b ≠ row) (od : e.r.ds ≠ [] -> ∀ b o,m.D = some ⟨b,o,none⟩ -> some b ≠ row) (om : e.r.ms ≠ [] -> ∀ b o,m.M = some ⟨b,o,none⟩ -> some b ≠ row) (oy : e.r.ys ≠ [] -> ∀ b o,m.Y = some ⟨b,o,none⟩ -> some b ≠ row) (ox : e.ex ≠ [] -> ∀ b o,m.X = some ⟨b,o,none⟩ -> some b ≠ row) : EvL w' e m :=
 ⟨h.o.past g oo,h.ol,⟨h.r.d.past g od,h.r.dn,h.r.dl,h.r.m.past g om,h.r.mn,h.r.ml,h.r.y.past g oy,h.r.yn,h.r.yl⟩,h.x.past g ox,h.xl,h.ul,h.tl⟩
theorem OffA.row {α : Type} {X : Nat} {v : Value} {l : List α} {A : Option Addr} (h : OffA X v l A) : l ≠ [] -> ∀ b o,A = some ⟨b,o,none⟩ -> some b ≠ some X:=fun hn b o e k => by have:=(h hn b o e).1; injection k with k; omega
theorem OffA.row2 {α : Type} {X : Nat} {v : Value} {l : List α} {A : Option Addr} (h : OffA X v l A) : l ≠ [] -> ∀ b o,A = some ⟨b,o,none⟩ -> some b ≠ v.ownBlock:=fun hn b o e => (h hn b o e).2
theorem RdAt.put {w w' : World} {X : Nat} {e : Ev.E} {m : Mem} {v : Value} (k : BlkAt w' X (rdV e m v)) (g : w.grownBy w' (some X)) (l : EvL w e m) (oo : OffA X v e.rooms m.O) (od : OffA X v e.r.ds m.D) (om : OffA X v e.r.ms m.M) (oy : OffA X v e.r.ys m.Y) (ox : OffA X v e.ex m.X) (own : some X ≠ v.ownBlock) : RdAt w' X e m v :=
 ⟨k,l.past g oo.row od.row om.row oy.row ox.row,oo,od,om,oy,ox,own⟩
theorem off_goes {α : Type} {X : Nat} {v v' : Value} {l : List α} {A : Option Addr} {w w' : World} (h : OffA X v l A) (g : GoesS v w v' w') (hl : l ≠ [] -> ∀ b o,A = some ⟨b,o,none⟩ -> b < w.heap.size) : OffA X v' l A:=fun hn b o e => ⟨(h hn b o e).1,by
 have h1:=hl hn b o e
 rcases g.own with h2 | ⟨k,h2,hk⟩
 ·rw [h2]; exact (h hn b o e).2
 ·rw [h2]; intro c; injection c with c; omega⟩
theorem RowI.in {w : World} {A : Option Addr} {l : List Int} (h : RowI w A l) : l ≠ [] -> ∀ b o,A = some ⟨b,o,none⟩ -> b < w.heap.size:=fun hn b o e => by
 obtain ⟨g,k,e2,hl,_⟩:=h hn
 rw [e] at e2; injection e2 with e2; injection e2 with e3 _; omega
theorem RowD.in {w : World} {A : Option Addr} {l : List Wd} (h : RowD w A l) : l ≠ [] -> ∀ b o,A = some ⟨b,o,none⟩ -> b < w.heap.size:=fun hn b o e => by
 obtain ⟨g,k,e2,hl,_⟩:=h hn
 rw [e] at e2; injection e2 with e2; injection e2 with e3 _; omega
structure RdOld (w : World) (X : Nat) (e : Ev.E) (m : Mem) (u v : Value) : Prop where
 k : BlkAt w X (rdV e m u)
 l : EvL w e m
 oo : OffA X v e.rooms m.O
 od : OffA X v e.r.ds m.D
 om : OffA X v e.r.ms m.M
 oy : OffA X v e.r.ys m.Y
 ox : OffA X v e.ex m.X
 own : some X ≠ v.ownBlock
theorem RdAt.goes {w w' : World} {X : Nat} {e : Ev.E} {m : Mem} {v v' : Value} (h : RdAt w X e m v) (g : GoesS v w v' w') : RdOld w' X e m v v' :=
 ⟨h.k.grow g.grown h.own,h.l.past g.grown h.oo.row2 h.od.row2 h.om.row2 h.oy.row2 h.ox.row2,off_goes h.oo g h.l.o.in,off_goes h.od g h.l.r.d.in,off_goes h.om g h.l.r.m.in,off_goes h.oy g h.l.r.y.in,off_goes h.ox g h.l.x.in,by
  rcases g.own with h2 | ⟨k,h2,hk⟩
  ·rw [h2]; exact h.own
  ·rw [h2]; intro c; injection c with c; have:=h.k.lt; omega⟩
theorem RdOld.set {w : World} {X : Nat} {e : Ev.E} {m : Mem} {u v : Value} (h : RdOld w X e m u v) : RdAt (w.setCell ⟨X,13,none⟩ v) X e m v :=
 RdAt.put ((h.k.set 13 v (by simp)).is rfl) (grown_set (start w)) h.l h.oo h.od h.om h.oy h.ox h.own
theorem RdAt.out {w w' : World} {X c : Nat} {e : Ev.E} {m : Mem} {v : Value} (h : RdAt w X e m v) (hc : c < X) (g : w.grownBy w' (some c)) : EvL w' e m :=
 h.l.past g (fun hn b o e k => by have:=(h.oo hn b o e).1; injection k with k; omega) (fun hn b o e k => by have:=(h.od hn b o e).1; injection k with k; omega) (fun hn b o e k => by have:=(h.om hn b o e).1; injection k with k; omega) (fun hn b o e k => by have:=(h.oy hn b o e).1; injection k with k; omega) (fun hn b o e k => by have:=(h.ox hn b o e).1; injection k with k; omega)
def SetsE (w : World) (X : Nat) (v : Value) (o : Option Ev.E) (e : Ending) (w' : World) : Prop :=
 w.grownBy w' (some X) /\ match o with
  | none => e = .returned (.bool false)
  | some q => e = .returned (.bool true) /\ ∃ m,RdAt w' X q m v
theorem off_new {α : Type} {X N : Nat} {v : Value} {l : List α} {A : Option Addr} (h : ∀ g o,A = some ⟨g,o,none⟩ -> N <= g) (hX : X < N) (hv : ∀ g,v.ownBlock = some g -> g < N) : OffA X v l A:=fun _ g o e => by
 have hg:=h g o e
 refine ⟨by omega,fun e2 => ?_⟩
 have:=hv g e2.symm
 omega
theorem own_from {w : World} {B n c : Nat} {A : Option Addr} {l : List Int} (h : OwnI w B (.slice A n c) l) : ∀ g o,A = some ⟨g,o,none⟩ -> B <= g:=fun g o e => by
 subst e; exact (h.lt g rfl).1
theorem all_take {l : List Tx} {j : Nat} (hlt : j < l.length) (p : Tx -> Bool) : (l.take (j + 1)).all p = ((l.take j).all p && p l[j]):=by
 rw [List.take_succ_eq_append_getElem hlt,List.all_append]; simp
theorem has_any (X : Nat) (A A2 : Option Addr) (n c n2 c2 : Nat) (l seen : List Tx) (w : World) (hl : RowS w A l) (hn : n = l.length) (hsz : l.length <= 1000) (hs : RowS w A2 seen) (hn2 : n2 = seen.length) (hsz2 : seen.length <= 1000) (hk : w.cell? ⟨X,13,none⟩ = some (.slice A2 n2 c2)) :
  Calls Tryz.prog 224 #[.pointer (some ⟨X,0,none⟩),.slice A n c] w (Ans w (.bool (l.all fun p => decide (p ∈ seen)))):=by
 subst hn hn2
 have HL:=hide hl
 have HS:=hide hs
 have HK:=hide hk
 clear hl hs hk
 go_enter Tryz.func224,Tryz.ntmps224
 go_wp2_with fail
 go_loopw [6,9] (fun _ i wr => ∃ j : Nat,j <= l.length /\ i = .int .i64 j /\ Hid ((l.take j).all (fun p => decide (p ∈ seen)) = true) /\ Below w.heap.size w wr) (fun _ i _ => l.length - (intOf i).toNat)
 case atStart => exact ⟨0,Nat.zero_le _,rfl,hide rfl,start w⟩
 case round =>
  obtain ⟨j,hj,rfl,HA,hb⟩:=hrel
  have HB:=hide hb
  clear hb
  by_cases hlt : j < l.length
  ·obtain ⟨b1,o1,rfl,hb1,hc1⟩:=HL.out (by intro h0; rw [h0] at hlt; exact absurd hlt (Nat.not_lt_zero _))
   have p1 : wr.cell? ⟨b1,o1 + j,none⟩ = some (.string (str l[j])):=(HB.out.cell (p:=⟨b1,_,none⟩) hb1).trans (hc1 j hlt)
   have k1:=cell_keep HB.out HK.out
   have hi0 : (0 : Int) <= (j : Int):=by omega
   have hi1 : (j : Int) < (l.length : Int):=by omega
   have HST:=hide (all_take hlt (fun p => decide (p ∈ seen)))
   have hrs:=HS.out.keep HB.out
   have HCO:=hide (containsS_any l[j] A2 _ c2 seen wr hrs rfl hsz2)
   clear hc1 hrs
   generalize l[j] = T at *
   simp only [HA.out,Bool.true_and] at HST
   cases hd : decide (T ∈ seen) with
   | true =>
    rw [hd] at HCO HST
    go_wp2_with fail
    refine HCO.out.mono ?_
    rintro e w1 ⟨rfl,hb1⟩
    replace HB:=hide (andthen HB.out hb1)
    clear hb1
    go_wp2_with fail
    go_roundw
    case rel => exact ⟨j + 1,by omega,by go_num,HST,HB.out⟩
    case measure => simp [intOf]; omega
   | false =>
    rw [hd] at HCO HST
    have HF : Hid (l.all (fun p => decide (p ∈ seen)) = false):=hide (by
     rw [Bool.eq_false_iff]; intro g
     have h1:=HST.out
     rw [Bool.eq_false_iff] at h1
     exact h1 (List.all_eq_true.2 fun x hx => List.all_eq_true.1 g x (List.mem_of_mem_take hx)))
    go_wp2_with fail
    refine HCO.out.mono ?_
    rintro e w1 ⟨rfl,hb1⟩
    replace HB:=hide (andthen HB.out hb1)
    clear hb1
    go_wp2_with fail
    go_ret
    exact ⟨ret_bool HF.out.symm,HB.out⟩
  ·obtain rfl : j = l.length:=by omega
   rw [List.take_length] at HA
   go_wp2_with fail
   go_ret
   exact ⟨ret_bool HA.out.symm,HB.out⟩
theorem set_0 (t : Tx) (X : Nat) (e : Ev.E) (m : Mem) (v : Value) (seen : List Tx) (w : World) (h : RdAt w X e m v) (hv : ∀ g,v.ownBlock = some g -> g < w.heap.size) (he : EnvE w) (ht : t.length <= 100000) :
  Calls Tryz.prog 205 #[.pointer (some ⟨X,0,none⟩),.string (str Ev.nBEGIN),.string (str t)] w (SetsE w X v (Ev.setF unU seen e Ev.nBEGIN t)):=by
 have H0 : Ev.setF unU seen e Ev.nBEGIN t = if decide (Li.capE t = Ev.wEV) = true then some e else none:=by unfold Ev.setF; rw [if_pos rfl]
 rw [H0]
 clear H0
 obtain ⟨N,hN⟩ : ∃ N,Ev.nBEGIN = N:=⟨_,rfl⟩
 have e0 : (N == [66,69,71,73,78]) = true:=by rw [<- hN]; decide
 have q1:=str_tl N
 have hts : (str t).size <= 100000:=by rw [str_size]; exact ht
 have htl : (str t).data.toList = t:=str_list t
 have H:=hide h
 have HE:=hide he
 have HV:=hide hv
 have hX:=h.k.lt
 rw [hN]
 clear h he hv hN
 have HC:=hide (evWord_any t w HE.out.f ht)
 generalize decide (Li.capE t = Ev.wEV) = B at *
 obtain ⟨O,hO⟩ : ∃ O,(if B = true then some e else none) = O:=⟨_,rfl⟩
 rw [hO]
 have HO:=hide hO
 clear hO
 go_enter Tryz.func205,Tryz.ntmps205
 go_wp2_with fail
 refine HC.out.mono ?_
 rintro e w1 ⟨rfl,hb⟩
 go_wp2_with fail
 go_ret
 cases B with
 | true => rw [<- HO.out,if_pos rfl]; exact ⟨grown_below hb,rfl,_,H.out.keep hb⟩
 | false => rw [<- HO.out,if_neg (by decide)]; exact ⟨grown_below hb,rfl⟩
theorem set_1 (t : Tx) (X : Nat) (e : Ev.E) (m : Mem) (v : Value) (seen : List Tx) (w : World) (h : RdAt w X e m v) (hv : ∀ g,v.ownBlock = some g -> g < w.heap.size) (he : EnvE w) (ht : t.length <= 100000) :
  Calls Tryz.prog 205 #[.pointer (some ⟨X,0,none⟩),.string (str Ev.nUID),.string (str t)] w (SetsE w X v (Ev.setF unU seen e Ev.nUID t)):=by
 have H0 : Ev.setF unU seen e Ev.nUID t = if Ev.uidB t = true then some { e with uid:=t } else none:=by unfold Ev.setF; rw [if_neg (by decide),if_neg (by decide),Ev.setE_0]
 rw [H0]
 clear H0
 obtain ⟨N,hN⟩ : ∃ N,Ev.nUID = N:=⟨_,rfl⟩
 have e0 : (N == [66,69,71,73,78]) = false:=by rw [<- hN]; decide
 have e1 : (N == [85,73,68]) = true:=by rw [<- hN]; decide
 have q1:=str_tl N
 have hts : (str t).size <= 100000:=by rw [str_size]; exact ht
 have htl : (str t).data.toList = t:=str_list t
 have H:=hide h
 have HE:=hide he
 have HV:=hide hv
 have hX:=h.k.lt
 rw [hN]
 clear h he hv hN
 have HC:=hide (isUID_any (str t) w hts)
 rw [htl] at HC
 have hle : Ev.uidB t = true -> t.length <= 40000:=fun hu => by have:=Ev.uidB_len hu; omega
 generalize Ev.uidB t = B at *
 obtain ⟨O,hO⟩ : ∃ O,(if B = true then some { e with uid:=t } else none) = O:=⟨_,rfl⟩
 rw [hO]
 have HO:=hide hO
 clear hO
 have ck : w.cell? ⟨X,0,none⟩ = some (.string (str e.uid)):=H.out.k.cell 0 (by simp)
 have fk:=H.out.k.free 0
 go_enter Tryz.func205,Tryz.ntmps205
 go_wp2_with fail
 refine HC.out.mono ?_
 rintro e w1 ⟨rfl,rfl⟩
 go_wp2_with fail
 go_ret
 have hg:=grown_set (b:=X) (i:=0) (y:=.string (str t)) (start w)
 cases B with
 | true =>
  rw [<- HO.out,if_pos rfl]
  exact ⟨hg,rfl,m,RdAt.put ((H.out.k.set 0 (.string (str t)) (by simp)).is rfl) hg ⟨H.out.l.o,H.out.l.ol,H.out.l.r,H.out.l.x,H.out.l.xl,hle rfl,H.out.l.tl⟩ H.out.oo H.out.od H.out.om H.out.oy H.out.ox H.out.own⟩
 | false => rw [<- HO.out,if_neg (by decide)]; exact ⟨hg,rfl⟩
theorem set_2 (t : Tx) (X : Nat) (e : Ev.E) (m : Mem) (v : Value) (seen : List Tx) (w : World) (h : RdAt w X e m v) (hv : ∀ g,v.ownBlock = some g -> g < w.heap.size) (he : EnvE w) (ht : t.length <= 100000) :
  Calls Tryz.prog 205 #[.pointer (some ⟨X,0,none⟩),.string (str Ev.nSTART),.string (str t)] w (SetsE w X v (Ev.setF unU seen e Ev.nSTART t)):=by
 have H0 : Ev.setF unU seen e Ev.nSTART t = (unU.f t).map fun m => { e with st:=m }:=by unfold Ev.setF; rw [if_neg (by decide),if_neg (by decide),Ev.setE_1]
 rw [H0]
 clear H0
 obtain ⟨N,hN⟩ : ∃ N,Ev.nSTART = N:=⟨_,rfl⟩
 have e0 : (N == [66,69,71,73,78]) = false:=by rw [<- hN]; decide
 have e1 : (N == [85,73,68]) = false:=by rw [<- hN]; decide
 have e2 : (N == [68,84,83,84,65,82,84]) = true:=by rw [<- hN]; decide
 have q1:=str_tl N
 have hts : (str t).size <= 100000:=by rw [str_size]; exact ht
 have htl : (str t).data.toList = t:=str_list t
 have H:=hide h
 have HE:=hide he
 have HV:=hide hv
 have hX:=h.k.lt
 rw [hN]
 clear h he hv hN
 obtain ⟨O,hO⟩ : ∃ O,unU.f t = O:=⟨_,rfl⟩
 have HC:=hide (fun w (he : EnvE w) => emin_at t O w hO)
 rw [hO]
 clear hO
 go_enter Tryz.func205,Tryz.ntmps205
 go_wp2_with fail
 refine (HC.out _ HE.out).mono ?_
 rintro _ w1 ⟨n,hn,rfl,hb⟩
 have HN:=hide hn
 clear hn
 have H1:=hide (H.out.keep hb)
 have HB:=hide hb
 have ck : w1.cell? ⟨X,2,none⟩ = some (.int .i64 e.st):=H1.out.k.cell 2 (by simp)
 have fk:=H1.out.k.free 2
 clear hb
 go_wp2_with fail
 go_ret
 have hg:=grown_set (b:=X) (i:=2) (y:=.int .i64 n) HB.out
 cases O with
 | none => exact ⟨hg,rfl⟩
 | some q =>
  obtain rfl:=HN.out q rfl
  exact ⟨hg,rfl,m,RdAt.put ((H1.out.k.set 2 (.int .i64 n) (by simp)).is rfl) (grown_set (start w1)) ⟨H1.out.l.o,H1.out.l.ol,H1.out.l.r,H1.out.l.x,H1.out.l.xl,H1.out.l.ul,H1.out.l.tl⟩ H1.out.oo H1.out.od H1.out.om H1.out.oy H1.out.ox H1.out.own⟩
theorem set_3 (t : Tx) (X : Nat) (e : Ev.E) (m : Mem) (v : Value) (seen : List Tx) (w : World) (h : RdAt w X e m v) (hv : ∀ g,v.ownBlock = some g -> g < w.heap.size) (he : EnvE w) (ht : t.length <= 100000) :
  Calls Tryz.prog 205 #[.pointer (some ⟨X,0,none⟩),.string (str Ev.nLONG),.string (str t)] w (SetsE w X v (Ev.setF unU seen e Ev.nLONG t)):=by
 have H0 : Ev.setF unU seen e Ev.nLONG t = (Ev.longE t).map fun m => { e with lg:=m }:=by unfold Ev.setF; rw [if_neg (by decide),if_neg (by decide),Ev.setE_2]
 rw [H0]
 clear H0
 obtain ⟨N,hN⟩ : ∃ N,Ev.nLONG = N:=⟨_,rfl⟩
 have e0 : (N == [66,69,71,73,78]) = false:=by rw [<- hN]; decide
 have e1 : (N == [85,73,68]) = false:=by rw [<- hN]; decide
 have e2 : (N == [68,84,83,84,65,82,84]) = false:=by rw [<- hN]; decide
 have e3 : (N == [68,85,82,65,84,73,79,78]) = true:=by rw [<- hN]; decide
 have q1:=str_tl N
 have hts : (str t).size <= 100000:=by rw [str_size]; exact ht
 have htl : (str t).data.toList = t:=str_list t
 have H:=hide h
 have HE:=hide he
 have HV:=hide hv
 have hX:=h.k.lt
 rw [hN]
 clear h he hv hN
 obtain ⟨O,hO⟩ : ∃ O,Ev.longE t = O:=⟨_,rfl⟩
 have HC:=hide (fun w (he : EnvE w) => dur_at t O w he.e ht hO)
 rw [hO]
 clear hO
 go_enter Tryz.func205,Tryz.ntmps205
 go_wp2_with fail
 refine (HC.out _ HE.out).mono ?_
 rintro _ w1 ⟨n,hn,rfl,hb⟩
 have HN:=hide hn
 clear hn
 have H1:=hide (H.out.keep hb)
 have HB:=hide hb
 have ck : w1.cell? ⟨X,3,none⟩ = some (.int .i64 e.lg):=H1.out.k.cell 3 (by simp)
 have fk:=H1.out.k.free 3
 clear hb
 go_wp2_with fail
 go_ret
 have hg:=grown_set (b:=X) (i:=3) (y:=.int .i64 n) HB.out
 cases O with
 | none => exact ⟨hg,rfl⟩
 | some q =>
  obtain rfl:=HN.out q rfl
  exact ⟨hg,rfl,m,RdAt.put ((H1.out.k.set 3 (.int .i64 n) (by simp)).is rfl) (grown_set (start w1)) ⟨H1.out.l.o,H1.out.l.ol,H1.out.l.r,H1.out.l.x,H1.out.l.xl,H1.out.l.ul,H1.out.l.tl⟩ H1.out.oo H1.out.od H1.out.om H1.out.oy H1.out.ox H1.out.own⟩
theorem set_4 (t : Tx) (X : Nat) (e : Ev.E) (m : Mem) (v : Value) (seen : List Tx) (w : World) (h : RdAt w X e m v) (hv : ∀ g,v.ownBlock = some g -> g < w.heap.size) (he : EnvE w) (ht : t.length <= 100000) :
  Calls Tryz.prog 205 #[.pointer (some ⟨X,0,none⟩),.string (str Ev.nRULE),.string (str t)] w (SetsE w X v (Ev.setF unU seen e Ev.nRULE t)):=by
 have H0 : Ev.setF unU seen e Ev.nRULE t = (ansC unU t).map fun r => { e with r:=r }:=by unfold Ev.setF; rw [if_neg (by decide),if_neg (by decide),Ev.setE_3]
 rw [H0]
 clear H0
 obtain ⟨N,hN⟩ : ∃ N,Ev.nRULE = N:=⟨_,rfl⟩
 have e0 : (N == [66,69,71,73,78]) = false:=by rw [<- hN]; decide
 have e1 : (N == [85,73,68]) = false:=by rw [<- hN]; decide
 have e2 : (N == [68,84,83,84,65,82,84]) = false:=by rw [<- hN]; decide
 have e3 : (N == [68,85,82,65,84,73,79,78]) = false:=by rw [<- hN]; decide
 have e4 : (N == [82,82,85,76,69]) = true:=by rw [<- hN]; decide
 have q1:=str_tl N
 have hts : (str t).size <= 100000:=by rw [str_size]; exact ht
 have htl : (str t).data.toList = t:=str_list t
 have H:=hide h
 have HE:=hide he
 have HV:=hide hv
 have hX:=h.k.lt
 rw [hN]
 clear h he hv hN
 have HC:=hide (fun w (he : EnvE w) => recur_any (str t) w he.e hts)
 rw [htl] at HC
 generalize ansC unU t = O at *
 go_enter Tryz.func205,Tryz.ntmps205
 go_wp2_with fail
 refine (HC.out _ HE.out).mono ?_
 rintro _ w1 ⟨hb,r,D,dn,dc,M,mn,mc,Y,yn,yc,rfl,hn⟩
 have HN:=hide hn
 clear hn
 unfold ruleV
 have H1:=hide (H.out.keep hb)
 have HB:=hide hb
 have ck0 : w1.cell? ⟨X,4,none⟩ = some (.int .i64 e.r.fr):=H1.out.k.cell 4 (by simp)
 have fk0:=H1.out.k.free 4
 have ck1 : w1.cell? ⟨X,5,none⟩ = some (.int .i64 e.r.ev):=H1.out.k.cell 5 (by simp)
 have fk1:=H1.out.k.free 5
 have ck2 : w1.cell? ⟨X,6,none⟩ = some (.int .i64 e.r.ct):=H1.out.k.cell 6 (by simp)
 have fk2:=H1.out.k.free 6
 have ck3 : w1.cell? ⟨X,7,none⟩ = some (.int .i64 e.r.un):=H1.out.k.cell 7 (by simp)
 have fk3:=H1.out.k.free 7
 have ck4 : w1.cell? ⟨X,8,none⟩ = some (.slice m.D e.r.ds.length m.dc):=H1.out.k.cell 8 (by simp)
 have fk4:=H1.out.k.free 8
 have ck5 : w1.cell? ⟨X,9,none⟩ = some (.slice m.M e.r.ms.length m.mc):=H1.out.k.cell 9 (by simp)
 have fk5:=H1.out.k.free 9
 have ck6 : w1.cell? ⟨X,10,none⟩ = some (.slice m.Y e.r.ys.length m.yc):=H1.out.k.cell 10 (by simp)
 have fk6:=H1.out.k.free 10
 clear hb
 go_wp2_with fail
 refine ret_gen (fun W => W = setAll w1 X 4 [.int .i64 r.fr,.int .i64 r.ev,.int .i64 r.ct,.int .i64 r.un,.slice D dn dc,.slice M mn mc,.slice Y yn yc]) rfl ?_
 rintro W rfl
 refine bodyPost_ret (v:=.bool O.isSome) (by simp [results,Tryz.results205,go_sem]) rfl ?_
 have hg2:=all_grown [.int .i64 r.fr,.int .i64 r.ev,.int .i64 r.ct,.int .i64 r.un,.slice D dn dc,.slice M mn mc,.slice Y yn yc] w1 X 4
 have hg:=World.grownBy.trans (grown_below (b:=X) HB.out) hg2
 cases O with
 | none => exact ⟨hg,rfl⟩
 | some q =>
  obtain ⟨rfl,hl,h1,h2,h3⟩:=HN.out q rfl
  have hX1 : X < w.heap.size:=hX
  have hd:=hl.dn
  have hm:=hl.mn
  have hy:=hl.yn
  subst hd hm hy
  refine ⟨hg,rfl,⟨m.O,m.oc,D,dc,M,mc,Y,yc,m.X,m.xc⟩,RdAt.put ?_ hg2 ⟨H1.out.l.o,H1.out.l.ol,hl,H1.out.l.x,H1.out.l.xl,H1.out.l.ul,H1.out.l.tl⟩ H1.out.oo (off_new h1 hX1 HV.out) (off_new h2 hX1 HV.out) (off_new h3 hX1 HV.out) H1.out.ox H1.out.own⟩
  exact (((((((H1.out.k.set 4 (.int .i64 _) (by simp)).set 5 (.int .i64 _) (by simp)).set 6 (.int .i64 _) (by simp)).set 7 (.int .i64 _) (by simp)).set 8 (.slice D _ dc) (by simp)).set 9 (.slice M _ mc) (by simp)).set 10 (.slice Y _ yc) (by simp)).is rfl
theorem set_5 (t : Tx) (X : Nat) (e : Ev.E) (m : Mem) (v : Value) (seen : List Tx) (w : World) (h : RdAt w X e m v) (hv : ∀ g,v.ownBlock = some g -> g < w.heap.size) (he : EnvE w) (ht : t.length <= 100000) :
  Calls Tryz.prog 205 #[.pointer (some ⟨X,0,none⟩),.string (str Ev.nEX),.string (str t)] w (SetsE w X v (Ev.setF unU seen e Ev.nEX t)):=by
 have H0 : Ev.setF unU seen e Ev.nEX t = (Ev.exE unU t).map fun l => { e with ex:=l }:=by unfold Ev.setF; rw [if_neg (by decide),if_neg (by decide),Ev.setE_4]
 rw [H0]
 clear H0
 obtain ⟨N,hN⟩ : ∃ N,Ev.nEX = N:=⟨_,rfl⟩
 have e0 : (N == [66,69,71,73,78]) = false:=by rw [<- hN]; decide
 have e1 : (N == [85,73,68]) = false:=by rw [<- hN]; decide
 have e2 : (N == [68,84,83,84,65,82,84]) = false:=by rw [<- hN]; decide
 have e3 : (N == [68,85,82,65,84,73,79,78]) = false:=by rw [<- hN]; decide
 have e4 : (N == [82,82,85,76,69]) = false:=by rw [<- hN]; decide
 have e5 : (N == [69,88,68,65,84,69]) = true:=by rw [<- hN]; decide
 have q1:=str_tl N
 have hts : (str t).size <= 100000:=by rw [str_size]; exact ht
 have htl : (str t).data.toList = t:=str_list t
 have H:=hide h
 have HE:=hide he
 have HV:=hide hv
 have hX:=h.k.lt
 rw [hN]
 clear h he hv hN
 obtain ⟨O,hO⟩ : ∃ O,(allSome unU.f (Lib.splitN t [44] 13)).map (srt inLt) = O:=⟨_,rfl⟩
 have H0 : Ev.exE unU t = Ev.keepL Ev.exB O:=by rw [<- hO]; rfl
 rw [H0]
 have hle:=splitN_le 44 12 t
 have hcon:=fun A_ cap_ w he hr => sortedM_any A_ _ cap_ (Lib.splitN t [44] 13) w hr (split_ne 12 t) rfl (Nat.le_trans hle.2 (by omega)) (fun p hp => Nat.le_trans (hle.1 p hp) ht) he
 have hlen : ∀ l,O = some l -> l.length <= 1000:=fun l hl => by
  rw [<- hO,Option.map_eq_some_iff] at hl
  obtain ⟨xs,hx,rfl⟩:=hl
  rw [(srt_perm inLt xs).length_eq,<- allSome_len hx]
  exact Nat.le_trans hle.2 (by omega)
 have HLE:=hide hlen
 have HEL:=hide (eelems12_at (str t) w HE.out.e hts)
 rw [htl] at HEL
 rw [hO] at hcon
 have HC:=hide hcon
 generalize (Lib.splitN t [44] 13) = LL at *
 clear hO hcon hle hlen H0
 go_enter Tryz.func205,Tryz.ntmps205
 go_wp2_with fail
 refine HEL.out.mono ?_
 rintro _ w1 ⟨A,cap,rfl,hr,hb1⟩
 have HB1:=hide hb1
 have HRR:=hide hr
 clear hb1 hr HEL
 go_wp2_with fail
 refine (HC.out A cap _ (HE.out.e.keep HB1.out) HRR.out).mono ?_
 rintro _ w2 ⟨hb2,⟨rfl,rfl⟩ | ⟨l,v2,rfl,rfl,hown⟩⟩
 ·have HB:=hide (andthen HB1.out hb2)
  clear hb2 HC HRR
  have H1:=hide (H.out.keep HB.out)
  have ck : w2.cell? ⟨X,11,none⟩ = some (.slice m.X e.ex.length m.xc):=H1.out.k.cell 11 (by simp)
  have fk:=H1.out.k.free 11
  go_wp2_with fail
  go_ret
  exact ⟨grown_set HB.out,rfl⟩
 ·have HB:=hide (andthen HB1.out hb2)
  have hfrom : ∀ A2 n2 c2,v2 = .slice A2 n2 c2 -> ∀ g o,A2 = some ⟨g,o,none⟩ -> w.heap.size <= g:=fun A2 n2 c2 ev g o ea => by subst ev; exact Nat.le_trans HB1.out.size (own_from hown g o ea)
  obtain ⟨A2,cap2,rfl,hrow⟩:=OwnI.row hown
  have HNW:=hide (hfrom A2 _ cap2 rfl)
  have hX1 : X < w.heap.size:=hX
  have hoff : OffA X v l A2:=off_new HNW.out hX1 HV.out
  have H1:=hide (H.out.keep HB.out)
  have hlen:=HLE.out l rfl
  have hg2:=grown_set (b:=X) (i:=11) (y:=.slice A2 l.length cap2) (start w2)
  have HRW:=hide (hrow.past hg2 hoff.row)
  have HAR:=hide (areExcept_any A2 l.length cap2 l _ HRW.out rfl (by omega))
  have HOF:=hide hoff
  have HRO:=hide hrow
  have ck : w2.cell? ⟨X,11,none⟩ = some (.slice m.X e.ex.length m.xc):=H1.out.k.cell 11 (by simp)
  have fk:=H1.out.k.free 11
  have cs : (w2.setCell ⟨X,11,none⟩ (.slice A2 l.length cap2)).cell? ⟨X,11,none⟩ = some (.slice A2 l.length cap2):=World.cell?_setCell_same _ _ _ ck
  have HRD : Hid (RdAt (w2.setCell ⟨X,11,none⟩ (.slice A2 l.length cap2)) X { e with ex:=l } ⟨m.O,m.oc,m.D,m.dc,m.M,m.mc,m.Y,m.yc,A2,cap2⟩ v):=hide (RdAt.put ((H1.out.k.set 11 (.slice A2 l.length cap2) (by simp)).is rfl) hg2 ⟨H1.out.l.o,H1.out.l.ol,H1.out.l.r,HRO.out,hlen,H1.out.l.ul,H1.out.l.tl⟩ H1.out.oo H1.out.od H1.out.om H1.out.oy HOF.out H1.out.own)
  have HK : Hid (Ev.keepL Ev.exB (some l) = if Ev.exB l = true then some l else none):=hide rfl
  obtain ⟨BB,hBB⟩ : ∃ BB,Ev.exB l = BB:=⟨_,rfl⟩
  rw [hBB] at HAR
  have HBB:=hide hBB
  clear hb2 hown hrow hfrom hoff HC HRR HRW hBB
  go_wp2_with fail
  refine HAR.out.mono ?_
  rintro _ w3 ⟨rfl,hb3⟩
  have HB3:=hide hb3
  clear hb3
  go_wp2_with fail
  go_ret
  have hg:=World.grownBy.trans (World.grownBy.trans (grown_below (b:=X) HB.out) hg2) (grown_below HB3.out)
  cases BB with
  | true => rw [HK.out,HBB.out,if_pos rfl]; exact ⟨hg,rfl,_,HRD.out.keep HB3.out⟩
  | false => rw [HK.out,HBB.out,if_neg (by decide)]; exact ⟨hg,rfl⟩
theorem set_6 (t : Tx) (X : Nat) (e : Ev.E) (m : Mem) (v : Value) (seen : List Tx) (w : World) (h : RdAt w X e m v) (hv : ∀ g,v.ownBlock = some g -> g < w.heap.size) (he : EnvE w) (ht : t.length <= 100000) :
  Calls Tryz.prog 205 #[.pointer (some ⟨X,0,none⟩),.string (str Ev.nROOMS),.string (str t)] w (SetsE w X v (Ev.setF unU seen e Ev.nROOMS t)):=by
 have H0 : Ev.setF unU seen e Ev.nROOMS t = (Ev.roomsE t).map fun l => { e with rooms:=l }:=by unfold Ev.setF; rw [if_neg (by decide),if_neg (by decide),Ev.setE_5]
 rw [H0]
 clear H0
 obtain ⟨N,hN⟩ : ∃ N,Ev.nROOMS = N:=⟨_,rfl⟩
 have e0 : (N == [66,69,71,73,78]) = false:=by rw [<- hN]; decide
 have e1 : (N == [85,73,68]) = false:=by rw [<- hN]; decide
 have e2 : (N == [68,84,83,84,65,82,84]) = false:=by rw [<- hN]; decide
 have e3 : (N == [68,85,82,65,84,73,79,78]) = false:=by rw [<- hN]; decide
 have e4 : (N == [82,82,85,76,69]) = false:=by rw [<- hN]; decide
 have e5 : (N == [69,88,68,65,84,69]) = false:=by rw [<- hN]; decide
 have e6 : (N == [88,45,82,79,79,77,83]) = true:=by rw [<- hN]; decide
 have q1:=str_tl N
 have hts : (str t).size <= 100000:=by rw [str_size]; exact ht
 have htl : (str t).data.toList = t:=str_list t
 have H:=hide h
 have HE:=hide he
 have HV:=hide hv
 have hX:=h.k.lt
 rw [hN]
 clear h he hv hN
 obtain ⟨O,hO⟩ : ∃ O,(allSome numC (Lib.splitN t [44] 5)).map (srt inLt) = O:=⟨_,rfl⟩
 have H0 : Ev.roomsE t = Ev.keepL Ev.roomsB O:=by rw [<- hO]; rfl
 rw [H0]
 have hle:=splitN_le 44 4 t
 have hcon:=fun A_ cap_ w he hr => sortedN_any A_ _ cap_ (Lib.splitN t [44] 5) w hr (split_ne 4 t) rfl (Nat.le_trans hle.2 (by omega)) (fun p hp => Nat.le_trans (hle.1 p hp) ht) he
 have hlen : ∀ l,O = some l -> l.length <= 1000:=fun l hl => by
  rw [<- hO,Option.map_eq_some_iff] at hl
  obtain ⟨xs,hx,rfl⟩:=hl
  rw [(srt_perm inLt xs).length_eq,<- allSome_len hx]
  exact Nat.le_trans hle.2 (by omega)
 have HLE:=hide hlen
 have HEL:=hide (eelems4_at (str t) w HE.out.e hts)
 rw [htl] at HEL
 rw [hO] at hcon
 have HC:=hide hcon
 generalize (Lib.splitN t [44] 5) = LL at *
 clear hO hcon hle hlen H0
 go_enter Tryz.func205,Tryz.ntmps205
 go_wp2_with fail
 refine HEL.out.mono ?_
 rintro _ w1 ⟨A,cap,rfl,hr,hb1⟩
 have HB1:=hide hb1
 have HRR:=hide hr
 clear hb1 hr HEL
 go_wp2_with fail
 refine (HC.out A cap _ (HE.out.e.keep HB1.out) HRR.out).mono ?_
 rintro _ w2 ⟨hb2,⟨rfl,rfl⟩ | ⟨l,v2,rfl,rfl,hown⟩⟩
 ·have HB:=hide (andthen HB1.out hb2)
  clear hb2 HC HRR
  have H1:=hide (H.out.keep HB.out)
  have ck : w2.cell? ⟨X,12,none⟩ = some (.slice m.O e.rooms.length m.oc):=H1.out.k.cell 12 (by simp)
  have fk:=H1.out.k.free 12
  go_wp2_with fail
  go_ret
  exact ⟨grown_set HB.out,rfl⟩
 ·have HB:=hide (andthen HB1.out hb2)
  have hfrom : ∀ A2 n2 c2,v2 = .slice A2 n2 c2 -> ∀ g o,A2 = some ⟨g,o,none⟩ -> w.heap.size <= g:=fun A2 n2 c2 ev g o ea => by subst ev; exact Nat.le_trans HB1.out.size (own_from hown g o ea)
  obtain ⟨A2,cap2,rfl,hrow⟩:=OwnI.row hown
  have HNW:=hide (hfrom A2 _ cap2 rfl)
  have hX1 : X < w.heap.size:=hX
  have hoff : OffA X v l A2:=off_new HNW.out hX1 HV.out
  have H1:=hide (H.out.keep HB.out)
  have hlen:=HLE.out l rfl
  have hg2:=grown_set (b:=X) (i:=12) (y:=.slice A2 l.length cap2) (start w2)
  have HRW:=hide (hrow.past hg2 hoff.row)
  have HAR:=hide (areRooms_any A2 l.length cap2 l _ HRW.out rfl (by omega))
  have HOF:=hide hoff
  have HRO:=hide hrow
  have ck : w2.cell? ⟨X,12,none⟩ = some (.slice m.O e.rooms.length m.oc):=H1.out.k.cell 12 (by simp)
  have fk:=H1.out.k.free 12
  have cs : (w2.setCell ⟨X,12,none⟩ (.slice A2 l.length cap2)).cell? ⟨X,12,none⟩ = some (.slice A2 l.length cap2):=World.cell?_setCell_same _ _ _ ck
  have HRD : Hid (RdAt (w2.setCell ⟨X,12,none⟩ (.slice A2 l.length cap2)) X { e with rooms:=l } ⟨A2,cap2,m.D,m.dc,m.M,m.mc,m.Y,m.yc,m.X,m.xc⟩ v):=hide (RdAt.put ((H1.out.k.set 12 (.slice A2 l.length cap2) (by simp)).is rfl) hg2 ⟨HRO.out,hlen,H1.out.l.r,H1.out.l.x,H1.out.l.xl,H1.out.l.ul,H1.out.l.tl⟩ HOF.out H1.out.od H1.out.om H1.out.oy H1.out.ox H1.out.own)
  have HK : Hid (Ev.keepL Ev.roomsB (some l) = if Ev.roomsB l = true then some l else none):=hide rfl
  obtain ⟨BB,hBB⟩ : ∃ BB,Ev.roomsB l = BB:=⟨_,rfl⟩
  rw [hBB] at HAR
  have HBB:=hide hBB
  clear hb2 hown hrow hfrom hoff HC HRR HRW hBB
  go_wp2_with fail
  refine HAR.out.mono ?_
  rintro _ w3 ⟨rfl,hb3⟩
  have HB3:=hide hb3
  clear hb3
  go_wp2_with fail
  go_ret
  have hg:=World.grownBy.trans (World.grownBy.trans (grown_below (b:=X) HB.out) hg2) (grown_below HB3.out)
  cases BB with
  | true => rw [HK.out,HBB.out,if_pos rfl]; exact ⟨hg,rfl,_,HRD.out.keep HB3.out⟩
  | false => rw [HK.out,HBB.out,if_neg (by decide)]; exact ⟨hg,rfl⟩
theorem set_7 (t : Tx) (X : Nat) (e : Ev.E) (m : Mem) (v : Value) (seen : List Tx) (w : World) (h : RdAt w X e m v) (hv : ∀ g,v.ownBlock = some g -> g < w.heap.size) (he : EnvE w) (ht : t.length <= 100000) :
  Calls Tryz.prog 205 #[.pointer (some ⟨X,0,none⟩),.string (str Ev.nTEXT),.string (str t)] w (SetsE w X v (Ev.setF unU seen e Ev.nTEXT t)):=by
 have H0 : Ev.setF unU seen e Ev.nTEXT t = (Ev.textE t).map fun s => { e with text:=s }:=by unfold Ev.setF; rw [if_neg (by decide),if_neg (by decide),Ev.setE_6]
 rw [H0]
 clear H0
 obtain ⟨N,hN⟩ : ∃ N,Ev.nTEXT = N:=⟨_,rfl⟩
 have e0 : (N == [66,69,71,73,78]) = false:=by rw [<- hN]; decide
 have e1 : (N == [85,73,68]) = false:=by rw [<- hN]; decide
 have e2 : (N == [68,84,83,84,65,82,84]) = false:=by rw [<- hN]; decide
 have e3 : (N == [68,85,82,65,84,73,79,78]) = false:=by rw [<- hN]; decide
 have e4 : (N == [82,82,85,76,69]) = false:=by rw [<- hN]; decide
 have e5 : (N == [69,88,68,65,84,69]) = false:=by rw [<- hN]; decide
 have e6 : (N == [88,45,82,79,79,77,83]) = false:=by rw [<- hN]; decide
 have e7 : (N == [83,85,77,77,65,82,89]) = true:=by rw [<- hN]; decide
 have q1:=str_tl N
 have hts : (str t).size <= 100000:=by rw [str_size]; exact ht
 have htl : (str t).data.toList = t:=str_list t
 have H:=hide h
 have HE:=hide he
 have HV:=hide hv
 have hX:=h.k.lt
 rw [hN]
 clear h he hv hN
 have HC:=hide (fun w (he : EnvE w) => summary_any (str t) w he.e hts)
 rw [htl] at HC
 have hle : ∀ s,Ev.textE t = some s -> s.length <= 40000:=fun s hs => by
  unfold Ev.textE at hs
  split at hs
  ·split at hs
   ·rename_i hb; injection hs with hs; subst hs; have:=Ev.textB_len hb; omega
   ·cases hs
  ·cases hs
 generalize Ev.textE t = O at *
 go_enter Tryz.func205,Tryz.ntmps205
 go_wp2_with fail
 refine (HC.out _ HE.out).mono ?_
 rintro _ w1 ⟨s,hn,rfl,hb⟩
 have HN:=hide hn
 clear hn
 have H1:=hide (H.out.keep hb)
 have HB:=hide hb
 have ck : w1.cell? ⟨X,1,none⟩ = some (.string (str e.text)):=H1.out.k.cell 1 (by simp)
 have fk:=H1.out.k.free 1
 clear hb
 go_wp2_with fail
 go_ret
 have hg:=grown_set (b:=X) (i:=1) (y:=.string (str s)) HB.out
 cases O with
 | none => exact ⟨hg,rfl⟩
 | some q =>
  obtain rfl:=HN.out q rfl
  exact ⟨hg,rfl,m,RdAt.put ((H1.out.k.set 1 (.string (str s)) (by simp)).is rfl) (grown_set (start w1)) ⟨H1.out.l.o,H1.out.l.ol,H1.out.l.r,H1.out.l.x,H1.out.l.xl,H1.out.l.ul,hle s rfl⟩ H1.out.oo H1.out.od H1.out.om H1.out.oy H1.out.ox H1.out.own⟩
abbrev four : List Tx:=[Ev.nUID,Ev.nSTART,Ev.nLONG,Ev.nROOMS]
theorem four_row (w : World) (t : TypeId) : RowS (w.alloc (.cells #[.string ⟨#[85,73,68]⟩,.string ⟨#[68,84,83,84,65,82,84]⟩,.string ⟨#[68,85,82,65,84,73,79,78]⟩,.string ⟨#[88,45,82,79,79,77,83]⟩] t)) (some ⟨w.heap.size,0,none⟩) four:=fun _ => by
 refine ⟨w.heap.size,0,rfl,by simp,fun i hi => ?_⟩
 have hi4 : i < 4:=hi
 rw [World.cell?_alloc_at _ _ _ _ rfl]
 rcases (by omega : i = 0 ∨ i = 1 ∨ i = 2 ∨ i = 3) with rfl | rfl | rfl | rfl <;> rfl
theorem four_all (seen : List Tx) : (four.all fun p => decide (p ∈ seen)) = Ev.hasAll seen:=by
 simp only [four,List.all_cons,List.all_nil,Bool.and_true,Ev.hasAll]
theorem set_8 (t : Tx) (X : Nat) (e : Ev.E) (m : Mem) (v : Value) (seen : List Tx) (w : World) (h : RdAt w X e m v) (hv : ∀ g,v.ownBlock = some g -> g < w.heap.size) (he : EnvE w) (ht : t.length <= 100000) (B : Nat) (ho : OwnS w B v seen) (hs : seen.length <= 1000) :
  Calls Tryz.prog 205 #[.pointer (some ⟨X,0,none⟩),.string (str Ev.nEND),.string (str t)] w (SetsE w X v (Ev.setF unU seen e Ev.nEND t)):=by
 have H0 : Ev.setF unU seen e Ev.nEND t = if (decide (Li.capE t = Ev.wEV) && (Ev.hasAll seen && Ev.isE e)) = true then some e else none:=by unfold Ev.setF; rw [if_neg (by decide),if_pos rfl]
 obtain ⟨O,hO⟩ : ∃ O,Ev.setF unU seen e Ev.nEND t = O:=⟨_,rfl⟩
 rw [hO] at H0 ⊢
 have HO:=hide H0
 clear H0 hO
 obtain ⟨N,hN⟩ : ∃ N,Ev.nEND = N:=⟨_,rfl⟩
 have e0 : (N == [66,69,71,73,78]) = false:=by rw [<- hN]; decide
 have e1 : (N == [85,73,68]) = false:=by rw [<- hN]; decide
 have e2 : (N == [68,84,83,84,65,82,84]) = false:=by rw [<- hN]; decide
 have e3 : (N == [68,85,82,65,84,73,79,78]) = false:=by rw [<- hN]; decide
 have e4 : (N == [82,82,85,76,69]) = false:=by rw [<- hN]; decide
 have e5 : (N == [69,88,68,65,84,69]) = false:=by rw [<- hN]; decide
 have e6 : (N == [88,45,82,79,79,77,83]) = false:=by rw [<- hN]; decide
 have e7 : (N == [83,85,77,77,65,82,89]) = false:=by rw [<- hN]; decide
 have e8 : (N == [69,78,68]) = true:=by rw [<- hN]; decide
 have q1:=str_tl N
 obtain ⟨A2,cap2,rfl,hrow,_⟩:=OwnS.row ho
 have H:=hide h
 have HE:=hide he
 have HR:=hide hrow
 rw [hN]
 clear h he hN hrow ho
 obtain ⟨b1,hb1⟩ : ∃ b1,decide (Li.capE t = Ev.wEV) = b1:=⟨_,rfl⟩
 obtain ⟨b2,hb2⟩ : ∃ b2,Ev.hasAll seen = b2:=⟨_,rfl⟩
 obtain ⟨b3,hb3⟩ : ∃ b3,Ev.isE e = b3:=⟨_,rfl⟩
 rw [hb1,hb2,hb3] at HO
 have HC1:=hide (evWord_at t b1 w HE.out.f ht hb1)
 have HC2:=hide (fun A c w h1 h2 => has_any X A A2 4 c seen.length cap2 four seen w h1 rfl (by decide) h2 rfl hs)
 rw [four_all,hb2] at HC2
 have HC3:=hide (fun w h => valid_any e m w h)
 rw [hb3] at HC3
 clear hb1 hb2 hb3
 cases b1 with
 | false =>
  go_enter Tryz.func205,Tryz.ntmps205
  go_wp2_with fail
  refine HC1.out.mono ?_
  rintro _ w1 ⟨rfl,hb⟩
  go_wp2_with fail
  go_ret
  rw [HO.out,if_neg (by simp)]
  exact ⟨grown_below hb,rfl⟩
 | true =>
  go_enter Tryz.func205,Tryz.ntmps205
  go_wp2_with fail
  refine HC1.out.mono ?_
  rintro _ w1 ⟨rfl,hb⟩
  have hbm:=more hb (.cells #[.string ⟨#[85,73,68]⟩,.string ⟨#[68,84,83,84,65,82,84]⟩,.string ⟨#[68,85,82,65,84,73,79,78]⟩,.string ⟨#[88,45,82,79,79,77,83]⟩] 9)
  have hr4:=four_row w1 9
  have H1:=hide (H.out.keep hbm)
  have HR1:=hide (HR.out.keep hbm)
  have HB:=hide hbm
  have HR4:=hide hr4
  clear hb hbm hr4
  go_wp2_with fail
  refine (HC2.out _ 4 _ HR4.out HR1.out (H1.out.k.cell 13 (by simp))).mono ?_
  rintro _ w2 ⟨rfl,hb⟩
  replace H1:=hide (H1.out.keep hb)
  replace HB:=hide (andthen HB.out hb)
  clear hb HR1 HR4
  cases b2 with
  | false =>
   go_wp2_with fail
   go_ret
   rw [HO.out,if_neg (by simp)]
   exact ⟨grown_below HB.out,rfl⟩
  | true =>
   obtain ⟨⟨c0,-⟩,⟨c1,-⟩,⟨c2,-⟩,⟨c3,-⟩,⟨c4,-⟩,⟨c5,-⟩,⟨c6,-⟩,⟨c7,-⟩,⟨c8,-⟩,⟨c9,-⟩,⟨c10,-⟩,⟨c11,-⟩,⟨c12,-⟩,-⟩:=H1.out.k.c14
   have HL:=hide H1.out.l
   go_wp2_with fail
   refine (HC3.out _ HL.out).mono ?_
   rintro _ w3 ⟨rfl,hb⟩
   replace H1:=hide (H1.out.keep hb)
   replace HB:=hide (andthen HB.out hb)
   clear hb
   go_wp2_with fail
   go_ret
   rw [HO.out]
   cases b3 with
   | true => rw [if_pos (by rfl)]; exact ⟨grown_below HB.out,rfl,_,H1.out⟩
   | false => rw [if_neg (by simp)]; exact ⟨grown_below HB.out,rfl⟩
theorem set_any (N t : Tx) (hN : N ∈ Ev.all9) (X : Nat) (e : Ev.E) (m : Mem) (v : Value) (seen : List Tx) (w : World) (h : RdAt w X e m v) (hv : ∀ g,v.ownBlock = some g -> g < w.heap.size) (he : EnvE w) (ht : t.length <= 100000) (B : Nat) (ho : OwnS w B v seen) (hs : seen.length <= 1000) :
  Calls Tryz.prog 205 #[.pointer (some ⟨X,0,none⟩),.string (str N),.string (str t)] w (SetsE w X v (Ev.setF unU seen e N t)):=by
 unfold Ev.all9 at hN
 simp only [List.mem_cons,List.not_mem_nil,or_false] at hN
 rcases hN with rfl | rfl | rfl | rfl | rfl | rfl | rfl | rfl | rfl
 ·exact set_0 t X e m v seen w h hv he ht
 ·exact set_1 t X e m v seen w h hv he ht
 ·exact set_2 t X e m v seen w h hv he ht
 ·exact set_3 t X e m v seen w h hv he ht
 ·exact set_4 t X e m v seen w h hv he ht
 ·exact set_5 t X e m v seen w h hv he ht
 ·exact set_6 t X e m v seen w h hv he ht
 ·exact set_7 t X e m v seen w h hv he ht
 ·exact set_8 t X e m v seen w h hv he ht B ho hs
def TakesE (w : World) (X : Nat) (o : Option (Ev.E × List Tx)) (e : Ending) (w' : World) : Prop :=
 Below X w w' /\ match o with
  | none => e = .returned (.bool false)
  | some q => e = .returned (.bool true) /\ ∃ m v,RdAt w' X q.1 m v /\ OwnS w' (X + 1) v q.2
theorem takeF_first (e : Ev.E) (seen : List Tx) (n t : Tx) (h : (decide (seen = []) != decide (n = Ev.nBEGIN)) = true) : Ev.takeF unU e seen n t = none:=by unfold Ev.takeF; rw [if_pos h]
theorem takeF_go (e : Ev.E) (seen : List Tx) (n t : Tx) (h : (decide (seen = []) != decide (n = Ev.nBEGIN)) = false) : Ev.takeF unU e seen n t = if decide (n ∈ seen) = true then none else if decide (n ∈ Ev.all9) = true then (Ev.setF unU (seen ++ [n]) e n t).map fun e' => (e',seen ++ [n]) else some (e,seen):=by
 unfold Ev.takeF
 rw [if_neg (by rw [h]; decide)]
 simp only [decide_eq_true_eq]
theorem len0 (l : List Tx) : ((l.length : Int) == 0) = decide (l = []):=by
 cases l with
 | nil => rfl
 | cons a l => simp; omega
theorem etake_any (N t : Tx) (X : Nat) (e : Ev.E) (m : Mem) (v : Value) (seen : List Tx) (w : World) (h : RdAt w X e m v) (ho : OwnS w (X + 1) v seen) (he : ∀ w',Below X w w' -> EnvE w') (ht : N ∈ Ev.all9 -> t.length <= 100000) (hs : seen.length <= 999) :
  Calls Tryz.prog 172 #[.pointer (some ⟨X,0,none⟩),.string (str N),.string (str t)] w (TakesE w X (Ev.takeF unU e seen N t)):=by
 obtain ⟨A2,cap2,rfl,hrow,_⟩:=OwnS.row ho
 have H:=hide h
 have HE:=hide he
 have HR:=hide hrow
 have HOW:=hide ho
 have hX:=h.k.lt
 have HB:=hide (Below.refl X w)
 have ck0:=h.k.cell 13 (by simp)
 simp only [rdV,List.getElem_cons_zero,List.getElem_cons_succ] at ck0
 have q1:=str_tl N
 obtain ⟨O,hO⟩ : ∃ O,Ev.takeF unU e seen N t = O:=⟨_,rfl⟩
 obtain ⟨f,hf⟩ : ∃ f,decide (seen = []) = f:=⟨_,rfl⟩
 obtain ⟨g,hg⟩ : ∃ g,decide (N = Ev.nBEGIN) = g:=⟨_,rfl⟩
 have e0 : (N == [66,69,71,73,78]) = g:=by rw [<- hg,tx_eq]; rfl
 have e1 : ((seen.length : Int) == 0) = f:=by rw [<- hf,len0]
 have hx : (decide (seen = []) != decide (N = Ev.nBEGIN)) = (f != g):=by rw [hf,hg]
 rw [hO]
 clear hf hg h he hrow ho
 by_cases hfg : (f != g) = true
 ·rw [hfg] at hx
  rw [takeF_first e seen N t hx] at hO
  have HO:=hide hO.symm
  clear hO hx
  cases f <;> cases g
  ·exact absurd hfg (by decide)
  iterate 2
   clear hfg
   go_enter Tryz.func172,Tryz.ntmps172
   go_wp2_with fail
   go_ret
   rw [HO.out]
   exact ⟨HB.out,rfl⟩
  exact absurd hfg (by decide)
 ·rw [Bool.not_eq_true] at hfg
  rw [hfg] at hx
  rw [takeF_go e seen N t hx] at hO
  have HO:=hide hO.symm
  have HCO:=hide (fun w hr => containsS_any N A2 seen.length cap2 seen w hr rfl (by omega))
  have HKN : Hid (∀ w,Calls Tryz.prog 204 #[.string (str N)] w fun e w' => e = .returned (.bool (decide (N ∈ Ev.all9))) /\ w = w'):=hide (fun w => isKnown_any N w)
  obtain ⟨d,hd⟩ : ∃ d,decide (N ∈ seen) = d:=⟨_,rfl⟩
  obtain ⟨k,hk⟩ : ∃ k,decide (N ∈ Ev.all9) = k:=⟨_,rfl⟩
  rw [hd] at HCO
  rw [hk] at HKN
  rw [hd,hk] at HO
  have HKT : Hid (k = true -> N ∈ Ev.all9):=hide (fun e => of_decide_eq_true (hk.trans e))
  clear hO hx hd hk
  cases f <;> cases g
  case false.true => exact absurd hfg (by decide)
  case true.false => exact absurd hfg (by decide)
  all_goals
   clear hfg
   go_enter Tryz.func172,Tryz.ntmps172
   go_wp2_with fail
   refine (HCO.out _ HR.out).mono ?_
   rintro _ w1 ⟨rfl,hb1⟩
   replace H:=hide (H.out.keep hb1)
   replace HOW:=hide (HOW.out.keep hb1)
   replace HB:=hide (HB.out.trans (hb1.mono (Nat.le_trans (Nat.le_of_lt hX) HB.out.size)))
   clear hb1 HR
   cases d with
   | true =>
    go_wp2_with fail
    go_ret
    rw [HO.out]
    try simp only [if_true]
    exact ⟨HB.out,rfl⟩
   | false =>
    go_wp2_with fail
    refine (HKN.out _).mono ?_
    rintro _ _ ⟨rfl,rfl⟩
    cases k with
    | false =>
     go_wp2_with fail
     go_ret
     rw [HO.out]
     try simp only [Bool.false_eq_true,if_false]
     exact ⟨HB.out,rfl,_,_,H.out,HOW.out⟩
    | true =>
     have ck:=H.out.k.cell 13 (by simp)
     simp only [rdV,List.getElem_cons_zero,List.getElem_cons_succ] at ck
     have hown1:=HOW.out
     have hlt1 : X + 1 <= w1.heap.size:=H.out.k.lt
     have hs1 : seen.length <= 1000000:=by omega
     go_wp2_with (at_builtin; refine wp_oneT (l:=seen) (p:=N) rfl _ _ rfl rfl rfl rfl hown1 hlt1 hs1 ?_; intro v4 w4 hown4 hg4; obtain ⟨A4,cap4,rfl,_,_⟩:=OwnS.row hown4; have hl4 : (seen ++ [N]).length = seen.length + 1:=(by rw [List.length_append]; rfl); rw [hl4] at hown4 hg4; have HOLD:=hide (H.out.goes hg4); have ck4 : w4.cell? ⟨X,13,none⟩ = some (.slice A2 seen.length cap2):=HOLD.out.k.cell 13 (by simp); have fk4:=HOLD.out.k.free 13)
     replace ck4 : True:=trivial
     have hb4:=HB.out.grown hg4.grown (Nat.le_of_lt hlt1) fun k hk => (by have:=(hown1.lt k hk).1; omega)
     have hg5:=grown_set (b:=X) (i:=13) (y:=.slice A4 (seen.length + 1) cap4) (start w4)
     have hX4 : X < w4.heap.size:=HOLD.out.k.lt
     have hb5:=hb4.grown hg5 (Nat.le_of_lt hX4) fun k hk => (by injection hk with hk; omega)
     have hown5:=World.ownsRow.kept hown4 hg5 (Or.inr fun e => by have:=(hown4.lt X e).1; omega)
     have HRD:=hide HOLD.out.set
     have HB5:=hide hb5
     have HO5:=hide hown5
     have HS:=hide (fun w h hv he B ho => set_any N t (HKT.out (by first | trivial | rfl)) X e m (.slice A4 (seen.length + 1) cap4) (seen ++ [N]) w h hv he (ht (HKT.out (by first | trivial | rfl))) B ho (by rw [List.length_append]; simp only [List.length_cons,List.length_nil]; omega))
     clear hb4 hg5 hb5 hown5 hown1 hlt1 hs1 hg4 hown4 ck
     go_wp2_with fail
     refine (HS.out _ HRD.out (fun g e => (HO5.out.lt g e).2) (HE.out _ HB5.out) _ HO5.out).mono ?_
     rintro e6 w6 ⟨hg6,h6⟩
     have hX5:=HRD.out.k.lt
     have hb6:=HB5.out.grown hg6 (Nat.le_of_lt hX5) fun k hk => (by injection hk with hk; omega)
     have hown6:=World.ownsRow.kept HO5.out hg6 (Or.inr fun e => by have:=(HO5.out.lt X e).1; omega)
     have HB6:=hide hb6
     have HO6:=hide hown6
     try simp only [Bool.false_eq_true,if_true,if_false] at HO
     clear hg6 hb6 hown6
     cases hq : Ev.setF unU (seen ++ [N]) e N t with
     | none =>
      rw [hq] at h6 HO
      subst h6
      go_wp2_with fail
      go_ret
      rw [HO.out]
      exact ⟨HB6.out,rfl⟩
     | some q =>
      rw [hq] at h6 HO
      obtain ⟨rfl,m6,h6⟩:=h6
      have H6:=hide h6
      clear h6
      go_wp2_with fail
      go_ret
      rw [HO.out]
      exact ⟨HB6.out,rfl,m6,_,H6.out,HO6.out⟩
end Go.Proofs.YtfecnkhoojnkbaaGreatDoor

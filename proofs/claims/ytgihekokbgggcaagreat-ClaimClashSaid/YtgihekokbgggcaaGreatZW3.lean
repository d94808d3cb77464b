/- BW3; BRuC of the recipes, what is needed of them. -/
import Derived.WalkSpells
import Derived.WalkLawsBesides
import Derived.Lib.QuietBelow
import Derived.Deep.RegionHeld3
import Derived.Deep.DrawnRows
import Derived.Test.YtgihekokbgggcaaGreatZW1
import Derived.Test.YtgihekokbgggcaaGreatZBM1
set_option maxHeartbeats 8000000
set_option maxRecDepth 1000000
namespace Go.Proofs.YtgihekokbgggcaaGreat
open Go.RowKit Rul
theorem below_drawn {B : Nat} {a w : World} (h : Below B a w) (n : Nat) : Below B a (w.drewN n):=⟨h.os,h.tape,h.output,h.size,h.block⟩
theorem more {a w : World} (h : Below a.heap.size a w) (o : Obj) : Below a.heap.size a (w.alloc o):=h.alloc h.size o
theorem andthen {a b c : World} (h : Below a.heap.size a b) (k : Below b.heap.size b c) : Below a.heap.size a c:=h.trans (k.mono h.size)
theorem start (a : World) : Below a.heap.size a a:=Below.refl _ _
theorem old {W w1 : World} {B : Nat} (hb : Below B W w1) : (∀ b o,b < B -> w1.cell? ⟨b,o,none⟩ = W.cell? ⟨b,o,none⟩) /\ (∀ b o,b < B -> w1.frozen? ⟨b,o,none⟩ = W.frozen? ⟨b,o,none⟩) :=
 ⟨fun b o h => hb.cell (p:=⟨b,o,none⟩) h,fun b o h => hb.frozen (p:=⟨b,o,none⟩) h⟩
theorem cell_keep {a b : World} {X k : Nat} {v : Value} (h : Below a.heap.size a b) (c : a.cell? ⟨X,k,none⟩ = some v) : b.cell? ⟨X,k,none⟩ = some v :=
 (h.cell (p:=⟨X,k,none⟩) (block_lt_of_cell c)).trans c
abbrev Ans (w : World) (v : Value) : Ending -> World -> Prop:=fun e w' => e = .returned v /\ Below w.heap.size w w'
theorem ans_is {P : Program} {f : FuncId} {args : Array Value} {w : World} {a b : Bool} (h : Calls P f args w (Ans w (.bool a))) (e : a = b) : Calls P f args w (Ans w (.bool b)):=by subst e; exact h
theorem ans_same {P : Program} {f : FuncId} {args : Array Value} {w : World} {v : Value} (h : Calls P f args w fun e w' => e = .returned v /\ w = w') : Calls P f args w (Ans w v) :=
 h.mono fun _ _ ⟨he,hw⟩ => ⟨he,hw ▸ start _⟩
def RowD (w : World) (A : Option Addr) (l : List Wd) : Prop :=
 l ≠ [] -> ∃ b off,A = some ⟨b,off,none⟩ /\ b < w.heap.size /\ ∀ i (h : i < l.length),w.cell? ⟨b,off + i * 2,none⟩ = some (.int .i64 l[i].1) /\ w.cell? ⟨b,off + i * 2 + 1,none⟩ = some (.int .i64 l[i].2)
def RowI (w : World) (A : Option Addr) (l : List Int) : Prop :=
 l ≠ [] -> ∃ b off,A = some ⟨b,off,none⟩ /\ b < w.heap.size /\ ∀ i (h : i < l.length),w.cell? ⟨b,off + i,none⟩ = some (.int .i64 l[i])
theorem RowD.keep {w w' : World} {A : Option Addr} {l : List Wd} (h : RowD w A l) (hb : Below w.heap.size w w') : RowD w' A l:=fun hn => by
 obtain ⟨b,off,e,hl,hc⟩:=h hn
 exact ⟨b,off,e,Nat.lt_of_lt_of_le hl hb.size,fun i hi => ⟨(hb.cell (p:=⟨b,_,none⟩) hl).trans (hc i hi).1,(hb.cell (p:=⟨b,_,none⟩) hl).trans (hc i hi).2⟩⟩
theorem RowI.keep {w w' : World} {A : Option Addr} {l : List Int} (h : RowI w A l) (hb : Below w.heap.size w w') : RowI w' A l:=fun hn => by
 obtain ⟨b,off,e,hl,hc⟩:=h hn
 exact ⟨b,off,e,Nat.lt_of_lt_of_le hl hb.size,fun i hi => (hb.cell (p:=⟨b,_,none⟩) hl).trans (hc i hi)⟩
theorem RowD.nil (w : World) (A : Option Addr) : RowD w A []:=fun h => absurd rfl h
theorem RowI.nil (w : World) (A : Option Addr) : RowI w A []:=fun h => absurd rfl h
theorem btw_any (a x b : Int) (w : World) :
  Calls Tryz.prog 155 #[.int .i64 a,.int .i64 x,.int .i64 b] w fun e w' => e = .returned (.bool (btw a x b)) /\ w = w':=by
 by_cases h : a <= x
 ·have e:=hide (show btw a x b = decide (x <= b) by simp [btw,h])
  go_enter Tryz.func155,Tryz.ntmps155
  go_wp2_with fail
  go_ret
  exact ⟨ret_bool (by rw [e.out]),rfl⟩
 ·have e:=hide (show btw a x b = false by simp [btw,h])
  have hd : decide (a <= x) = false:=by simpa using h
  go_enter Tryz.func155,Tryz.ntmps155
  go_wp2_with fail
  go_ret
  exact ⟨ret_bool (by rw [e.out]),rfl⟩
theorem btw_at (a x b : Int) (c : Bool) (w : World) (h : btw a x b = c) :
  Calls Tryz.prog 155 #[.int .i64 a,.int .i64 x,.int .i64 b] w fun e w' => e = .returned (.bool c) /\ w = w':=by
 subst h; exact btw_any a x b w
theorem nan_any (x : Int) (w : World) :
  Calls Tryz.prog 58 #[.int .i64 x] w fun e w' => e = .returned (.bool false) /\ w = w':=by
 have e:=hide (show (x != x) = false by simp)
 go_enter Tryz.func58,Tryz.ntmps58
 go_wp2_with fail
 go_ret
 exact ⟨ret_bool (by first | rfl | rw [e.out]),rfl⟩
def cmpI (a b : Int) : Int:=if a < b then -1 else if b < a then 1 else 0
theorem cmpI_lt (a b : Int) : decide (0 <= cmpI a b) = !inLt a b:=by
 unfold cmpI inLt
 by_cases h : a < b
 ·rw [if_pos h,decide_eq_true h]; rfl
 ·rw [if_neg h,decide_eq_false h]; split <;> rfl
theorem cmp_any (a b : Int) (w : World) :
  Calls Tryz.prog 38 #[.int .i64 a,.int .i64 b] w fun e w' => e = .returned (.int .i64 (cmpI a b)) /\ w = w':=by
 by_cases h1 : a < b
 ·have e:=hide (show cmpI a b = -1 by simp [cmpI,h1])
  go_enter Tryz.func38,Tryz.ntmps38
  go_wp2_with (go_at_call 58; refine (nan_any _ _).mono ?_; rintro e w' ⟨rfl,rfl⟩)
  go_ret
  exact ⟨ret_int (by rw [e.out]),rfl⟩
 ·by_cases h2 : b < a
  ·have e:=hide (show cmpI a b = 1 by simp [cmpI,h1,h2])
   go_enter Tryz.func38,Tryz.ntmps38
   go_wp2_with (go_at_call 58; refine (nan_any _ _).mono ?_; rintro e w' ⟨rfl,rfl⟩)
   go_ret
   exact ⟨ret_int (by rw [e.out]),rfl⟩
  ·have e:=hide (show cmpI a b = 0 by simp [cmpI,h1,h2])
   go_enter Tryz.func38,Tryz.ntmps38
   go_wp2_with (go_at_call 58; refine (nan_any _ _).mono ?_; rintro e w' ⟨rfl,rfl⟩)
   go_ret
   exact ⟨ret_int (by rw [e.out]),rfl⟩
theorem isMonth_any (n : Int) (w : World) :
  Calls Tryz.prog 161 #[.int .i64 n] w fun e w' => e = .returned (.bool (moOk n)) /\ w = w':=by
 go_enter Tryz.func161,Tryz.ntmps161
 go_wp2_with (go_at_call 155; refine (btw_any _ _ _ _).mono ?_; rintro e w' ⟨rfl,rfl⟩)
 go_ret
 exact ⟨rfl,rfl⟩
theorem isMonthDay_any (n : Int) (w : World) :
  Calls Tryz.prog 160 #[.int .i64 n] w fun e w' => e = .returned (.bool (mdOk n)) /\ w = w':=by
 cases h : (n != 0)
 ·have e:=hide (show mdOk n = false by unfold mdOk; rw [h]; rfl)
  go_enter Tryz.func160,Tryz.ntmps160
  go_wp2_with fail
  go_ret
  exact ⟨ret_bool (by rw [e.out]),rfl⟩
 ·have e:=hide (show mdOk n = btw (-31) n 31 by unfold mdOk; rw [h]; rfl)
  go_enter Tryz.func160,Tryz.ntmps160
  go_wp2_with (go_at_call 155; refine (btw_any _ _ _ _).mono ?_; rintro e w' ⟨rfl,rfl⟩)
  go_ret
  exact ⟨ret_bool (by rw [e.out]),rfl⟩
theorem isWeekday_any (x y : Int) (w : World) :
  Calls Tryz.prog 157 #[.agg #[.int .i64 x,.int .i64 y]] w (Ans w (.bool (wdOk (x,y)))):=by
 cases h : btw (-5) x 5
 ·have e:=hide (show wdOk (x,y) = false by unfold wdOk; rw [h]; rfl)
  have H:=hide h
  clear h
  go_enter Tryz.func157,Tryz.ntmps157
  go_wp2_with (go_at_call 155; refine (btw_at _ _ _ _ _ H.out).mono ?_; rintro e w' ⟨rfl,rfl⟩)
  go_ret
  exact ⟨ret_bool (by rw [e.out]),more (start _) _⟩
 ·have e:=hide (show wdOk (x,y) = btw 0 y 6 by unfold wdOk; rw [h]; rfl)
  have H:=hide h
  clear h
  go_enter Tryz.func157,Tryz.ntmps157
  go_wp2_with fail
  refine (btw_at _ _ _ _ _ H.out).mono ?_
  rintro e w' ⟨rfl,rfl⟩
  go_wp2_with (go_at_call 155; refine (btw_any _ _ _ _).mono ?_; rintro e w' ⟨rfl,rfl⟩)
  go_ret
  exact ⟨ret_bool (by rw [e.out]),more (start _) _⟩
def cmpW (a b : Wd) : Int:=if a.1 = b.1 then cmpI a.2 b.2 else cmpI a.1 b.1
theorem cmpW_lt (a b : Wd) : decide (0 <= cmpW a b) = !wdLt a b:=by
 unfold cmpW wdLt
 by_cases h : a.1 = b.1
 ·rw [if_pos h,cmpI_lt]; unfold inLt; congr 1; simp [h]
 ·rw [if_neg h,cmpI_lt]; unfold inLt; congr 1; simp [h]
theorem cmpW_any (x y u v : Int) (w : World) :
  Calls Tryz.prog 158 #[.agg #[.int .i64 x,.int .i64 y],.agg #[.int .i64 u,.int .i64 v]] w (Ans w (.int .i64 (cmpW (x,y) (u,v)))):=by
 by_cases hx : x = u
 ·have e:=hide (show cmpW (x,y) (u,v) = cmpI y v by simp [cmpW,hx])
  have h : (x != u) = false:=by rw [hx]; simp
  clear hx
  go_enter Tryz.func158,Tryz.ntmps158
  go_wp2_with (go_at_call 38; refine (cmp_any _ _ _).mono ?_; rintro e w' ⟨rfl,rfl⟩)
  go_ret
  exact ⟨ret_int (by rw [e.out]),more (more (start _) _) _⟩
 ·have e:=hide (show cmpW (x,y) (u,v) = cmpI x u by simp [cmpW,hx])
  have h : (x != u) = true:=by rw [bne_iff_ne]; exact hx
  clear hx
  go_enter Tryz.func158,Tryz.ntmps158
  go_wp2_with (go_at_call 38; refine (cmp_any _ _ _).mono ?_; rintro e w' ⟨rfl,rfl⟩)
  go_ret
  exact ⟨ret_int (by rw [e.out]),more (more (start _) _) _⟩
theorem pos_any (x y : Int) (w : World) :
  Calls Tryz.prog 179 #[.agg #[.int .i64 x,.int .i64 y]] w (Ans w (.bool (posB (x,y)))):=by
 go_enter Tryz.func179,Tryz.ntmps179
 go_wp2_with fail
 go_ret
 exact ⟨rfl,more (start _) _⟩
abbrev pv (p : P) : Value:=.agg #[.int .i64 p.mo,.int .i64 p.dy,.int .i64 p.de,.int .i64 p.wd,.int .i64 p.po,.int .i64 p.pe]
theorem moFit_any (p : P) (n : Int) (w : World) :
  Calls Tryz.prog 188 #[pv p,.int .i64 n] w (Ans w (.bool (moFit p n))):=by
 have e:=hide (show moFit p n = (n == p.mo) from rfl)
 go_enter Tryz.func188,Tryz.ntmps188
 go_wp2_with fail
 go_ret
 exact ⟨ret_bool (by rw [e.out]),more (start _) _⟩
theorem mdFit_any (p : P) (n : Int) (w : World) :
  Calls Tryz.prog 189 #[pv p,.int .i64 n] w (Ans w (.bool (mdFit p n))):=by
 cases h : (n == p.dy)
 ·have e:=hide (show mdFit p n = (n == p.de) by
   unfold mdFit; rw [decide_eq_false (by rw [beq_eq_false_iff_ne] at h; exact h)]; rfl)
  go_enter Tryz.func189,Tryz.ntmps189
  go_wp2_with fail
  go_ret
  exact ⟨ret_bool (by rw [e.out]),more (start _) _⟩
 ·have e:=hide (show mdFit p n = true by
   unfold mdFit; rw [decide_eq_true (by rw [beq_iff_eq] at h; exact h)]; rfl)
  go_enter Tryz.func189,Tryz.ntmps189
  go_wp2_with fail
  go_ret
  exact ⟨ret_bool (by rw [e.out]),more (start _) _⟩
theorem wdFit_eq (p : P) (x y : Int) : wdFit p (x,y) = ((y == p.wd) && ((x == 0) || ((x == p.po) || (x == p.pe)))):=rfl
theorem wdFit_any (p : P) (x y : Int) (w : World) :
  Calls Tryz.prog 191 #[pv p,.agg #[.int .i64 x,.int .i64 y]] w (Ans w (.bool (wdFit p (x,y)))):=by
 cases h1 : (y == p.wd) <;> cases h2 : (x == 0) <;> cases h3 : (x == p.po)
 all_goals
  have e:=hide (wdFit_eq p x y)
  rw [h1,h2,h3] at e
  go_enter Tryz.func191,Tryz.ntmps191
  go_wp2_with fail
  go_ret
  exact ⟨ret_bool (by rw [e.out]; try rfl),more (more (start _) _) _⟩
theorem any_end {α : Type} (q : α -> Bool) (l : List α) (j : Nat) (hj : j = l.length) (h : ∀ i (hi : i < l.length),i < j -> q l[i] = false) : l.any q = false :=
 any_none q l fun i hi => h i hi (by omega)
theorem none_step {α : Type} (q : α -> Bool) (l : List α) (j : Nat) (hj : j < l.length) (h : ∀ i (hi : i < l.length),i < j -> q l[i] = false) (h2 : q l[j] = false) : ∀ i (hi : i < l.length),i < j + 1 -> q l[i] = false:=fun i hi h3 => by
 rcases Nat.lt_or_ge i j with g | g
 ·exact h i hi g
 ·obtain rfl : i = j:=by omega
  exact h2
def Finds (w : World) (b : Bool) (e : Ending) (w' : World) : Prop:=∃ v : Int,e = .returned (.int .i64 v) /\ decide (0 <= v) = b /\ Below w.heap.size w w'
theorem ixMo_any (p : P) (A : Option Addr) (n c : Nat) (l : List Int) (w : World) (hl : RowI w A l) (hn : n = l.length) (hsz : l.length <= 10000) :
  Calls Tryz.prog 195 #[.slice A n c,(.func (.func 188) #[pv p] #[])] w (Finds w (l.any (moFit p))):=by
 subst hn
 by_cases hnil : l = []
 ·subst hnil
  go_enter Tryz.func195,Tryz.ntmps195
  go_wp2_with fail
  refine wp_loop_rounds 1 ?_
  rw [rounds_succ]
  go_wp2_with fail
  go_ret
  exact ⟨-1,rfl,rfl,start _⟩
 ·obtain ⟨b1,o1,rfl,hb1,hc1⟩:=hl hnil
  have HC1:=hide hc1
  clear hl hc1 hnil
  go_enter Tryz.func195,Tryz.ntmps195
  go_wp2_with fail
  go_loopw [8] (fun i wr => ∃ j : Nat,j <= l.length /\ i = .int .i64 j /\ (∀ i (hi : i < l.length),i < j -> (moFit p) l[i] = false) /\ Below w.heap.size w wr) (fun i _ => l.length - (intOf i).toNat)
  case atStart => exact ⟨0,Nat.zero_le _,rfl,fun i hi h => absurd h (Nat.not_lt_zero _),start _⟩
  case round =>
   obtain ⟨j,hj,rfl,heq,hbw⟩:=hrel
   have HE:=hide heq
   clear heq
   by_cases hlt : j < l.length
   ·have p1 : wr.cell? ⟨b1,o1 + j,none⟩ = some (.int .i64 l[j]):=(hbw.cell (p:=⟨b1,_,none⟩) hb1).trans (HC1.out j hlt)
    have hi0 : (0 : Int) <= (j : Int):=by omega
    have hi1 : (j : Int) < (l.length : Int):=by omega
    cases hq : (moFit p) l[j]
    ·have HN:=hide (none_step (moFit p) l j hlt HE.out hq)
     have HQ:=hide hq
     clear hq
     go_wp2_with fail
     refine (ans_is (moFit_any p l[j] _) HQ.out).mono ?_
     rintro e w1 ⟨rfl,hb2⟩
     have hbw2:=hbw.trans (hb2.mono hbw.size)
     go_wp2_with fail
     go_roundw
     case rel => exact ⟨j + 1,by omega,by go_num,HN.out,hbw2⟩
     case measure => simp [intOf]; omega
    ·have HN:=hide (any_at (moFit p) l j hlt hq)
     have HQ:=hide hq
     clear hq
     go_wp2_with fail
     refine (ans_is (moFit_any p l[j] _) HQ.out).mono ?_
     rintro e w1 ⟨rfl,hb2⟩
     have hbw2:=hbw.trans (hb2.mono hbw.size)
     go_wp2_with fail
     go_ret
     exact ⟨_,rfl,by rw [HN.out]; exact decide_eq_true hi0,hbw2⟩
   ·obtain rfl : j = l.length:=by omega
    have HF:=hide (any_end (moFit p) l l.length rfl HE.out)
    go_wp2_with fail
    go_ret
    exact ⟨-1,rfl,by rw [HF.out]; rfl,hbw⟩
theorem hasMo_any (p : P) (A : Option Addr) (n c : Nat) (l : List Int) (w : World) (hl : RowI w A l) (hn : n = l.length) (hsz : l.length <= 10000) :
  Calls Tryz.prog 194 #[.slice A n c,(.func (.func 188) #[pv p] #[])] w (Ans w (.bool (l.any (moFit p)))):=by
 subst hn
 have HL:=hide hl
 clear hl
 go_enter Tryz.func194,Tryz.ntmps194
 go_wp2_with fail
 refine (ixMo_any p A _ c l _ HL.out rfl hsz).mono ?_
 rintro e w1 ⟨v,rfl,hv,hb⟩
 have HV:=hide hv
 clear hv
 go_wp2_with fail
 go_ret
 exact ⟨ret_bool (by rw [<- HV.out]),hb⟩
theorem empMo_any (p : P) (A : Option Addr) (n c : Nat) (l : List Int) (w : World) (hl : RowI w A l) (hn : n = l.length) (hsz : l.length <= 10000) :
  Calls Tryz.prog 187 #[(.func (.func 188) #[pv p] #[]),.slice A n c] w (Ans w (.bool (emptyOr (moFit p) l))):=by
 subst hn
 by_cases hnil : l = []
 ·subst hnil
  go_enter Tryz.func187,Tryz.ntmps187
  go_wp2_with fail
  go_ret
  exact ⟨rfl,start _⟩
 ·have e:=hide (emptyOr_any (moFit p) l hnil)
  have h0 : l.length ≠ 0:=fun h => hnil (List.eq_nil_of_length_eq_zero h)
  have h1 : ((l.length : Int) == 0) = false:=by rw [beq_eq_false_iff_ne]; omega
  have h2 : (l.length == 0) = false:=by rw [beq_eq_false_iff_ne]; exact h0
  have HL:=hide hl
  clear hl hnil h0
  go_enter Tryz.func187,Tryz.ntmps187
  go_wp2_with fail
  refine (hasMo_any p A _ c l _ HL.out rfl hsz).mono ?_
  rintro e w1 ⟨rfl,hb⟩
  go_wp2_with fail
  go_ret
  exact ⟨ret_bool (by rw [e.out]),hb⟩
theorem ixMd_any (p : P) (A : Option Addr) (n c : Nat) (l : List Int) (w : World) (hl : RowI w A l) (hn : n = l.length) (hsz : l.length <= 10000) :
  Calls Tryz.prog 195 #[.slice A n c,(.func (.func 189) #[pv p] #[])] w (Finds w (l.any (mdFit p))):=by
 subst hn
 by_cases hnil : l = []
 ·subst hnil
  go_enter Tryz.func195,Tryz.ntmps195
  go_wp2_with fail
  refine wp_loop_rounds 1 ?_
  rw [rounds_succ]
  go_wp2_with fail
  go_ret
  exact ⟨-1,rfl,rfl,start _⟩
 ·obtain ⟨b1,o1,rfl,hb1,hc1⟩:=hl hnil
  have HC1:=hide hc1
  clear hl hc1 hnil
  go_enter Tryz.func195,Tryz.ntmps195
  go_wp2_with fail
  go_loopw [8] (fun i wr => ∃ j : Nat,j <= l.length /\ i = .int .i64 j /\ (∀ i (hi : i < l.length),i < j -> (mdFit p) l[i] = false) /\ Below w.heap.size w wr) (fun i _ => l.length - (intOf i).toNat)
  case atStart => exact ⟨0,Nat.zero_le _,rfl,fun i hi h => absurd h (Nat.not_lt_zero _),start _⟩
  case round =>
   obtain ⟨j,hj,rfl,heq,hbw⟩:=hrel
   have HE:=hide heq
   clear heq
   by_cases hlt : j < l.length
   ·have p1 : wr.cell? ⟨b1,o1 + j,none⟩ = some (.int .i64 l[j]):=(hbw.cell (p:=⟨b1,_,none⟩) hb1).trans (HC1.out j hlt)
    have hi0 : (0 : Int) <= (j : Int):=by omega
    have hi1 : (j : Int) < (l.length : Int):=by omega
    cases hq : (mdFit p) l[j]
    ·have HN:=hide (none_step (mdFit p) l j hlt HE.out hq)
     have HQ:=hide hq
     clear hq
     go_wp2_with fail
     refine (ans_is (mdFit_any p l[j] _) HQ.out).mono ?_
     rintro e w1 ⟨rfl,hb2⟩
     have hbw2:=hbw.trans (hb2.mono hbw.size)
     go_wp2_with fail
     go_roundw
     case rel => exact ⟨j + 1,by omega,by go_num,HN.out,hbw2⟩
     case measure => simp [intOf]; omega
    ·have HN:=hide (any_at (mdFit p) l j hlt hq)
     have HQ:=hide hq
     clear hq
     go_wp2_with fail
     refine (ans_is (mdFit_any p l[j] _) HQ.out).mono ?_
     rintro e w1 ⟨rfl,hb2⟩
     have hbw2:=hbw.trans (hb2.mono hbw.size)
     go_wp2_with fail
     go_ret
     exact ⟨_,rfl,by rw [HN.out]; exact decide_eq_true hi0,hbw2⟩
   ·obtain rfl : j = l.length:=by omega
    have HF:=hide (any_end (mdFit p) l l.length rfl HE.out)
    go_wp2_with fail
    go_ret
    exact ⟨-1,rfl,by rw [HF.out]; rfl,hbw⟩
theorem hasMd_any (p : P) (A : Option Addr) (n c : Nat) (l : List Int) (w : World) (hl : RowI w A l) (hn : n = l.length) (hsz : l.length <= 10000) :
  Calls Tryz.prog 194 #[.slice A n c,(.func (.func 189) #[pv p] #[])] w (Ans w (.bool (l.any (mdFit p)))):=by
 subst hn
 have HL:=hide hl
 clear hl
 go_enter Tryz.func194,Tryz.ntmps194
 go_wp2_with fail
 refine (ixMd_any p A _ c l _ HL.out rfl hsz).mono ?_
 rintro e w1 ⟨v,rfl,hv,hb⟩
 have HV:=hide hv
 clear hv
 go_wp2_with fail
 go_ret
 exact ⟨ret_bool (by rw [<- HV.out]),hb⟩
theorem empMd_any (p : P) (A : Option Addr) (n c : Nat) (l : List Int) (w : World) (hl : RowI w A l) (hn : n = l.length) (hsz : l.length <= 10000) :
  Calls Tryz.prog 187 #[(.func (.func 189) #[pv p] #[]),.slice A n c] w (Ans w (.bool (emptyOr (mdFit p) l))):=by
 subst hn
 by_cases hnil : l = []
 ·subst hnil
  go_enter Tryz.func187,Tryz.ntmps187
  go_wp2_with fail
  go_ret
  exact ⟨rfl,start _⟩
 ·have e:=hide (emptyOr_any (mdFit p) l hnil)
  have h0 : l.length ≠ 0:=fun h => hnil (List.eq_nil_of_length_eq_zero h)
  have h1 : ((l.length : Int) == 0) = false:=by rw [beq_eq_false_iff_ne]; omega
  have h2 : (l.length == 0) = false:=by rw [beq_eq_false_iff_ne]; exact h0
  have HL:=hide hl
  clear hl hnil h0
  go_enter Tryz.func187,Tryz.ntmps187
  go_wp2_with fail
  refine (hasMd_any p A _ c l _ HL.out rfl hsz).mono ?_
  rintro e w1 ⟨rfl,hb⟩
  go_wp2_with fail
  go_ret
  exact ⟨ret_bool (by rw [e.out]),hb⟩
theorem ixWd_any (p : P) (A : Option Addr) (n c : Nat) (l : List Wd) (w : World) (hl : RowD w A l) (hn : n = l.length) (hsz : l.length <= 10000) :
  Calls Tryz.prog 185 #[.slice A n c,(.func (.func 191) #[pv p] #[])] w (Finds w (l.any (wdFit p))):=by
 subst hn
 by_cases hnil : l = []
 ·subst hnil
  go_enter Tryz.func185,Tryz.ntmps185
  go_wp2_with fail
  refine wp_loop_rounds 1 ?_
  rw [rounds_succ]
  go_wp2_with fail
  go_ret
  exact ⟨-1,rfl,rfl,start _⟩
 ·obtain ⟨b1,o1,rfl,hb1,hc1⟩:=hl hnil
  have HC1:=hide hc1
  clear hl hc1 hnil
  go_enter Tryz.func185,Tryz.ntmps185
  go_wp2_with fail
  go_loopw [8] (fun i wr => ∃ j : Nat,j <= l.length /\ i = .int .i64 j /\ (∀ i (hi : i < l.length),i < j -> (wdFit p) l[i] = false) /\ Below w.heap.size w wr) (fun i _ => l.length - (intOf i).toNat)
  case atStart => exact ⟨0,Nat.zero_le _,rfl,fun i hi h => absurd h (Nat.not_lt_zero _),start _⟩
  case round =>
   obtain ⟨j,hj,rfl,heq,hbw⟩:=hrel
   have HE:=hide heq
   clear heq
   by_cases hlt : j < l.length
   ·have p1 : wr.cell? ⟨b1,o1 + j * 2,none⟩ = some (.int .i64 l[j].1):=(hbw.cell (p:=⟨b1,_,none⟩) hb1).trans (HC1.out j hlt).1
    have p2 : wr.cell? ⟨b1,o1 + j * 2 + 1,none⟩ = some (.int .i64 l[j].2):=(hbw.cell (p:=⟨b1,_,none⟩) hb1).trans (HC1.out j hlt).2
    have hi0 : (0 : Int) <= (j : Int):=by omega
    have hi1 : (j : Int) < (l.length : Int):=by omega
    cases hq : (wdFit p) l[j]
    ·have HN:=hide (none_step (wdFit p) l j hlt HE.out hq)
     have HQ:=hide hq
     clear hq
     go_wp2_with fail
     refine (ans_is (wdFit_any p l[j].1 l[j].2 _) HQ.out).mono ?_
     rintro e w1 ⟨rfl,hb2⟩
     have hbw2:=hbw.trans (hb2.mono hbw.size)
     go_wp2_with fail
     go_roundw
     case rel => exact ⟨j + 1,by omega,by go_num,HN.out,hbw2⟩
     case measure => simp [intOf]; omega
    ·have HN:=hide (any_at (wdFit p) l j hlt hq)
     have HQ:=hide hq
     clear hq
     go_wp2_with fail
     refine (ans_is (wdFit_any p l[j].1 l[j].2 _) HQ.out).mono ?_
     rintro e w1 ⟨rfl,hb2⟩
     have hbw2:=hbw.trans (hb2.mono hbw.size)
     go_wp2_with fail
     go_ret
     exact ⟨_,rfl,by rw [HN.out]; exact decide_eq_true hi0,hbw2⟩
   ·obtain rfl : j = l.length:=by omega
    have HF:=hide (any_end (wdFit p) l l.length rfl HE.out)
    go_wp2_with fail
    go_ret
    exact ⟨-1,rfl,by rw [HF.out]; rfl,hbw⟩
theorem hasWd_any (p : P) (A : Option Addr) (n c : Nat) (l : List Wd) (w : World) (hl : RowD w A l) (hn : n = l.length) (hsz : l.length <= 10000) :
  Calls Tryz.prog 178 #[.slice A n c,(.func (.func 191) #[pv p] #[])] w (Ans w (.bool (l.any (wdFit p)))):=by
 subst hn
 have HL:=hide hl
 clear hl
 go_enter Tryz.func178,Tryz.ntmps178
 go_wp2_with fail
 refine (ixWd_any p A _ c l _ HL.out rfl hsz).mono ?_
 rintro e w1 ⟨v,rfl,hv,hb⟩
 have HV:=hide hv
 clear hv
 go_wp2_with fail
 go_ret
 exact ⟨ret_bool (by rw [<- HV.out]),hb⟩
theorem empWd_any (p : P) (A : Option Addr) (n c : Nat) (l : List Wd) (w : World) (hl : RowD w A l) (hn : n = l.length) (hsz : l.length <= 10000) :
  Calls Tryz.prog 190 #[(.func (.func 191) #[pv p] #[]),.slice A n c] w (Ans w (.bool (emptyOr (wdFit p) l))):=by
 subst hn
 by_cases hnil : l = []
 ·subst hnil
  go_enter Tryz.func190,Tryz.ntmps190
  go_wp2_with fail
  go_ret
  exact ⟨rfl,start _⟩
 ·have e:=hide (emptyOr_any (wdFit p) l hnil)
  have h0 : l.length ≠ 0:=fun h => hnil (List.eq_nil_of_length_eq_zero h)
  have h1 : ((l.length : Int) == 0) = false:=by rw [beq_eq_false_iff_ne]; omega
  have h2 : (l.length == 0) = false:=by rw [beq_eq_false_iff_ne]; exact h0
  have HL:=hide hl
  clear hl hnil h0
  go_enter Tryz.func190,Tryz.ntmps190
  go_wp2_with fail
  refine (hasWd_any p A _ c l _ HL.out rfl hsz).mono ?_
  rintro e w1 ⟨rfl,hb⟩
  go_wp2_with fail
  go_ret
  exact ⟨ret_bool (by rw [e.out]),hb⟩
theorem ixPo_any  (A : Option Addr) (n c : Nat) (l : List Wd) (w : World) (hl : RowD w A l) (hn : n = l.length) (hsz : l.length <= 10000) :
  Calls Tryz.prog 185 #[.slice A n c,(.func (.func 179) #[] #[])] w (Finds w (l.any posB)):=by
 subst hn
 by_cases hnil : l = []
 ·subst hnil
  go_enter Tryz.func185,Tryz.ntmps185
  go_wp2_with fail
  refine wp_loop_rounds 1 ?_
  rw [rounds_succ]
  go_wp2_with fail
  go_ret
  exact ⟨-1,rfl,rfl,start _⟩
 ·obtain ⟨b1,o1,rfl,hb1,hc1⟩:=hl hnil
  have HC1:=hide hc1
  clear hl hc1 hnil
  go_enter Tryz.func185,Tryz.ntmps185
  go_wp2_with fail
  go_loopw [8] (fun i wr => ∃ j : Nat,j <= l.length /\ i = .int .i64 j /\ (∀ i (hi : i < l.length),i < j -> posB l[i] = false) /\ Below w.heap.size w wr) (fun i _ => l.length - (intOf i).toNat)
  case atStart => exact ⟨0,Nat.zero_le _,rfl,fun i hi h => absurd h (Nat.not_lt_zero _),start _⟩
  case round =>
   obtain ⟨j,hj,rfl,heq,hbw⟩:=hrel
   have HE:=hide heq
   clear heq
   by_cases hlt : j < l.length
   ·have p1 : wr.cell? ⟨b1,o1 + j * 2,none⟩ = some (.int .i64 l[j].1):=(hbw.cell (p:=⟨b1,_,none⟩) hb1).trans (HC1.out j hlt).1
    have p2 : wr.cell? ⟨b1,o1 + j * 2 + 1,none⟩ = some (.int .i64 l[j].2):=(hbw.cell (p:=⟨b1,_,none⟩) hb1).trans (HC1.out j hlt).2
    have hi0 : (0 : Int) <= (j : Int):=by omega
    have hi1 : (j : Int) < (l.length : Int):=by omega
    cases hq : posB l[j]
    ·have HN:=hide (none_step posB l j hlt HE.out hq)
     have HQ:=hide hq
     clear hq
     go_wp2_with fail
     refine (ans_is (pos_any l[j].1 l[j].2 _) HQ.out).mono ?_
     rintro e w1 ⟨rfl,hb2⟩
     have hbw2:=hbw.trans (hb2.mono hbw.size)
     go_wp2_with fail
     go_roundw
     case rel => exact ⟨j + 1,by omega,by go_num,HN.out,hbw2⟩
     case measure => simp [intOf]; omega
    ·have HN:=hide (any_at posB l j hlt hq)
     have HQ:=hide hq
     clear hq
     go_wp2_with fail
     refine (ans_is (pos_any l[j].1 l[j].2 _) HQ.out).mono ?_
     rintro e w1 ⟨rfl,hb2⟩
     have hbw2:=hbw.trans (hb2.mono hbw.size)
     go_wp2_with fail
     go_ret
     exact ⟨_,rfl,by rw [HN.out]; exact decide_eq_true hi0,hbw2⟩
   ·obtain rfl : j = l.length:=by omega
    have HF:=hide (any_end posB l l.length rfl HE.out)
    go_wp2_with fail
    go_ret
    exact ⟨-1,rfl,by rw [HF.out]; rfl,hbw⟩
theorem hasPo_any  (A : Option Addr) (n c : Nat) (l : List Wd) (w : World) (hl : RowD w A l) (hn : n = l.length) (hsz : l.length <= 10000) :
  Calls Tryz.prog 178 #[.slice A n c,(.func (.func 179) #[] #[])] w (Ans w (.bool (l.any posB))):=by
 subst hn
 have HL:=hide hl
 clear hl
 go_enter Tryz.func178,Tryz.ntmps178
 go_wp2_with fail
 refine (ixPo_any A _ c l _ HL.out rfl hsz).mono ?_
 rintro e w1 ⟨v,rfl,hv,hb⟩
 have HV:=hide hv
 clear hv
 go_wp2_with fail
 go_ret
 exact ⟨ret_bool (by rw [<- HV.out]),hb⟩
end Go.Proofs.YtgihekokbgggcaaGreat
namespace Go.Proofs.YtgihekokbgggcaaGreat
open Go.RowKit Rul Go.Sort
theorem all_step {α : Type} (q : α -> Bool) (lt : α -> α -> Bool) (d : α) (l : List α) (j : Nat) (h : ∀ i,i < j -> stepB q lt d l i = true) (h2 : stepB q lt d l j = true) : ∀ i,i < j + 1 -> stepB q lt d l i = true:=fun i h3 => by
 rcases Nat.lt_or_ge i j with g | g
 ·exact h i g
 ·obtain rfl : i = j:=by omega
  exact h2
theorem cmp_is (a b v : Int) (w : World) (h : cmpI a b = v) :
  Calls Tryz.prog 38 #[.int .i64 a,.int .i64 b] w (Ans w (.int .i64 v)):=by subst h; exact ans_same (cmp_any a b w)
theorem cmpW_is (a b : Wd) (v : Int) (w : World) (h : cmpW a b = v) :
  Calls Tryz.prog 158 #[.agg #[.int .i64 a.1,.int .i64 a.2],.agg #[.int .i64 b.1,.int .i64 b.2]] w (Ans w (.int .i64 v)):=by subst h; exact cmpW_any _ _ _ _ w
theorem cmpI_yes (a b : Int) (h : inLt a b = true) : ∃ v,cmpI a b = v /\ ¬ 0 <= v /\ decide (0 <= v) = false:=⟨_,rfl,by have:=cmpI_lt a b; rw [h] at this; simpa using this,by rw [cmpI_lt,h]; rfl⟩
theorem cmpI_no (a b : Int) (h : inLt a b = false) : ∃ v,cmpI a b = v /\ 0 <= v /\ decide (0 <= v) = true:=⟨_,rfl,by have:=cmpI_lt a b; rw [h] at this; simpa using this,by rw [cmpI_lt,h]; rfl⟩
theorem cmpW_yes (a b : Wd) (h : wdLt a b = true) : ∃ v,cmpW a b = v /\ ¬ 0 <= v /\ decide (0 <= v) = false:=⟨_,rfl,by have:=cmpW_lt a b; rw [h] at this; simpa using this,by rw [cmpW_lt,h]; rfl⟩
theorem cmpW_no (a b : Wd) (h : wdLt a b = false) : ∃ v,cmpW a b = v /\ 0 <= v /\ decide (0 <= v) = true:=⟨_,rfl,by have:=cmpW_lt a b; rw [h] at this; simpa using this,by rw [cmpW_lt,h]; rfl⟩
theorem lstMd_any (A : Option Addr) (n c : Nat) (l : List Int) (w : World) (hl : RowI w A l) (hn : n = l.length) (hsz : l.length <= 10000) :
  Calls Tryz.prog 159 #[.func (.func 160) #[] #[],.func (.func 38) #[] #[],.slice A n c] w (Ans w (.bool (listB mdOk inLt 0 l))):=by
 subst hn
 by_cases hlong : 12 < l.length
 ·have e:=hide (listB_long mdOk inLt 0 l hlong)
  have h1 : 12 < (l.length : Int):=by omega
  clear hl
  go_enter Tryz.func159,Tryz.ntmps159
  go_wp2_with fail
  go_ret
  exact ⟨ret_bool (by rw [e.out]),start _⟩
 have hshort : ¬ 12 < (l.length : Int):=by omega
 by_cases hnil : l = []
 ·subst hnil
  go_enter Tryz.func159,Tryz.ntmps159
  go_wp2_with fail
  refine wp_loop_rounds 1 ?_
  rw [rounds_succ]
  go_wp2_with fail
  go_ret
  exact ⟨rfl,start _⟩
 ·obtain ⟨b1,o1,rfl,hb1,hc1⟩:=hl hnil
  have HC1:=hide hc1
  clear hl hc1 hnil
  go_enter Tryz.func159,Tryz.ntmps159
  go_wp2_with fail
  go_loopw [14] (fun i wr => ∃ j : Nat,j <= l.length /\ i = .int .i64 j /\ (∀ i,i < j -> stepB mdOk inLt 0 l i = true) /\ Below w.heap.size w wr) (fun i _ => l.length - (intOf i).toNat)
  case atStart => exact ⟨0,Nat.zero_le _,rfl,fun i h => absurd h (Nat.not_lt_zero _),start _⟩
  case round =>
   obtain ⟨j,hj,rfl,heq,hbw⟩:=hrel
   have HE:=hide heq
   clear heq
   by_cases hlt : j < l.length
   ·have hi0 : (0 : Int) <= (j : Int):=by omega
    have hi1 : (j : Int) < (l.length : Int):=by omega
    cases hq : mdOk l[j]
    ·have p1 : wr.cell? ⟨b1,o1 + j,none⟩ = some (.int .i64 l[j]):=(hbw.cell (p:=⟨b1,_,none⟩) hb1).trans (by first | exact HC1.out j hlt | simpa using HC1.out j hlt)
     have HN:=hide (listB_no mdOk inLt 0 l j hlt (stepB_p _ _ _ _ _ hlt hq))
     have HQ:=hide hq
     clear hq
     go_wp2_with fail
     refine (ans_is (ans_same (isMonthDay_any l[j] _)) HQ.out).mono ?_
     rintro e w1 ⟨rfl,hb2⟩
     replace hbw:=hbw.trans (hb2.mono hbw.size)
     clear hb2
     go_wp2_with fail
     go_ret
     exact ⟨ret_bool (by rw [HN.out]),hbw⟩
    ·have HQ:=hide hq
     rcases Nat.eq_zero_or_pos j with hz | hz
     ·subst hz
      have p1 : wr.cell? ⟨b1,o1,none⟩ = some (.int .i64 l[0]):=(hbw.cell (p:=⟨b1,_,none⟩) hb1).trans (by first | exact HC1.out 0 hlt | simpa using HC1.out 0 hlt)
      have HN:=hide (all_step mdOk inLt 0 l 0 HE.out (by rw [stepB_0 _ _ _ _ hlt]; exact hq))
      clear hq
      have g0 : ¬ (0 : Int) < ((0 : Nat) : Int):=by omega
      have g1 : decide ((0 : Int) < ((0 : Nat) : Int)) = false:=rfl
      go_wp2_with fail
      refine (ans_is (ans_same (isMonthDay_any l[0] _)) HQ.out).mono ?_
      rintro e w1 ⟨rfl,hb2⟩
      replace hbw:=hbw.trans (hb2.mono hbw.size)
      clear hb2
      go_wp2_with fail
      go_roundw
      case rel => exact ⟨1,by omega,by go_num,HN.out,hbw⟩
      case measure => simp [intOf]; omega
     ·obtain ⟨m,rfl⟩ : ∃ m,j = m + 1:=⟨j - 1,by omega⟩
      have hlm : m < l.length:=Nat.lt_of_succ_lt hlt
      have p1 : wr.cell? ⟨b1,o1 + (m + 1),none⟩ = some (.int .i64 l[(m + 1)]):=(hbw.cell (p:=⟨b1,_,none⟩) hb1).trans (by first | exact HC1.out (m + 1) hlt | simpa using HC1.out (m + 1) hlt)
      have p0 : wr.cell? ⟨b1,o1 + m,none⟩ = some (.int .i64 l[m]):=(hbw.cell (p:=⟨b1,_,none⟩) hb1).trans (by first | exact HC1.out m hlm | simpa using HC1.out m hlm)
      have g0 : (0 : Int) < ((m + 1 : Nat) : Int):=by omega
      have g1 : decide ((0 : Int) < ((m + 1 : Nat) : Int)) = true:=decide_eq_true g0
      have g2 : ((m + 1 : Nat) : Int) - 1 = (m : Int):=by omega
      have g3 : (0 : Int) <= (m : Int):=by omega
      have g4 : (m : Int) < (l.length : Int):=by omega
      have hs:=stepB_succ mdOk inLt 0 l m hlt
      rw [hq,Bool.true_and] at hs
      clear hq
      cases hc : inLt l[m] l[m + 1]
      ·obtain ⟨v,hv,hv1,hv2⟩:=cmpI_no l[m] l[m + 1] hc
       have HV:=hide hv
       have HN:=hide (listB_no mdOk inLt 0 l (m + 1) hlt (by rw [hs,hc]))
       clear hv hs hc
       go_wp2_with fail
       refine (ans_is (ans_same (isMonthDay_any l[m + 1] _)) HQ.out).mono ?_
       rintro e w1 ⟨rfl,hb2⟩
       replace hbw:=hbw.trans (hb2.mono hbw.size)
       have q0:=cell_keep hb2 p0
       have q1:=cell_keep hb2 p1
       clear hb2
       go_wp2_with fail
       refine (cmp_is l[m] l[m + 1] v _ HV.out).mono ?_
       rintro e w2 ⟨rfl,hb2⟩
       replace hbw:=hbw.trans (hb2.mono hbw.size)
       clear hb2
       go_wp2_with fail
       go_ret
       exact ⟨ret_bool (by rw [HN.out]),hbw⟩
      ·obtain ⟨v,hv,hv1,hv2⟩:=cmpI_yes l[m] l[m + 1] hc
       have HV:=hide hv
       have HN:=hide (all_step mdOk inLt 0 l (m + 1) HE.out (by rw [hs,hc]))
       clear hv hs hc
       go_wp2_with fail
       refine (ans_is (ans_same (isMonthDay_any l[m + 1] _)) HQ.out).mono ?_
       rintro e w1 ⟨rfl,hb2⟩
       replace hbw:=hbw.trans (hb2.mono hbw.size)
       have q0:=cell_keep hb2 p0
       have q1:=cell_keep hb2 p1
       clear hb2
       go_wp2_with fail
       refine (cmp_is l[m] l[m + 1] v _ HV.out).mono ?_
       rintro e w2 ⟨rfl,hb2⟩
       replace hbw:=hbw.trans (hb2.mono hbw.size)
       clear hb2
       go_wp2_with fail
       go_roundw
       case rel => exact ⟨m + 1 + 1,by omega,by go_num,HN.out,hbw⟩
       case measure => simp [intOf]; omega
   ·obtain rfl : j = l.length:=by omega
    have HF:=hide (listB_yes mdOk inLt 0 l (by omega) HE.out)
    go_wp2_with fail
    go_ret
    exact ⟨ret_bool (by rw [HF.out]),hbw⟩
theorem lstMo_any (A : Option Addr) (n c : Nat) (l : List Int) (w : World) (hl : RowI w A l) (hn : n = l.length) (hsz : l.length <= 10000) :
  Calls Tryz.prog 159 #[.func (.func 161) #[] #[],.func (.func 38) #[] #[],.slice A n c] w (Ans w (.bool (listB moOk inLt 0 l))):=by
 subst hn
 by_cases hlong : 12 < l.length
 ·have e:=hide (listB_long moOk inLt 0 l hlong)
  have h1 : 12 < (l.length : Int):=by omega
  clear hl
  go_enter Tryz.func159,Tryz.ntmps159
  go_wp2_with fail
  go_ret
  exact ⟨ret_bool (by rw [e.out]),start _⟩
 have hshort : ¬ 12 < (l.length : Int):=by omega
 by_cases hnil : l = []
 ·subst hnil
  go_enter Tryz.func159,Tryz.ntmps159
  go_wp2_with fail
  refine wp_loop_rounds 1 ?_
  rw [rounds_succ]
  go_wp2_with fail
  go_ret
  exact ⟨rfl,start _⟩
 ·obtain ⟨b1,o1,rfl,hb1,hc1⟩:=hl hnil
  have HC1:=hide hc1
  clear hl hc1 hnil
  go_enter Tryz.func159,Tryz.ntmps159
  go_wp2_with fail
  go_loopw [14] (fun i wr => ∃ j : Nat,j <= l.length /\ i = .int .i64 j /\ (∀ i,i < j -> stepB moOk inLt 0 l i = true) /\ Below w.heap.size w wr) (fun i _ => l.length - (intOf i).toNat)
  case atStart => exact ⟨0,Nat.zero_le _,rfl,fun i h => absurd h (Nat.not_lt_zero _),start _⟩
  case round =>
   obtain ⟨j,hj,rfl,heq,hbw⟩:=hrel
   have HE:=hide heq
   clear heq
   by_cases hlt : j < l.length
   ·have hi0 : (0 : Int) <= (j : Int):=by omega
    have hi1 : (j : Int) < (l.length : Int):=by omega
    cases hq : moOk l[j]
    ·have p1 : wr.cell? ⟨b1,o1 + j,none⟩ = some (.int .i64 l[j]):=(hbw.cell (p:=⟨b1,_,none⟩) hb1).trans (by first | exact HC1.out j hlt | simpa using HC1.out j hlt)
     have HN:=hide (listB_no moOk inLt 0 l j hlt (stepB_p _ _ _ _ _ hlt hq))
     have HQ:=hide hq
     clear hq
     go_wp2_with fail
     refine (ans_is (ans_same (isMonth_any l[j] _)) HQ.out).mono ?_
     rintro e w1 ⟨rfl,hb2⟩
     replace hbw:=hbw.trans (hb2.mono hbw.size)
     clear hb2
     go_wp2_with fail
     go_ret
     exact ⟨ret_bool (by rw [HN.out]),hbw⟩
    ·have HQ:=hide hq
     rcases Nat.eq_zero_or_pos j with hz | hz
     ·subst hz
      have p1 : wr.cell? ⟨b1,o1,none⟩ = some (.int .i64 l[0]):=(hbw.cell (p:=⟨b1,_,none⟩) hb1).trans (by first | exact HC1.out 0 hlt | simpa using HC1.out 0 hlt)
      have HN:=hide (all_step moOk inLt 0 l 0 HE.out (by rw [stepB_0 _ _ _ _ hlt]; exact hq))
      clear hq
      have g0 : ¬ (0 : Int) < ((0 : Nat) : Int):=by omega
      have g1 : decide ((0 : Int) < ((0 : Nat) : Int)) = false:=rfl
      go_wp2_with fail
      refine (ans_is (ans_same (isMonth_any l[0] _)) HQ.out).mono ?_
      rintro e w1 ⟨rfl,hb2⟩
      replace hbw:=hbw.trans (hb2.mono hbw.size)
      clear hb2
      go_wp2_with fail
      go_roundw
      case rel => exact ⟨1,by omega,by go_num,HN.out,hbw⟩
      case measure => simp [intOf]; omega
     ·obtain ⟨m,rfl⟩ : ∃ m,j = m + 1:=⟨j - 1,by omega⟩
      have hlm : m < l.length:=Nat.lt_of_succ_lt hlt
      have p1 : wr.cell? ⟨b1,o1 + (m + 1),none⟩ = some (.int .i64 l[(m + 1)]):=(hbw.cell (p:=⟨b1,_,none⟩) hb1).trans (by first | exact HC1.out (m + 1) hlt | simpa using HC1.out (m + 1) hlt)
      have p0 : wr.cell? ⟨b1,o1 + m,none⟩ = some (.int .i64 l[m]):=(hbw.cell (p:=⟨b1,_,none⟩) hb1).trans (by first | exact HC1.out m hlm | simpa using HC1.out m hlm)
      have g0 : (0 : Int) < ((m + 1 : Nat) : Int):=by omega
      have g1 : decide ((0 : Int) < ((m + 1 : Nat) : Int)) = true:=decide_eq_true g0
      have g2 : ((m + 1 : Nat) : Int) - 1 = (m : Int):=by omega
      have g3 : (0 : Int) <= (m : Int):=by omega
      have g4 : (m : Int) < (l.length : Int):=by omega
      have hs:=stepB_succ moOk inLt 0 l m hlt
      rw [hq,Bool.true_and] at hs
      clear hq
      cases hc : inLt l[m] l[m + 1]
      ·obtain ⟨v,hv,hv1,hv2⟩:=cmpI_no l[m] l[m + 1] hc
       have HV:=hide hv
       have HN:=hide (listB_no moOk inLt 0 l (m + 1) hlt (by rw [hs,hc]))
       clear hv hs hc
       go_wp2_with fail
       refine (ans_is (ans_same (isMonth_any l[m + 1] _)) HQ.out).mono ?_
       rintro e w1 ⟨rfl,hb2⟩
       replace hbw:=hbw.trans (hb2.mono hbw.size)
       have q0:=cell_keep hb2 p0
       have q1:=cell_keep hb2 p1
       clear hb2
       go_wp2_with fail
       refine (cmp_is l[m] l[m + 1] v _ HV.out).mono ?_
       rintro e w2 ⟨rfl,hb2⟩
       replace hbw:=hbw.trans (hb2.mono hbw.size)
       clear hb2
       go_wp2_with fail
       go_ret
       exact ⟨ret_bool (by rw [HN.out]),hbw⟩
      ·obtain ⟨v,hv,hv1,hv2⟩:=cmpI_yes l[m] l[m + 1] hc
       have HV:=hide hv
       have HN:=hide (all_step moOk inLt 0 l (m + 1) HE.out (by rw [hs,hc]))
       clear hv hs hc
       go_wp2_with fail
       refine (ans_is (ans_same (isMonth_any l[m + 1] _)) HQ.out).mono ?_
       rintro e w1 ⟨rfl,hb2⟩
       replace hbw:=hbw.trans (hb2.mono hbw.size)
       have q0:=cell_keep hb2 p0
       have q1:=cell_keep hb2 p1
       clear hb2
       go_wp2_with fail
       refine (cmp_is l[m] l[m + 1] v _ HV.out).mono ?_
       rintro e w2 ⟨rfl,hb2⟩
       replace hbw:=hbw.trans (hb2.mono hbw.size)
       clear hb2
       go_wp2_with fail
       go_roundw
       case rel => exact ⟨m + 1 + 1,by omega,by go_num,HN.out,hbw⟩
       case measure => simp [intOf]; omega
   ·obtain rfl : j = l.length:=by omega
    have HF:=hide (listB_yes moOk inLt 0 l (by omega) HE.out)
    go_wp2_with fail
    go_ret
    exact ⟨ret_bool (by rw [HF.out]),hbw⟩
theorem lstWd_any (A : Option Addr) (n c : Nat) (l : List Wd) (w : World) (hl : RowD w A l) (hn : n = l.length) (hsz : l.length <= 10000) :
  Calls Tryz.prog 156 #[.func (.func 157) #[] #[],.func (.func 158) #[] #[],.slice A n c] w (Ans w (.bool (listB wdOk wdLt (0,0) l))):=by
 subst hn
 by_cases hlong : 12 < l.length
 ·have e:=hide (listB_long wdOk wdLt (0,0) l hlong)
  have h1 : 12 < (l.length : Int):=by omega
  clear hl
  go_enter Tryz.func156,Tryz.ntmps156
  go_wp2_with fail
  go_ret
  exact ⟨ret_bool (by rw [e.out]),start _⟩
 have hshort : ¬ 12 < (l.length : Int):=by omega
 by_cases hnil : l = []
 ·subst hnil
  go_enter Tryz.func156,Tryz.ntmps156
  go_wp2_with fail
  refine wp_loop_rounds 1 ?_
  rw [rounds_succ]
  go_wp2_with fail
  go_ret
  exact ⟨rfl,start _⟩
 ·obtain ⟨b1,o1,rfl,hb1,hc1⟩:=hl hnil
  have HC1:=hide hc1
  clear hl hc1 hnil
  go_enter Tryz.func156,Tryz.ntmps156
  go_wp2_with fail
  go_loopw [14] (fun i wr => ∃ j : Nat,j <= l.length /\ i = .int .i64 j /\ (∀ i,i < j -> stepB wdOk wdLt (0,0) l i = true) /\ Below w.heap.size w wr) (fun i _ => l.length - (intOf i).toNat)
  case atStart => exact ⟨0,Nat.zero_le _,rfl,fun i h => absurd h (Nat.not_lt_zero _),start _⟩
  case round =>
   obtain ⟨j,hj,rfl,heq,hbw⟩:=hrel
   have HE:=hide heq
   clear heq
   by_cases hlt : j < l.length
   ·have hi0 : (0 : Int) <= (j : Int):=by omega
    have hi1 : (j : Int) < (l.length : Int):=by omega
    cases hq : wdOk l[j]
    ·have p1 : wr.cell? ⟨b1,o1 + j * 2,none⟩ = some (.int .i64 l[j].1):=(hbw.cell (p:=⟨b1,_,none⟩) hb1).trans (by first | exact (HC1.out j hlt).1 | simpa using (HC1.out j hlt).1)
     have p1' : wr.cell? ⟨b1,o1 + j * 2 + 1,none⟩ = some (.int .i64 l[j].2):=(hbw.cell (p:=⟨b1,_,none⟩) hb1).trans (by first | exact (HC1.out j hlt).2 | simpa using (HC1.out j hlt).2)
     have HN:=hide (listB_no wdOk wdLt (0,0) l j hlt (stepB_p _ _ _ _ _ hlt hq))
     have HQ:=hide hq
     clear hq
     go_wp2_with fail
     have hbx:=more hbw (.cells #[.int .i64 l[j].1,.int .i64 l[j].2] 115)
     have x0 : (wr.alloc (.cells #[.int .i64 l[j].1,.int .i64 l[j].2] 115)).cell? ⟨wr.heap.size,0,none⟩ = some (.int .i64 l[j].1):=by rw [World.cell?_alloc_at _ _ _ _ rfl]; rfl
     have x1 : (wr.alloc (.cells #[.int .i64 l[j].1,.int .i64 l[j].2] 115)).cell? ⟨wr.heap.size,1,none⟩ = some (.int .i64 l[j].2):=by rw [World.cell?_alloc_at _ _ _ _ rfl]; rfl
     generalize wr.alloc (.cells #[.int .i64 l[j].1,.int .i64 l[j].2] 115) = W at *
     generalize wr.heap.size = X at *
     have f0:=fun d os => cell_regrown x0 d os
     have f1:=fun d os => cell_regrown x1 d os
     clear x0 x1 p1 p1'
     refine wp_region_quiet_below (by kernel_rfl) (by kernel_rfl) ?_
     repeat (first | go_big_quiet_step ((first | (go_at_call 157; exact Calls.regrown_of (ans_is (isWeekday_any l[j].1 l[j].2 _) HQ.out)))) | quiet_step ((first | (go_at_call 157; exact Calls.regrown_of (ans_is (isWeekday_any l[j].1 l[j].2 _) HQ.out)))))
     refine wpQuiet_nil ?_
     intro _ hw'
     obtain ⟨⟨nq,osq⟩,hw''⟩:=hw'
     subst hw''
     replace hbw:=hbx.trans ((below_regrown W nq osq).mono hbx.size)
     clear hbx
     generalize grow (redrawn W nq) osq = W2 at *
     go_wp2_with fail
     go_ret
     exact ⟨ret_bool (by rw [HN.out]),hbw⟩
    ·have HQ:=hide hq
     rcases Nat.eq_zero_or_pos j with hz | hz
     ·subst hz
      have p1 : wr.cell? ⟨b1,o1,none⟩ = some (.int .i64 l[0].1):=(hbw.cell (p:=⟨b1,_,none⟩) hb1).trans (by first | exact (HC1.out 0 hlt).1 | simpa using (HC1.out 0 hlt).1)
      have p1' : wr.cell? ⟨b1,o1 + 1,none⟩ = some (.int .i64 l[0].2):=(hbw.cell (p:=⟨b1,_,none⟩) hb1).trans (by first | exact (HC1.out 0 hlt).2 | simpa using (HC1.out 0 hlt).2)
      have HN:=hide (all_step wdOk wdLt (0,0) l 0 HE.out (by rw [stepB_0 _ _ _ _ hlt]; exact hq))
      clear hq
      have g0 : ¬ (0 : Int) < ((0 : Nat) : Int):=by omega
      have g1 : decide ((0 : Int) < ((0 : Nat) : Int)) = false:=rfl
      go_wp2_with fail
      have hbx:=more hbw (.cells #[.int .i64 l[0].1,.int .i64 l[0].2] 115)
      have x0 : (wr.alloc (.cells #[.int .i64 l[0].1,.int .i64 l[0].2] 115)).cell? ⟨wr.heap.size,0,none⟩ = some (.int .i64 l[0].1):=by rw [World.cell?_alloc_at _ _ _ _ rfl]; rfl
      have x1 : (wr.alloc (.cells #[.int .i64 l[0].1,.int .i64 l[0].2] 115)).cell? ⟨wr.heap.size,1,none⟩ = some (.int .i64 l[0].2):=by rw [World.cell?_alloc_at _ _ _ _ rfl]; rfl
      generalize wr.alloc (.cells #[.int .i64 l[0].1,.int .i64 l[0].2] 115) = W at *
      generalize wr.heap.size = X at *
      have f0:=fun d os => cell_regrown x0 d os
      have f1:=fun d os => cell_regrown x1 d os
      clear x0 x1 p1 p1'
      refine wp_region_quiet_below (by kernel_rfl) (by kernel_rfl) ?_
      repeat (first | go_big_quiet_step ((first | (go_at_call 157; exact Calls.regrown_of (ans_is (isWeekday_any l[0].1 l[0].2 _) HQ.out)))) | quiet_step ((first | (go_at_call 157; exact Calls.regrown_of (ans_is (isWeekday_any l[0].1 l[0].2 _) HQ.out)))))
      refine wpQuiet_nil ?_
      intro _ hw'
      obtain ⟨⟨nq,osq⟩,hw''⟩:=hw'
      subst hw''
      replace hbw:=hbx.trans ((below_regrown W nq osq).mono hbx.size)
      clear hbx
      generalize grow (redrawn W nq) osq = W2 at *
      go_wp2_with fail
      go_roundw
      case rel => exact ⟨1,by omega,by go_num,HN.out,hbw⟩
      case measure => simp [intOf]; omega
     ·obtain ⟨m,rfl⟩ : ∃ m,j = m + 1:=⟨j - 1,by omega⟩
      have hlm : m < l.length:=Nat.lt_of_succ_lt hlt
      have p1 : wr.cell? ⟨b1,o1 + (m + 1) * 2,none⟩ = some (.int .i64 l[(m + 1)].1):=(hbw.cell (p:=⟨b1,_,none⟩) hb1).trans (by first | exact (HC1.out (m + 1) hlt).1 | simpa using (HC1.out (m + 1) hlt).1)
      have p1' : wr.cell? ⟨b1,o1 + (m + 1) * 2 + 1,none⟩ = some (.int .i64 l[(m + 1)].2):=(hbw.cell (p:=⟨b1,_,none⟩) hb1).trans (by first | exact (HC1.out (m + 1) hlt).2 | simpa using (HC1.out (m + 1) hlt).2)
      have p0 : wr.cell? ⟨b1,o1 + m * 2,none⟩ = some (.int .i64 l[m].1):=(hbw.cell (p:=⟨b1,_,none⟩) hb1).trans (by first | exact (HC1.out m hlm).1 | simpa using (HC1.out m hlm).1)
      have p0' : wr.cell? ⟨b1,o1 + m * 2 + 1,none⟩ = some (.int .i64 l[m].2):=(hbw.cell (p:=⟨b1,_,none⟩) hb1).trans (by first | exact (HC1.out m hlm).2 | simpa using (HC1.out m hlm).2)
      have g0 : (0 : Int) < ((m + 1 : Nat) : Int):=by omega
      have g1 : decide ((0 : Int) < ((m + 1 : Nat) : Int)) = true:=decide_eq_true g0
      have g2 : ((m + 1 : Nat) : Int) - 1 = (m : Int):=by omega
      have g3 : (0 : Int) <= (m : Int):=by omega
      have g4 : (m : Int) < (l.length : Int):=by omega
      have hs:=stepB_succ wdOk wdLt (0,0) l m hlt
      rw [hq,Bool.true_and] at hs
      clear hq
      cases hc : wdLt l[m] l[m + 1]
      ·obtain ⟨v,hv,hv1,hv2⟩:=cmpW_no l[m] l[m + 1] hc
       have HV:=hide hv
       have HN:=hide (listB_no wdOk wdLt (0,0) l (m + 1) hlt (by rw [hs,hc]))
       clear hv hs hc
       go_wp2_with fail
       have hbx:=more hbw (.cells #[.int .i64 l[m + 1].1,.int .i64 l[m + 1].2] 115)
       have x0 : (wr.alloc (.cells #[.int .i64 l[m + 1].1,.int .i64 l[m + 1].2] 115)).cell? ⟨wr.heap.size,0,none⟩ = some (.int .i64 l[m + 1].1):=by rw [World.cell?_alloc_at _ _ _ _ rfl]; rfl
       have x1 : (wr.alloc (.cells #[.int .i64 l[m + 1].1,.int .i64 l[m + 1].2] 115)).cell? ⟨wr.heap.size,1,none⟩ = some (.int .i64 l[m + 1].2):=by rw [World.cell?_alloc_at _ _ _ _ rfl]; rfl
       have q0:=cell_keep (more (start wr) (.cells #[.int .i64 l[m + 1].1,.int .i64 l[m + 1].2] 115)) p0
       have q0':=cell_keep (more (start wr) (.cells #[.int .i64 l[m + 1].1,.int .i64 l[m + 1].2] 115)) p0'
       generalize wr.alloc (.cells #[.int .i64 l[m + 1].1,.int .i64 l[m + 1].2] 115) = W at *
       generalize wr.heap.size = X at *
       have f0:=fun d os => cell_regrown x0 d os
       have f1:=fun d os => cell_regrown x1 d os
       have f2:=fun d os => cell_regrown q0 d os
       have f3:=fun d os => cell_regrown q0' d os
       clear x0 x1 p1 p1' q0 q0' p0 p0'
       refine wp_region_quiet_below (by kernel_rfl) (by kernel_rfl) ?_
       repeat (first | go_big_quiet_step ((first | (go_at_call 157; exact Calls.regrown_of (ans_is (isWeekday_any l[m + 1].1 l[m + 1].2 _) HQ.out)) | (go_at_call 158; exact Calls.regrown_of (cmpW_is l[m] l[m + 1] v _ HV.out)))) | quiet_step ((first | (go_at_call 157; exact Calls.regrown_of (ans_is (isWeekday_any l[m + 1].1 l[m + 1].2 _) HQ.out)) | (go_at_call 158; exact Calls.regrown_of (cmpW_is l[m] l[m + 1] v _ HV.out)))))
       refine wpQuiet_nil ?_
       intro _ hw'
       obtain ⟨⟨nq,osq⟩,hw''⟩:=hw'
       subst hw''
       replace hbw:=hbx.trans ((below_regrown W nq osq).mono hbx.size)
       clear hbx
       generalize grow (redrawn W nq) osq = W2 at *
       go_wp2_with fail
       go_ret
       exact ⟨ret_bool (by rw [HN.out]),hbw⟩
      ·obtain ⟨v,hv,hv1,hv2⟩:=cmpW_yes l[m] l[m + 1] hc
       have HV:=hide hv
       have HN:=hide (all_step wdOk wdLt (0,0) l (m + 1) HE.out (by rw [hs,hc]))
       clear hv hs hc
       go_wp2_with fail
       have hbx:=more hbw (.cells #[.int .i64 l[m + 1].1,.int .i64 l[m + 1].2] 115)
       have x0 : (wr.alloc (.cells #[.int .i64 l[m + 1].1,.int .i64 l[m + 1].2] 115)).cell? ⟨wr.heap.size,0,none⟩ = some (.int .i64 l[m + 1].1):=by rw [World.cell?_alloc_at _ _ _ _ rfl]; rfl
       have x1 : (wr.alloc (.cells #[.int .i64 l[m + 1].1,.int .i64 l[m + 1].2] 115)).cell? ⟨wr.heap.size,1,none⟩ = some (.int .i64 l[m + 1].2):=by rw [World.cell?_alloc_at _ _ _ _ rfl]; rfl
       have q0:=cell_keep (more (start wr) (.cells #[.int .i64 l[m + 1].1,.int .i64 l[m + 1].2] 115)) p0
       have q0':=cell_keep (more (start wr) (.cells #[.int .i64 l[m + 1].1,.int .i64 l[m + 1].2] 115)) p0'
       generalize wr.alloc (.cells #[.int .i64 l[m + 1].1,.int .i64 l[m + 1].2] 115) = W at *
       generalize wr.heap.size = X at *
       have f0:=fun d os => cell_regrown x0 d os
       have f1:=fun d os => cell_regrown x1 d os
       have f2:=fun d os => cell_regrown q0 d os
       have f3:=fun d os => cell_regrown q0' d os
       clear x0 x1 p1 p1' q0 q0' p0 p0'
       refine wp_region_quiet_below (by kernel_rfl) (by kernel_rfl) ?_
       repeat (first | go_big_quiet_step ((first | (go_at_call 157; exact Calls.regrown_of (ans_is (isWeekday_any l[m + 1].1 l[m + 1].2 _) HQ.out)) | (go_at_call 158; exact Calls.regrown_of (cmpW_is l[m] l[m + 1] v _ HV.out)))) | quiet_step ((first | (go_at_call 157; exact Calls.regrown_of (ans_is (isWeekday_any l[m + 1].1 l[m + 1].2 _) HQ.out)) | (go_at_call 158; exact Calls.regrown_of (cmpW_is l[m] l[m + 1] v _ HV.out)))))
       refine wpQuiet_nil ?_
       intro _ hw'
       obtain ⟨⟨nq,osq⟩,hw''⟩:=hw'
       subst hw''
       replace hbw:=hbx.trans ((below_regrown W nq osq).mono hbx.size)
       clear hbx
       generalize grow (redrawn W nq) osq = W2 at *
       go_wp2_with fail
       go_roundw
       case rel => exact ⟨m + 1 + 1,by omega,by go_num,HN.out,hbw⟩
       case measure => simp [intOf]; omega
   ·obtain rfl : j = l.length:=by omega
    have HF:=hide (listB_yes wdOk wdLt (0,0) l (by omega) HE.out)
    go_wp2_with fail
    go_ret
    exact ⟨ret_bool (by rw [HF.out]),hbw⟩
end Go.Proofs.YtgihekokbgggcaaGreat

/- EvU; CaU; CaA; CaB of the recipes, what is needed of them. -/
import Derived.Maps.OwnSet
import Derived.Test.YtfecnkhoojnkbaaGreatDoorZW12
import Derived.Test.YtfecnkhoojnkbaaGreatDoorZM3
import Derived.Test.YtfecnkhoojnkbaaGreatDoorZM4
import Derived.Test.YtfecnkhoojnkbaaGreatDoorZEvK
import Derived.Test.YtfecnkhoojnkbaaGreatDoorZEvN
namespace Go.Proofs.YtfecnkhoojnkbaaGreatDoor
open Go.RowKit Rul Rt Go.Sort
theorem minE_in {y m d h i n : Int} (e : minE y m d h i = (n,0)) : 0 <= n /\ n < 52596000:=by
 unfold minE at e
 cases hb : Cal.isB y m d
 ·rw [numE_11 y m d hb] at e
  simp at e
 ·by_cases hy : y < 2000 ∨ 2099 < y
  ·rw [numE_10 y m d hb hy] at e
   simp at e
  ·rw [numE_0 y m d hb (by omega) (by omega)] at e
   have hn:=Cal.num_bd y m d (by omega) (by omega) hb
   simp only [if_true] at e
   cases ht : timeB h i
   ·rw [ht] at e
    simp at e
   ·rw [ht] at e
    simp only [if_true,Prod.mk.injEq,and_true] at e
    have:=(timeB_iff h i).1 ht
    omega
theorem parse_in (l : Tx) (n : Int) (h : parseE l = (n,0)) : 0 <= n /\ n < 52596000:=by
 unfold parseE at h
 split at h
 ·exact minE_in h
 ·simp at h
theorem unU_good : Ev.Good unU where
 comma v n h:=form_free v (un_form v n h) 44 (by decide) (by decide)
 range v n h:=by
  have h' : unE v = some n:=h
  unfold unE at h'
  split at h'
  ·rename_i h0
   injection h' with h'
   exact parse_in v n (Prod.ext h' h0)
  ·cases h'
 free n:=by
  by_cases h : 0 <= n /\ n < 52596000
  ·exact form_free _ (text_form n h.1 h.2) 44 (by decide) (by decide)
  ·have : textOf n = []:=if_neg h
   show (44 : UInt8) ∉ textOf n
   rw [this]; simp
theorem unU_clean : Ca.Clean unU:=fun n => by
 by_cases h : 0 <= n /\ n < 52596000
 ·exact form_free _ (text_form n h.1 h.2) 13 (by decide) (by decide)
 ·have : textOf n = []:=if_neg h
  show (13 : UInt8) ∉ textOf n
  rw [this]; simp
abbrev EM:=Ev.E × Mem
def cellsV (e : Ev.E) (m : Mem) : List Value:=[.string (str e.uid),.string (str e.text),.int .i64 e.st,.int .i64 e.lg,.slice m.O e.rooms.length m.oc,.int .i64 e.r.fr,.int .i64 e.r.ev,.int .i64 e.r.ct,.int .i64 e.r.un,.slice m.D e.r.ds.length m.dc,.slice m.M e.r.ms.length m.mc,.slice m.Y e.r.ys.length m.yc,.slice m.X e.ex.length m.xc]
def cellsE (l : List EM) : List Value:=l.flatMap fun p => cellsV p.1 p.2
theorem cellsV_len (e : Ev.E) (m : Mem) : (cellsV e m).length = 13:=rfl
theorem cellsE_cons (a : EM) (l : List EM) : cellsE (a :: l) = cellsV a.1 a.2 ++ cellsE l:=rfl
theorem cellsE_append (l k : List EM) : cellsE (l ++ k) = cellsE l ++ cellsE k:=by simp [cellsE]
theorem cellsE_get : ∀ (l : List EM) (i : Nat) (h : i < l.length) (j : Nat),j < 13 -> (cellsE l)[i * 13 + j]? = (cellsV l[i].1 l[i].2)[j]?
 | [],i,h,_,_ => absurd h (Nat.not_lt_zero i)
 | a :: l,0,_,j,hj => by
  rw [cellsE_cons,Nat.zero_mul,Nat.zero_add,List.getElem?_append_left (by rw [cellsV_len]; exact hj)]
  rfl
 | a :: l,i + 1,h,j,hj => by
  have hi : i < l.length:=by simpa using h
  rw [cellsE_cons,List.getElem?_append_right (by rw [cellsV_len]; omega),cellsV_len,show (i + 1) * 13 + j - 13 = i * 13 + j by omega,cellsE_get l i hi j hj]
  rfl
theorem cellsV_one (e : Ev.E) (m : Mem) : ∀ u ∈ cellsV e m,u.oneCell' = true:=by
 intro u hu
 simp only [cellsV,List.mem_cons,List.not_mem_nil,or_false] at hu
 rcases hu with rfl | rfl | rfl | rfl | rfl | rfl | rfl | rfl | rfl | rfl | rfl | rfl | rfl <;> rfl
structure At13 (w : World) (b o : Nat) (e : Ev.E) (m : Mem) : Prop where
 c : ∀ j,j < 13 -> w.cell? ⟨b,o + j,none⟩ = (cellsV e m)[j]?
theorem At13.all {w : World} {b o : Nat} {e : Ev.E} {m : Mem} (h : At13 w b o e m) :
  w.cell? ⟨b,o,none⟩ = some (.string (str e.uid)) /\ w.cell? ⟨b,o + 1,none⟩ = some (.string (str e.text)) /\ w.cell? ⟨b,o + 2,none⟩ = some (.int .i64 e.st) /\ w.cell? ⟨b,o + 3,none⟩ = some (.int .i64 e.lg) ∧
  w.cell? ⟨b,o + 4,none⟩ = some (.slice m.O e.rooms.length m.oc) /\ w.cell? ⟨b,o + 5,none⟩ = some (.int .i64 e.r.fr) /\ w.cell? ⟨b,o + 6,none⟩ = some (.int .i64 e.r.ev) /\ w.cell? ⟨b,o + 7,none⟩ = some (.int .i64 e.r.ct) /\ w.cell? ⟨b,o + 8,none⟩ = some (.int .i64 e.r.un) ∧
  w.cell? ⟨b,o + 9,none⟩ = some (.slice m.D e.r.ds.length m.dc) /\ w.cell? ⟨b,o + 10,none⟩ = some (.slice m.M e.r.ms.length m.mc) /\ w.cell? ⟨b,o + 11,none⟩ = some (.slice m.Y e.r.ys.length m.yc) /\ w.cell? ⟨b,o + 12,none⟩ = some (.slice m.X e.ex.length m.xc) :=
 ⟨h.c 0 (by omega),h.c 1 (by omega),h.c 2 (by omega),h.c 3 (by omega),h.c 4 (by omega),h.c 5 (by omega),h.c 6 (by omega),h.c 7 (by omega),h.c 8 (by omega),h.c 9 (by omega),h.c 10 (by omega),h.c 11 (by omega),h.c 12 (by omega)⟩
theorem At13.grow {w w' : World} {row : Option Nat} {b o : Nat} {e : Ev.E} {m : Mem} (h : At13 w b o e m) (g : w.grownBy w' row) (hne : some b ≠ row) : At13 w' b o e m:=⟨fun j hj => by
 have h1:=h.c j hj
 have hlt : j < (cellsV e m).length:=hj
 rw [List.getElem?_eq_getElem hlt] at h1 ⊢
 exact g.cell h1 hne⟩
theorem At13.keep {w w' : World} {b o : Nat} {e : Ev.E} {m : Mem} (h : At13 w b o e m) (hb : Below w.heap.size w w') : At13 w' b o e m :=
 h.grow (row:=none) ⟨hb.os,hb.tape,hb.output,hb.size,fun i hi _ => hb.block i hi⟩ (by simp)
def RowE (w : World) (A : Option Addr) (l : List EM) : Prop :=
 l ≠ [] -> ∃ b off,A = some ⟨b,off,none⟩ /\ b < w.heap.size /\ ∀ i (h : i < l.length),At13 w b (off + i * 13) l[i].1 l[i].2
theorem RowE.nil (w : World) (A : Option Addr) : RowE w A []:=fun h => absurd rfl h
theorem RowE.keep {w w1 : World} {A : Option Addr} {l : List EM} (h : RowE w A l) (hb : Below w.heap.size w w1) : RowE w1 A l:=fun hl => by
 obtain ⟨b,off,e,hlt,hc⟩:=h hl
 exact ⟨b,off,e,Nat.lt_of_lt_of_le hlt hb.size,fun i hi => (hc i hi).grow (row:=none) ⟨hb.os,hb.tape,hb.output,hb.size,fun i hi _ => hb.block i hi⟩ (by simp)⟩
abbrev OwnE (w : World) (B : Nat) (v : Value) (l : List EM) : Prop:=w.ownsRow B 47 13 v l.length (cellsE l)
theorem OwnE.row {w : World} {B : Nat} {v : Value} {l : List EM} (h : OwnE w B v l) : ∃ A cap,v = .slice A l.length cap /\ RowE w A l:=by
 have h2:=h.2
 rcases h2 with ⟨rfl,hn⟩ | ⟨g,cap,cur,rfl,hb,hg,hnc,hcm,hcs,htake⟩
 ·refine ⟨none,0,by rw [hn],fun hl => absurd (List.eq_nil_of_length_eq_zero hn) hl⟩
 ·refine ⟨some ⟨g,0,none⟩,cap,rfl,fun _ => ⟨g,0,rfl,(h.lt g rfl).2,fun i hi => ⟨fun j hj => ?_⟩⟩⟩
  have hc:=World.ownsRow.cells h (g:=g) rfl
  have h1:=cellsE_get l i hi j hj
  have hlt : j < (cellsV l[i].1 l[i].2).length:=hj
  rw [List.getElem?_eq_getElem hlt] at h1 ⊢
  have g1:=hc _ _ h1
  rw [plus] at g1
  rw [Nat.zero_add]
  exact g1
theorem OwnE.keep {w w1 : World} {B : Nat} {v : Value} {l : List EM} (h : OwnE w B v l) (hb : Below w.heap.size w w1) : OwnE w1 B v l :=
 World.ownsRow.kept (row:=none) h ⟨hb.os,hb.tape,hb.output,hb.size,fun i hi _ => hb.block i hi⟩ (by cases v.ownBlock <;> simp)
theorem ownE_nil (w : World) (B : Nat) : OwnE w B (.slice none 0 0) []:=World.ownsRow_nil _ _ _ _
theorem OwnE.low {w : World} {B B2 : Nat} {v : Value} {l : List EM} (h : OwnE w B v l) (hb : B2 <= B) : OwnE w B2 v l:=by
 refine ⟨h.1,?_⟩
 rcases h.2 with g | ⟨g,cap,cur,e,hg,r⟩
 ·exact Or.inl g
 ·exact Or.inr ⟨g,cap,cur,e,Nat.le_trans hb hg,r⟩
theorem event_info : (Tryz.prog.info? 47).map (fun i => (i.zero,i.size,i.bytes)) = some (some noEvent,13,200):=by kernel_rfl
def EvsL (w : World) (l : List EM) : Prop:=∀ p ∈ l,EvL w p.1 p.2
theorem EvsL.keep {w w' : World} {l : List EM} (h : EvsL w l) (hb : Below w.heap.size w w') : EvsL w' l:=fun p hp => (h p hp).keep hb
theorem evsL_nil (w : World) : EvsL w []:=fun _ hp => absurd hp List.not_mem_nil
def OffV {α : Type} (v : Value) (l : List α) (A : Option Addr) : Prop:=l ≠ [] -> ∀ b o,A = some ⟨b,o,none⟩ -> some b ≠ v.ownBlock
structure OffE (v : Value) (p : EM) : Prop where
 o : OffV v p.1.rooms p.2.O
 d : OffV v p.1.r.ds p.2.D
 m : OffV v p.1.r.ms p.2.M
 y : OffV v p.1.r.ys p.2.Y
 x : OffV v p.1.ex p.2.X
def Offs (v : Value) (l : List EM) : Prop:=∀ p ∈ l,OffE v p
theorem offs_nil (v : Value) : Offs v []:=fun _ hp => absurd hp List.not_mem_nil
theorem OffV.goes {α : Type} {v v' : Value} {l : List α} {A : Option Addr} {w w' : World} (h : OffV v l A) (g : GoesS v w v' w') (hl : l ≠ [] -> ∀ b o,A = some ⟨b,o,none⟩ -> b < w.heap.size) : OffV v' l A:=fun hn b o e => by
 rcases g.own with k | ⟨z,k,hz⟩
 ·rw [k]; exact h hn b o e
 ·rw [k]; intro q; injection q with q; have:=hl hn b o e; omega
theorem evL_goes {v v' : Value} {w w' : World} {p : EM} (h : EvL w p.1 p.2) (f : OffE v p) (g : GoesS v w v' w') : EvL w' p.1 p.2 /\ OffE v' p :=
 ⟨h.past g.grown f.o f.d f.m f.y f.x,f.o.goes g h.o.in,f.d.goes g h.r.d.in,f.m.goes g h.r.m.in,f.y.goes g h.r.y.in,f.x.goes g h.x.in⟩
theorem evsL_goes {v v' : Value} {w w' : World} {l : List EM} (h : EvsL w l) (f : Offs v l) (g : GoesS v w v' w') : EvsL w' l /\ Offs v' l :=
 ⟨fun p hp => (evL_goes (h p hp) (f p hp) g).1,fun p hp => (evL_goes (h p hp) (f p hp) g).2⟩
theorem offV_new {α : Type} {B : Nat} {v : Value} {l : List α} {A : Option Addr} (h : l ≠ [] -> ∀ g o,A = some ⟨g,o,none⟩ -> B <= g) (hv : ∀ g,v.ownBlock = some g -> g < B) : OffV v l A:=fun hn b o e q => by
 have h1:=h hn b o e
 have h2:=hv b q.symm
 omega
theorem ownD_from {w : World} {B n c : Nat} {A : Option Addr} {l : List Wd} (h : OwnD w B (.slice A n c) l) : ∀ g o,A = some ⟨g,o,none⟩ -> B <= g:=fun g o e => by
 subst e; exact (h.lt g rfl).1
theorem NewE.off {w : World} {B : Nat} {v : Value} {e : Ev.E} {m : Mem} (h : NewE w B e m) (hv : ∀ g,v.ownBlock = some g -> g < B) : OffE v (e,m) :=
 ⟨offV_new (fun _ => own_from h.o) hv,offV_new (fun _ => ownD_from h.d) hv,offV_new (fun _ => own_from h.mm) hv,offV_new (fun _ => own_from h.y) hv,offV_new (fun _ => own_from h.x) hv⟩
def LowV {α : Type} (B : Nat) (l : List α) (A : Option Addr) : Prop:=l ≠ [] -> ∀ g o,A = some ⟨g,o,none⟩ -> B <= g
structure LowE (B : Nat) (p : EM) : Prop where
 o : LowV B p.1.rooms p.2.O
 d : LowV B p.1.r.ds p.2.D
 m : LowV B p.1.r.ms p.2.M
 y : LowV B p.1.r.ys p.2.Y
 x : LowV B p.1.ex p.2.X
theorem LowV.row {α : Type} {B c : Nat} {l : List α} {A : Option Addr} (h : LowV B l A) (hc : c < B) : l ≠ [] -> ∀ b o,A = some ⟨b,o,none⟩ -> some b ≠ some c:=fun hn b o e k => by have:=h hn b o e; injection k with k; omega
theorem LowV.down {α : Type} {B B2 : Nat} {l : List α} {A : Option Addr} (h : LowV B l A) (hb : B2 <= B) : LowV B2 l A:=fun hn g o e => Nat.le_trans hb (h hn g o e)
theorem LowE.down {B B2 : Nat} {p : EM} (h : LowE B p) (hb : B2 <= B) : LowE B2 p:=⟨h.o.down hb,h.d.down hb,h.m.down hb,h.y.down hb,h.x.down hb⟩
theorem LowE.past {w w' : World} {B c : Nat} {p : EM} (f : LowE B p) (h : EvL w p.1 p.2) (g : w.grownBy w' (some c)) (hc : c < B) : EvL w' p.1 p.2:=h.past g (f.o.row hc) (f.d.row hc) (f.m.row hc) (f.y.row hc) (f.x.row hc)
theorem LowE.off {B : Nat} {v : Value} {p : EM} (h : LowE B p) (hv : ∀ g,v.ownBlock = some g -> g < B) : OffE v p:=⟨offV_new h.o hv,offV_new h.d hv,offV_new h.m hv,offV_new h.y hv,offV_new h.x hv⟩
theorem NewE.lowE {w : World} {B : Nat} {e : Ev.E} {m : Mem} (h : NewE w B e m) : LowE B (e,m) :=
 ⟨fun _ => own_from h.o,fun _ => ownD_from h.d,fun _ => own_from h.mm,fun _ => own_from h.y,fun _ => own_from h.x⟩
structure HasE (w : World) (B : Nat) (v : Value) (l : List EM) : Prop where
 own : OwnE w B v l
 ls : EvsL w l
 off : Offs v l
 far : ∀ p ∈ l,LowE B p
theorem HasE.keep {w w1 : World} {B : Nat} {v : Value} {l : List EM} (h : HasE w B v l) (hb : Below w.heap.size w w1) : HasE w1 B v l:=⟨h.own.keep hb,h.ls.keep hb,h.off,h.far⟩
theorem HasE.down {w : World} {B B2 : Nat} {v : Value} {l : List EM} (h : HasE w B v l) (hb : B2 <= B) : HasE w B2 v l:=⟨h.own.low hb,h.ls,h.off,fun p hp => (h.far p hp).down hb⟩
theorem hasE_nil (w : World) (B : Nat) : HasE w B (.slice none 0 0) []:=⟨ownE_nil w B,evsL_nil w,offs_nil _,fun _ hp => absurd hp List.not_mem_nil⟩
theorem HasE.past {w w' : World} {B c : Nat} {v : Value} {l : List EM} (h : HasE w B v l) (g : w.grownBy w' (some c)) (hc : c < B) : HasE w' B v l :=
 ⟨World.ownsRow.kept h.own g (Or.inr fun e => by have:=(h.own.lt c e).1; omega),fun p hp => (h.far p hp).past (h.ls p hp) g hc,h.off,h.far⟩
theorem HasE.more {w w' : World} {B : Nat} {v v' : Value} {l : List EM} {p : EM} (h : HasE w B v l) (hp : EvL w p.1 p.2) (hf : OffE v p) (hl : LowE B p) (ho : OwnE w' B v' (l ++ [p])) (g : GoesS v w v' w') : HasE w' B v' (l ++ [p]):=by
 have h1:=evsL_goes h.ls h.off g
 have h2:=evL_goes hp hf g
 refine ⟨ho,fun q hq => ?_,fun q hq => ?_,fun q hq => ?_⟩
 ·rcases List.mem_append.1 hq with k | k
  ·exact h1.1 q k
  ·rw [List.mem_singleton] at k; subst k; exact h2.1
 ·rcases List.mem_append.1 hq with k | k
  ·exact h1.2 q k
  ·rw [List.mem_singleton] at k; subst k; exact h2.2
 ·rcases List.mem_append.1 hq with k | k
  ·exact h.far q k
  ·rw [List.mem_singleton] at k; subst k; exact hl
def keyU (t : Tx) : Lit:=.string t
abbrev setU (us : List Tx) : DataW Unit:=Maps.setOf (.agg []) (us.map keyU)
abbrev SetU (w : World) (b : Nat) (us : List Tx) : Prop:=w.ownsMap Tryz.prog 9 unitElem b us.length (setU us)
theorem key_law : Maps.Keyed Tryz.prog 9:=Maps.string_keyed Tryz.underlying9
theorem keyU_of (t : Tx) (h : t.length <= 1000000) : keyOf Tryz.prog 9 (.string (str t)) = some (keyU t):=by
 have:=WideMaps.keyOf_string_mk (k:=9) Tryz.underlying9 (s:=str t) (by rw [str_size]; unfold maxLen; omega)
 rw [str_list] at this
 exact this
theorem any_key (x : Tx) : ∀ l : List Tx,(l.map keyU).any (fun y => y.sameKey (keyU x)) = decide (x ∈ l)
 | [] => by simp
 | a :: r => by
  rw [List.map_cons,List.any_cons,any_key x r]
  have h1 : (keyU a).sameKey (keyU x) = decide (a = x):=tx_eq a x
  rw [h1]
  by_cases e : x = a
  ·subst e; simp
  ·have e2 : ¬ a = x:=fun h => e h.symm
   simp [e,e2]
theorem has_setU (us : List Tx) (t : Tx) : Maps.has (setU us) (keyU t) = decide (t ∈ us):=by
 rw [Maps.has_setOf _ _ _ (fun y hy => by obtain ⟨_,_,rfl⟩:=List.mem_map.1 hy; trivial)]
 exact any_key t us
theorem put_setU (us : List Tx) (t : Tx) : (setU us).put (keyU t) (.agg []) = setU (us ++ [t]):=by
 unfold setU
 rw [List.map_append,List.map_singleton,Maps.setOf_snoc]
theorem setU_new (w : World) : SetU (w.alloc (.map #[] 0)) w.heap.size []:=World.ownsMap_made _ _ _ _
theorem SetU.keep {w w1 : World} {b : Nat} {us : List Tx} (h : SetU w b us) (hb : Below w.heap.size w w1) : SetU w1 b us :=
 World.ownsMap.kept (row:=none) h ⟨hb.os,hb.tape,hb.output,hb.size,fun i hi _ => hb.block i hi⟩ (by simp)
theorem items_low (e : Ev.E) (hI : Ev.Is e) : ∀ p ∈ Ev.items unU e,p.1.length <= 100 /\ p.2.length <= 7500:=by
 have h1:=Ev.uidB_len hI.uid
 have h2:=Ev.textB_len hI.text
 have h3:=hI.lg
 rw [Ev.lgB,btw_iff] at h3
 have hlg : in64 e.lg:=by unfold in64; omega
 have h4:=(Ev.roomsB_iff _).1 hI.rooms
 have hro : ∀ x ∈ e.rooms,in64 x:=fun x hx => by
  have:=h4.2.1 x hx
  rw [Ev.roomB,btw_iff] at this
  unfold in64; omega
 have h5:=(Ev.exB_iff _).1 hI.ex
 have h41:=h4.1
 have h51:=h5.1
 have l1:=Lib.itoa_length_le e.lg hlg.1 hlg.2
 have l2:=text_len e.st
 have l3:=pr_len e.r
 have l4:=listT_len textOf 15 e.ex fun x _ => text_len x
 have l5:=listT_len Lib.itoa 30 e.rooms fun x hx => Nat.le_trans (Lib.itoa_length_le x (hro x hx).1 (hro x hx).2) (by omega)
 have l6:=Fo.escE_len e.text
 have l7 : (Ev.wPT ++ Lib.itoa e.lg ++ [77]).length <= 200:=by simp only [List.length_append,Ev.wPT,List.length_cons,List.length_nil]; omega
 have hit : Ev.items unU e = [(Ev.nBEGIN,Ev.wEV),(Ev.nUID,e.uid),(Ev.nSTART,textOf e.st),(Ev.nLONG,Ev.wPT ++ Lib.itoa e.lg ++ [77]),(Ev.nRULE,printE unU e.r),(Ev.nEX,listT textOf e.ex),(Ev.nROOMS,listT Lib.itoa e.rooms),(Ev.nTEXT,Fo.escE e.text),(Ev.nEND,Ev.wEV)]:=rfl
 intro p hp
 rw [hit] at hp
 simp only [List.mem_cons,List.not_mem_nil,or_false] at hp
 rcases hp with rfl | rfl | rfl | rfl | rfl | rfl | rfl | rfl | rfl
 ·exact ⟨by decide,by decide⟩
 ·exact ⟨by simp only; decide,by simp only; omega⟩
 ·exact ⟨by simp only; decide,by simp only; omega⟩
 ·exact ⟨by simp only; decide,by simp only; omega⟩
 ·exact ⟨by simp only; decide,by simp only; omega⟩
 ·exact ⟨by simp only; decide,by simp only; omega⟩
 ·exact ⟨by simp only; decide,by simp only; omega⟩
 ·exact ⟨by simp only; decide,by simp only; omega⟩
 ·exact ⟨by decide,by decide⟩
theorem lines_low (e : Ev.E) : (∀ p ∈ Ev.linesE unU e,p.length <= 7700) /\ (Ev.linesE unU e).length <= 9:=by
 cases hi : Ev.isE e with
 | false => unfold Ev.linesE; rw [if_neg (by rw [hi]; decide)]; exact ⟨fun p hp => absurd hp List.not_mem_nil,by decide⟩
 | true =>
  unfold Ev.linesE; rw [if_pos hi]
  refine ⟨fun p hp => ?_,?_⟩
  ·obtain ⟨q,hq,rfl⟩:=List.mem_map.1 hp
   have:=items_low e ((Ev.isE_iff e).1 hi) q ((List.mem_filter.1 hq).1)
   simp only [Ev.line2,List.length_append,List.length_cons]
   omega
  ·unfold Ev.wri
   rw [List.length_map]
   exact Nat.le_trans (List.length_filter_le _ _) (by simp [Ev.items])
theorem flat_len (N : Nat) : ∀ l : List Tx,(∀ p ∈ l,p.length <= N) -> (Fo.flat l).length <= l.length * (2 * N + 6)
 | [],_ => by simp [Fo.flat]
 | s :: l,h => by
  have h1:=flat_len N l fun p hp => h p (List.mem_cons_of_mem _ hp)
  have h2:=h s List.mem_cons_self
  have h3:=Fo.foldE_len s
  have h4 : Fo.crlf.length = 2:=rfl
  rw [Fo.flat,List.length_append,List.length_append,List.length_cons,Nat.add_mul,Nat.one_mul]
  omega
theorem flat_app : ∀ l k : List Tx,Fo.flat (l ++ k) = Fo.flat l ++ Fo.flat k
 | [],k => rfl
 | s :: l,k => by rw [List.cons_append,Fo.flat,flat_app l k,Fo.flat]; simp [List.append_assoc]
theorem flat_ev (e : Ev.E) : (Fo.flat (Ev.linesE unU e)).length <= 139000:=by
 have h:=lines_low e
 have h1:=flat_len 7700 _ h.1
 have h2 : (Ev.linesE unU e).length * (2 * 7700 + 6) <= 9 * (2 * 7700 + 6):=Nat.mul_le_mul_right _ h.2
 omega
def upC (l : List Ev.E) : Tx:=Fo.flat (Ca.firstC :: Ca.verC :: Ca.bodyC unU l)
theorem upC_nil : upC [] = Fo.flat [Ca.firstC,Ca.verC]:=rfl
theorem upC_snoc (l : List Ev.E) (e : Ev.E) : upC (l ++ [e]) = upC l ++ Fo.flat (Ev.linesE unU e):=by
 unfold upC Ca.bodyC
 rw [List.flatMap_append,List.flatMap_singleton,<- List.cons_append,<- List.cons_append,flat_app]
theorem textC_up (l : List Ev.E) : Ca.textC unU l = upC l ++ Fo.flat [Ca.endC]:=by
 unfold Ca.textC Ca.allC upC
 rw [<- List.cons_append,<- List.cons_append,flat_app]
theorem upC_le (l k : List Ev.E) : (upC l).length <= (Ca.textC unU (l ++ k)).length:=by
 have h : Ca.textC unU (l ++ k) = upC l ++ (Fo.flat (Ca.bodyC unU k) ++ Fo.flat [Ca.endC]):=by
  rw [textC_up]
  unfold upC Ca.bodyC
  rw [List.flatMap_append,<- List.cons_append,<- List.cons_append,flat_app,List.append_assoc]
 rw [h,List.length_append]
 omega
theorem rowS_drp {w : World} {b o : Nat} {l : List Tx} (h : RowS w (some ⟨b,o,none⟩) l) (k : Nat) : RowS w (some ⟨b,o + k,none⟩) (l.drop k):=fun hn => by
 obtain ⟨b1,off,e,hl,hc⟩:=h (fun e => hn (by rw [e]; simp))
 injection e with e
 injection e with e1 e2
 subst e1 e2
 refine ⟨b,o + k,rfl,hl,fun i hi => ?_⟩
 rw [List.length_drop] at hi
 have:=hc (k + i) (by omega)
 rw [Nat.add_assoc,this,List.getElem_drop]
theorem rowS_lits (w : World) (t : TypeId) (l : List Tx) : RowS (w.alloc (.cells (cellsS l).toArray t)) (some ⟨w.heap.size,0,none⟩) l:=fun _ => by
 refine ⟨w.heap.size,0,rfl,by simp,fun i hi => ?_⟩
 rw [World.cell?_alloc_at _ _ _ _ rfl,Nat.zero_add]
 simp [cellsS,hi]
def hourC : Ev.E:=⟨[97],[],90,60,[3],once,[]⟩
theorem hourC_is : Ev.isE hourC = true:=by decide +kernel
theorem hourC_ok : Ca.okC [hourC] = true:=(Ca.okC_iff _).2 ⟨fun e he => by rw [List.mem_singleton] at he; subst he; exact hourC_is,by simp [Ca.uidsC]⟩
theorem hourC_twice : Ca.okC [hourC,hourC] = false:=by
 cases h : Ca.okC [hourC,hourC] with
 | false => rfl
 | true => exact absurd ((Ca.okC_iff _).1 h).2 (by simp [Ca.uidsC])
theorem hourC_lines : (Ev.linesE unU hourC).length = 6 /\ (Ev.linesE unU hourC).all (fun p => decide (p.length <= 100)) = true:=by decide +kernel
theorem hourC_all : (Ca.allC unU [hourC]).length = 9:=by
 have h : Ca.bodyC unU [hourC] = Ev.linesE unU hourC:=by unfold Ca.bodyC; rw [List.flatMap_singleton]
 unfold Ca.allC
 rw [h]
 simp [hourC_lines.1]
theorem hourC_small : (Ca.textC unU [hourC]).length <= 8000:=by
 have h : Ca.bodyC unU [hourC] = Ev.linesE unU hourC:=by unfold Ca.bodyC; rw [List.flatMap_singleton]
 have h1:=flat_len 100 (Ca.allC unU [hourC]) fun p hp => by
  unfold Ca.allC at hp
  rw [h] at hp
  rcases List.mem_cons.1 hp with rfl | hp
  ·decide
  rcases List.mem_cons.1 hp with rfl | hp
  ·decide
  rcases List.mem_append.1 hp with hp | hp
  ·simpa using List.all_eq_true.1 hourC_lines.2 p hp
  ·rw [List.mem_singleton] at hp; subst hp; decide
 rw [hourC_all] at h1
 unfold Ca.textC
 omega
theorem hourC_print : Ca.printC unU [hourC] = (Ca.textC unU [hourC],0):=by
 unfold Ca.printC
 have:=hourC_small
 rw [if_pos hourC_ok,if_neg (by omega)]
theorem hourC_print2 : Ca.printC unU [hourC,hourC] = ([],14):=by
 unfold Ca.printC
 rw [hourC_twice,if_neg (by decide)]
theorem hourC_parse : Ca.parseC unU (Ca.textC unU [hourC]) = ([hourC],9,0):=by
 rw [Ca.parse_text unU unU_clean unU_good [hourC] hourC_ok hourC_small,hourC_all,if_neg (by decide)]
end Go.Proofs.YtfecnkhoojnkbaaGreatDoor

/- Package claim's Of, and the document's. Written by recipes/cl5.py. -/
import Derived.Test.YtgihekokbgggcaaGreatZM4
import Derived.Test.YtgihekokbgggcaaGreatZClN
import Derived.Test.YtgihekokbgggcaaGreatZC4
import Derived.Test.YtgihekokbgggcaaGreatZClM
import Derived.Test.YtgihekokbgggcaaGreatZW9
import Derived.Test.YtgihekokbgggcaaGreatZBW10
import Derived.Test.YtgihekokbgggcaaGreatZBW13
set_option maxHeartbeats 8000000
set_option maxRecDepth 1000000
namespace Go.Proofs.YtgihekokbgggcaaGreat.S2
open Go.RowKit Spn Cl
def GivesO (w : World) (x : List C × Int) (e : Ending) (w' : World) : Prop:=∃ v,e = .returned (.tuple #[v,.int .i64 x.2]) /\ OwnC w' w.heap.size v x.1 /\ Below w.heap.size w w'
theorem row_oneC (w : World) (r f t : Int) (y : TypeId) : RowC (w.alloc (.cells #[.int .i64 r,.int .i64 f,.int .i64 t] y)) (some ⟨w.heap.size,0,none⟩) [(r,(f,t))]:=fun _ =>
 ⟨w.heap.size,0,rfl,by simp,fun i hi => by
  obtain rfl : i = 0:=by simpa using hi
  refine ⟨?_,?_,?_⟩ <;> rw [World.cell?_alloc_at _ _ _ _ rfl] <;> rfl⟩
theorem step_oneC {ops : Array Oper} {o : Oper} {a : Act} {K : Act -> World -> Prop} {Q : Exit -> Act -> World -> Prop} {E : Prop} {w : World} {B : Nat} {v : Value} {l k : List C} (hgd : o.guard = none) (s x : Operand)
  (ho : o.op = .call { callee:=.builtin .append,args:=#[s,x],argTypes:=#[26,26] }) (hs : a.eval s = v) {A : Addr} {m c : Nat} (hx : a.eval x = .slice (some A) m c) (hm : m = k.length)
  (hrow : RowC w (some A) k) (hown : OwnC w B v l) (hB : B <= w.heap.size) (hn : l.length <= 1000000) (hk : k.length <= 1000000)
  (h : ∀ v' w',OwnC w' B v' (l ++ k) -> Below B w w' -> K (a.put o.dst v') w') :
  if Region.wanted o (yielded ops a.tmps) = true then Oper.wp Tryz.prog o a w K Q else E:=by
 have hw : Region.wanted o (yielded ops a.tmps) = true:=by simp [Region.wanted,hgd]
 rw [if_pos hw]
 obtain ⟨v',w',hr,h2,h3⟩:=run_rowC o.type (A:=some A) (c:=c) hm (by simp) hrow hown hB hn hk
 unfold Oper.wp execOp
 simp only [ho,resolve,invoke,builtin,Sem.run_bind,Sem.run_pure,Result.andThen_ok,List.map_toArray,List.map_cons,List.map_nil,hs,hx,hr]
 exact h v' w' h2 h3
theorem ret_two {v : Value} {a b : Int} (h : a = b) : Ending.returned (.tuple #[v,.int .i64 a]) = .returned (.tuple #[v,.int .i64 b]):=by rw [h]
theorem of_any (e : Ev.E) (m : Mem) (w : World) (h : EvL w e m) :
  Calls Tryz.prog 26 #[evV e m] w (GivesO w (ofC e)):=by
 have HBX:=hide (more (start w) (.cells #[.string (str e.uid),.string (str e.text),.int .i64 e.st,.int .i64 e.lg,.slice m.O e.rooms.length m.oc,.int .i64 e.r.fr,.int .i64 e.r.ev,.int .i64 e.r.ct,.int .i64 e.r.un,.slice m.D e.r.ds.length m.dc,.slice m.M e.r.ms.length m.mc,.slice m.Y e.r.ys.length m.yc,.slice m.X e.ex.length m.xc] 41))
 have HL:=hide (h.keep HBX.out)
 have HI:=hide (fun w h => eIs_any e m w h)
 have HSP:=hide (fun w (h : EvL w e m) => spans_code e.r.fr e.r.ev e.r.ct e.r.un m.D m.M m.Y e.r.ds.length m.dc e.r.ms.length m.mc e.r.ys.length m.yc e.r.ds e.r.ms e.r.ys e.st e.lg m.X e.ex.length m.xc e.ex w h.r h.x rfl h.xl)
 have HIR : Hid (Ev.isE e = true -> e.rooms.length <= 4):=hide (fun h => (is_rooms h).2.2)
 have HOF : Hid (ofC e = if Ev.isE e = false then ([],14) else if (Rul.spansE e.r e.st e.lg e.ex).2 ≠ 0 then ([],(Rul.spansE e.r e.st e.lg e.ex).2) else if lapB (Rul.spansE e.r e.st e.lg e.ex).1 = true then ([],13) else (neatC (eachL e.rooms (Rul.spansE e.r e.st e.lg e.ex).1),0)):=hide rfl
 have HNO:=hide (Rul.spansE_none e.r e.st e.lg e.ex)
 have HTM:=hide (Rul.spansE_times e.r e.st e.lg e.ex)
 have HRO:=hide (fun w (h : EvL w e m) => h.o)
 clear h
 rw [show (⟨e.r.fr,e.r.ev,e.r.ct,e.r.un,e.r.ds,e.r.ms,e.r.ys⟩ : Rul.T) = e.r from rfl] at HSP
 generalize Rul.spansE e.r e.st e.lg e.ex = SP at *
 generalize Ev.isE e = RB at *
 generalize ofC e = OF at *
 obtain ⟨ts,z⟩:=SP
 simp only at HOF HNO HTM
 generalize HEV : EvL = EVL at *
 obtain ⟨u,t,s,l,o,⟨fr,ev,ct,un,ds,ms,ys⟩,x⟩:=e
 obtain ⟨O,oc,D,dc,M,mc,Y,yc,X,xc⟩:=m
 subst HEV
 simp only [evV] at HBX HL HI HSP HOF HRO HIR ⊢
 generalize str u = U at *
 generalize str t = T at *
 have s0 : (w.alloc (.cells #[.string U,.string T,.int .i64 s,.int .i64 l,.slice O o.length oc,.int .i64 fr,.int .i64 ev,.int .i64 ct,.int .i64 un,.slice D ds.length dc,.slice M ms.length mc,.slice Y ys.length yc,.slice X x.length xc] 41)).cell? ⟨w.heap.size,0,none⟩ = some (.string U):=cell_new w #[.string U,.string T,.int .i64 s,.int .i64 l,.slice O o.length oc,.int .i64 fr,.int .i64 ev,.int .i64 ct,.int .i64 un,.slice D ds.length dc,.slice M ms.length mc,.slice Y ys.length yc,.slice X x.length xc] 41 0 _ rfl
 have s1 : (w.alloc (.cells #[.string U,.string T,.int .i64 s,.int .i64 l,.slice O o.length oc,.int .i64 fr,.int .i64 ev,.int .i64 ct,.int .i64 un,.slice D ds.length dc,.slice M ms.length mc,.slice Y ys.length yc,.slice X x.length xc] 41)).cell? ⟨w.heap.size,1,none⟩ = some (.string T):=cell_new w #[.string U,.string T,.int .i64 s,.int .i64 l,.slice O o.length oc,.int .i64 fr,.int .i64 ev,.int .i64 ct,.int .i64 un,.slice D ds.length dc,.slice M ms.length mc,.slice Y ys.length yc,.slice X x.length xc] 41 1 _ rfl
 have s2 : (w.alloc (.cells #[.string U,.string T,.int .i64 s,.int .i64 l,.slice O o.length oc,.int .i64 fr,.int .i64 ev,.int .i64 ct,.int .i64 un,.slice D ds.length dc,.slice M ms.length mc,.slice Y ys.length yc,.slice X x.length xc] 41)).cell? ⟨w.heap.size,2,none⟩ = some (.int .i64 s):=cell_new w #[.string U,.string T,.int .i64 s,.int .i64 l,.slice O o.length oc,.int .i64 fr,.int .i64 ev,.int .i64 ct,.int .i64 un,.slice D ds.length dc,.slice M ms.length mc,.slice Y ys.length yc,.slice X x.length xc] 41 2 _ rfl
 have s3 : (w.alloc (.cells #[.string U,.string T,.int .i64 s,.int .i64 l,.slice O o.length oc,.int .i64 fr,.int .i64 ev,.int .i64 ct,.int .i64 un,.slice D ds.length dc,.slice M ms.length mc,.slice Y ys.length yc,.slice X x.length xc] 41)).cell? ⟨w.heap.size,3,none⟩ = some (.int .i64 l):=cell_new w #[.string U,.string T,.int .i64 s,.int .i64 l,.slice O o.length oc,.int .i64 fr,.int .i64 ev,.int .i64 ct,.int .i64 un,.slice D ds.length dc,.slice M ms.length mc,.slice Y ys.length yc,.slice X x.length xc] 41 3 _ rfl
 have s4 : (w.alloc (.cells #[.string U,.string T,.int .i64 s,.int .i64 l,.slice O o.length oc,.int .i64 fr,.int .i64 ev,.int .i64 ct,.int .i64 un,.slice D ds.length dc,.slice M ms.length mc,.slice Y ys.length yc,.slice X x.length xc] 41)).cell? ⟨w.heap.size,4,none⟩ = some (.slice O o.length oc):=cell_new w #[.string U,.string T,.int .i64 s,.int .i64 l,.slice O o.length oc,.int .i64 fr,.int .i64 ev,.int .i64 ct,.int .i64 un,.slice D ds.length dc,.slice M ms.length mc,.slice Y ys.length yc,.slice X x.length xc] 41 4 _ rfl
 have s5 : (w.alloc (.cells #[.string U,.string T,.int .i64 s,.int .i64 l,.slice O o.length oc,.int .i64 fr,.int .i64 ev,.int .i64 ct,.int .i64 un,.slice D ds.length dc,.slice M ms.length mc,.slice Y ys.length yc,.slice X x.length xc] 41)).cell? ⟨w.heap.size,5,none⟩ = some (.int .i64 fr):=cell_new w #[.string U,.string T,.int .i64 s,.int .i64 l,.slice O o.length oc,.int .i64 fr,.int .i64 ev,.int .i64 ct,.int .i64 un,.slice D ds.length dc,.slice M ms.length mc,.slice Y ys.length yc,.slice X x.length xc] 41 5 _ rfl
 have s6 : (w.alloc (.cells #[.string U,.string T,.int .i64 s,.int .i64 l,.slice O o.length oc,.int .i64 fr,.int .i64 ev,.int .i64 ct,.int .i64 un,.slice D ds.length dc,.slice M ms.length mc,.slice Y ys.length yc,.slice X x.length xc] 41)).cell? ⟨w.heap.size,6,none⟩ = some (.int .i64 ev):=cell_new w #[.string U,.string T,.int .i64 s,.int .i64 l,.slice O o.length oc,.int .i64 fr,.int .i64 ev,.int .i64 ct,.int .i64 un,.slice D ds.length dc,.slice M ms.length mc,.slice Y ys.length yc,.slice X x.length xc] 41 6 _ rfl
 have s7 : (w.alloc (.cells #[.string U,.string T,.int .i64 s,.int .i64 l,.slice O o.length oc,.int .i64 fr,.int .i64 ev,.int .i64 ct,.int .i64 un,.slice D ds.length dc,.slice M ms.length mc,.slice Y ys.length yc,.slice X x.length xc] 41)).cell? ⟨w.heap.size,7,none⟩ = some (.int .i64 ct):=cell_new w #[.string U,.string T,.int .i64 s,.int .i64 l,.slice O o.length oc,.int .i64 fr,.int .i64 ev,.int .i64 ct,.int .i64 un,.slice D ds.length dc,.slice M ms.length mc,.slice Y ys.length yc,.slice X x.length xc] 41 7 _ rfl
 have s8 : (w.alloc (.cells #[.string U,.string T,.int .i64 s,.int .i64 l,.slice O o.length oc,.int .i64 fr,.int .i64 ev,.int .i64 ct,.int .i64 un,.slice D ds.length dc,.slice M ms.length mc,.slice Y ys.length yc,.slice X x.length xc] 41)).cell? ⟨w.heap.size,8,none⟩ = some (.int .i64 un):=cell_new w #[.string U,.string T,.int .i64 s,.int .i64 l,.slice O o.length oc,.int .i64 fr,.int .i64 ev,.int .i64 ct,.int .i64 un,.slice D ds.length dc,.slice M ms.length mc,.slice Y ys.length yc,.slice X x.length xc] 41 8 _ rfl
 have s9 : (w.alloc (.cells #[.string U,.string T,.int .i64 s,.int .i64 l,.slice O o.length oc,.int .i64 fr,.int .i64 ev,.int .i64 ct,.int .i64 un,.slice D ds.length dc,.slice M ms.length mc,.slice Y ys.length yc,.slice X x.length xc] 41)).cell? ⟨w.heap.size,9,none⟩ = some (.slice D ds.length dc):=cell_new w #[.string U,.string T,.int .i64 s,.int .i64 l,.slice O o.length oc,.int .i64 fr,.int .i64 ev,.int .i64 ct,.int .i64 un,.slice D ds.length dc,.slice M ms.length mc,.slice Y ys.length yc,.slice X x.length xc] 41 9 _ rfl
 have s10 : (w.alloc (.cells #[.string U,.string T,.int .i64 s,.int .i64 l,.slice O o.length oc,.int .i64 fr,.int .i64 ev,.int .i64 ct,.int .i64 un,.slice D ds.length dc,.slice M ms.length mc,.slice Y ys.length yc,.slice X x.length xc] 41)).cell? ⟨w.heap.size,10,none⟩ = some (.slice M ms.length mc):=cell_new w #[.string U,.string T,.int .i64 s,.int .i64 l,.slice O o.length oc,.int .i64 fr,.int .i64 ev,.int .i64 ct,.int .i64 un,.slice D ds.length dc,.slice M ms.length mc,.slice Y ys.length yc,.slice X x.length xc] 41 10 _ rfl
 have s11 : (w.alloc (.cells #[.string U,.string T,.int .i64 s,.int .i64 l,.slice O o.length oc,.int .i64 fr,.int .i64 ev,.int .i64 ct,.int .i64 un,.slice D ds.length dc,.slice M ms.length mc,.slice Y ys.length yc,.slice X x.length xc] 41)).cell? ⟨w.heap.size,11,none⟩ = some (.slice Y ys.length yc):=cell_new w #[.string U,.string T,.int .i64 s,.int .i64 l,.slice O o.length oc,.int .i64 fr,.int .i64 ev,.int .i64 ct,.int .i64 un,.slice D ds.length dc,.slice M ms.length mc,.slice Y ys.length yc,.slice X x.length xc] 41 11 _ rfl
 have s12 : (w.alloc (.cells #[.string U,.string T,.int .i64 s,.int .i64 l,.slice O o.length oc,.int .i64 fr,.int .i64 ev,.int .i64 ct,.int .i64 un,.slice D ds.length dc,.slice M ms.length mc,.slice Y ys.length yc,.slice X x.length xc] 41)).cell? ⟨w.heap.size,12,none⟩ = some (.slice X x.length xc):=cell_new w #[.string U,.string T,.int .i64 s,.int .i64 l,.slice O o.length oc,.int .i64 fr,.int .i64 ev,.int .i64 ct,.int .i64 un,.slice D ds.length dc,.slice M ms.length mc,.slice Y ys.length yc,.slice X x.length xc] 41 12 _ rfl
 go_enter Tryz.func26,Tryz.ntmps26
 go_wp2_with fail
 generalize w.alloc (.cells #[.string U,.string T,.int .i64 s,.int .i64 l,.slice O o.length oc,.int .i64 fr,.int .i64 ev,.int .i64 ct,.int .i64 un,.slice D ds.length dc,.slice M ms.length mc,.slice Y ys.length yc,.slice X x.length xc] 41) = W at *
 refine (HI.out _ HL.out).mono ?_
 rintro e w1 ⟨rfl,hb⟩
 replace HBX:=hide (andthen HBX.out hb)
 replace HL:=hide (HL.out.keep hb)
 replace s2:=cell_keep hb s2
 replace s3:=cell_keep hb s3
 replace s4:=cell_keep hb s4
 replace s5:=cell_keep hb s5
 replace s6:=cell_keep hb s6
 replace s7:=cell_keep hb s7
 replace s8:=cell_keep hb s8
 replace s9:=cell_keep hb s9
 replace s10:=cell_keep hb s10
 replace s11:=cell_keep hb s11
 replace s12:=cell_keep hb s12
 clear s0 s1 hb
 cases RB
 ·have HZ : Hid (OF = ([],14)):=hide (by rw [HOF.out,if_pos rfl])
  go_wp2_with fail
  go_ret2
  exact ⟨_,ret_two (by rw [HZ.out]),by rw [HZ.out]; exact ownC_nil _ _,HBX.out⟩
 ·have hol:=HIR.out rfl
  go_wp2_with fail
  refine (HSP.out _ HL.out).mono ?_
  rintro e w2 ⟨v2,rfl,hown,hb⟩
  replace HBX:=hide (andthen HBX.out hb)
  replace HL:=hide (HL.out.keep hb)
  replace s4:=cell_keep hb s4
  have HO:=hide hown
  clear hb hown s2 s3 s5 s6 s7 s8 s9 s10 s11 s12
  by_cases hz : z = 0
  ·subst hz
   have htm:=HTM.out rfl
   have htl:=htm.len
   obtain ⟨A2,c2,rfl,hr⟩:=Own.row HO.out
   have HR:=hide hr
   clear hr HTM HNO
   go_wp2_with fail
   refine (overlap_any A2 _ c2 ts w2 HR.out rfl (by omega)).mono ?_
   rintro e w3 ⟨rfl,hb⟩
   replace HBX:=hide (andthen HBX.out hb)
   replace HL:=hide (HL.out.keep hb)
   replace HR:=hide (HR.out.keep hb)
   replace s4:=cell_keep hb s4
   clear hb
   cases hlp : lapB ts
   ·have HZ : Hid (OF = (neatC (eachL o ts),0)):=hide (by rw [HOF.out,if_neg (by simp),if_neg (by simp),if_neg (by rw [hlp]; simp)])
    have HEL : Hid ((eachL o ts).length <= 164):=hide (by rw [eachL_len]; have : o.length * ts.length <= 4 * 41:=Nat.mul_le_mul hol htl; omega)
    have HB1:=hide (outC_le (neatF (eachL o ts)) (eachL o ts).length fun r _ => neatF_len (eachL o ts) r)
    clear hlp htm
    go_wp2_with fail
    refine (each_any O A2 _ oc _ c2 o ts w3 (HRO.out _ HL.out) HR.out rfl rfl (by omega) (by omega)).mono ?_
    rintro e w4 ⟨v4,rfl,ho4,hb⟩
    obtain ⟨A4,c4,rfl,hr4⟩:=ho4.row
    have HR4:=hide hr4
    replace HBX:=hide (andthen HBX.out hb)
    clear hb ho4 hr4 HL HR s4
    go_wp2_with fail
    refine (neat_any A4 _ c4 (eachL o ts) w4 HR4.out rfl (by have:=HEL.out; omega)).mono ?_
    rintro e w5 ⟨vs,rfl,ho5,hb⟩
    have HF:=hide (famR_of ho5)
    replace HBX:=hide (andthen HBX.out hb)
    clear hb ho5
    go_wp2_with fail
    refine (claims_any vs (neatF (eachL o ts)) w5 HF.out (by have:=HB1.out; have:=HEL.out; omega)).mono ?_
    rintro e w6 ⟨v6,rfl,ho6,hb⟩
    have HO6:=hide (ho6.low HBX.out.size)
    replace HBX:=hide (andthen HBX.out hb)
    clear hb ho6
    go_wp2_with fail
    go_ret2
    exact ⟨_,ret_two (by rw [HZ.out]),by rw [HZ.out]; exact HO6.out,HBX.out⟩
   ·have HZ : Hid (OF = ([],13)):=hide (by rw [HOF.out,if_neg (by simp),if_neg (by simp),if_pos hlp])
    clear hlp
    go_wp2_with fail
    go_ret2
    exact ⟨_,ret_two (by rw [HZ.out]),by rw [HZ.out]; exact ownC_nil _ _,HBX.out⟩
  ·have hz1 : (z == 0) = false:=by rw [beq_eq_false_iff_ne]; exact hz
   have hz2 : (z != 0) = true:=by rw [bne_iff_ne]; exact hz
   have HZ : Hid (OF = ([],z)):=hide (by rw [HOF.out,if_neg (by simp),if_pos hz])
   go_wp2_with fail
   go_ret2
   exact ⟨_,ret_two (by rw [HZ.out]),by rw [HZ.out]; exact ownC_nil _ _,HBX.out⟩
theorem R.of_any (e : Ev.E) (m : Mem) (w : World) (h : EvL w e m) :
    Calls Tryz.prog 27 #[evV e m] w (GivesO w (ofC e)):=by
  have HBX:=hide (more (start w) (.cells #[.string (str e.uid),.string (str e.text),.int .i64 e.st,.int .i64 e.lg,.slice m.O e.rooms.length m.oc,.int .i64 e.r.fr,.int .i64 e.r.ev,.int .i64 e.r.ct,.int .i64 e.r.un,.slice m.D e.r.ds.length m.dc,.slice m.M e.r.ms.length m.mc,.slice m.Y e.r.ys.length m.yc,.slice m.X e.ex.length m.xc] 41))
  have HL:=hide (h.keep HBX.out)
  have HI:=hide (fun w h => rIs_any e m w h)
  have HSP:=hide (fun w (h : EvL w e m) => Go.Proofs.YtgihekokbgggcaaGreat.R.spans_any e.r.fr e.r.ev e.r.ct e.r.un m.D m.M m.Y e.r.ds.length m.dc e.r.ms.length m.mc e.r.ys.length m.yc e.r.ds e.r.ms e.r.ys e.st e.lg m.X e.ex.length m.xc e.ex w h.r h.x rfl h.xl)
  have HIR : Hid (Ev.isE e = true -> e.rooms.length <= 4):=hide (fun h => (is_rooms h).2.2)
  have HOF : Hid (ofC e = if Ev.isE e = false then ([],14) else if (Rul.spansE e.r e.st e.lg e.ex).2 ≠ 0 then ([],(Rul.spansE e.r e.st e.lg e.ex).2) else if lapB (Rul.spansE e.r e.st e.lg e.ex).1 = true then ([],13) else (neatC (eachL e.rooms (Rul.spansE e.r e.st e.lg e.ex).1),0)):=hide rfl
  have HNO:=hide (Rul.spansE_none e.r e.st e.lg e.ex)
  have HTM:=hide (Rul.spansE_times e.r e.st e.lg e.ex)
  have HRO:=hide (fun w (h : EvL w e m) => h.o)
  clear h
  rw [show (⟨e.r.fr,e.r.ev,e.r.ct,e.r.un,e.r.ds,e.r.ms,e.r.ys⟩ : Rul.T) = e.r from rfl] at HSP
  generalize Rul.spansE e.r e.st e.lg e.ex = SP at *
  generalize Ev.isE e = RB at *
  generalize ofC e = OF at *
  obtain ⟨ts,z⟩:=SP
  simp only at HOF HNO HTM
  generalize HEV : EvL = EVL at *
  obtain ⟨u,t,s,l,o,⟨fr,ev,ct,un,ds,ms,ys⟩,x⟩:=e
  obtain ⟨O,oc,D,dc,M,mc,Y,yc,X,xc⟩:=m
  subst HEV
  simp only [evV] at HBX HL HI HSP HOF HRO HIR ⊢
  generalize str u = U at *
  generalize str t = T at *
  have s0 : (w.alloc (.cells #[.string U,.string T,.int .i64 s,.int .i64 l,.slice O o.length oc,.int .i64 fr,.int .i64 ev,.int .i64 ct,.int .i64 un,.slice D ds.length dc,.slice M ms.length mc,.slice Y ys.length yc,.slice X x.length xc] 41)).cell? ⟨w.heap.size,0,none⟩ = some (.string U):=cell_new w #[.string U,.string T,.int .i64 s,.int .i64 l,.slice O o.length oc,.int .i64 fr,.int .i64 ev,.int .i64 ct,.int .i64 un,.slice D ds.length dc,.slice M ms.length mc,.slice Y ys.length yc,.slice X x.length xc] 41 0 _ rfl
  have s1 : (w.alloc (.cells #[.string U,.string T,.int .i64 s,.int .i64 l,.slice O o.length oc,.int .i64 fr,.int .i64 ev,.int .i64 ct,.int .i64 un,.slice D ds.length dc,.slice M ms.length mc,.slice Y ys.length yc,.slice X x.length xc] 41)).cell? ⟨w.heap.size,1,none⟩ = some (.string T):=cell_new w #[.string U,.string T,.int .i64 s,.int .i64 l,.slice O o.length oc,.int .i64 fr,.int .i64 ev,.int .i64 ct,.int .i64 un,.slice D ds.length dc,.slice M ms.length mc,.slice Y ys.length yc,.slice X x.length xc] 41 1 _ rfl
  have s2 : (w.alloc (.cells #[.string U,.string T,.int .i64 s,.int .i64 l,.slice O o.length oc,.int .i64 fr,.int .i64 ev,.int .i64 ct,.int .i64 un,.slice D ds.length dc,.slice M ms.length mc,.slice Y ys.length yc,.slice X x.length xc] 41)).cell? ⟨w.heap.size,2,none⟩ = some (.int .i64 s):=cell_new w #[.string U,.string T,.int .i64 s,.int .i64 l,.slice O o.length oc,.int .i64 fr,.int .i64 ev,.int .i64 ct,.int .i64 un,.slice D ds.length dc,.slice M ms.length mc,.slice Y ys.length yc,.slice X x.length xc] 41 2 _ rfl
  have s3 : (w.alloc (.cells #[.string U,.string T,.int .i64 s,.int .i64 l,.slice O o.length oc,.int .i64 fr,.int .i64 ev,.int .i64 ct,.int .i64 un,.slice D ds.length dc,.slice M ms.length mc,.slice Y ys.length yc,.slice X x.length xc] 41)).cell? ⟨w.heap.size,3,none⟩ = some (.int .i64 l):=cell_new w #[.string U,.string T,.int .i64 s,.int .i64 l,.slice O o.length oc,.int .i64 fr,.int .i64 ev,.int .i64 ct,.int .i64 un,.slice D ds.length dc,.slice M ms.length mc,.slice Y ys.length yc,.slice X x.length xc] 41 3 _ rfl
  have s4 : (w.alloc (.cells #[.string U,.string T,.int .i64 s,.int .i64 l,.slice O o.length oc,.int .i64 fr,.int .i64 ev,.int .i64 ct,.int .i64 un,.slice D ds.length dc,.slice M ms.length mc,.slice Y ys.length yc,.slice X x.length xc] 41)).cell? ⟨w.heap.size,4,none⟩ = some (.slice O o.length oc):=cell_new w #[.string U,.string T,.int .i64 s,.int .i64 l,.slice O o.length oc,.int .i64 fr,.int .i64 ev,.int .i64 ct,.int .i64 un,.slice D ds.length dc,.slice M ms.length mc,.slice Y ys.length yc,.slice X x.length xc] 41 4 _ rfl
  have s5 : (w.alloc (.cells #[.string U,.string T,.int .i64 s,.int .i64 l,.slice O o.length oc,.int .i64 fr,.int .i64 ev,.int .i64 ct,.int .i64 un,.slice D ds.length dc,.slice M ms.length mc,.slice Y ys.length yc,.slice X x.length xc] 41)).cell? ⟨w.heap.size,5,none⟩ = some (.int .i64 fr):=cell_new w #[.string U,.string T,.int .i64 s,.int .i64 l,.slice O o.length oc,.int .i64 fr,.int .i64 ev,.int .i64 ct,.int .i64 un,.slice D ds.length dc,.slice M ms.length mc,.slice Y ys.length yc,.slice X x.length xc] 41 5 _ rfl
  have s6 : (w.alloc (.cells #[.string U,.string T,.int .i64 s,.int .i64 l,.slice O o.length oc,.int .i64 fr,.int .i64 ev,.int .i64 ct,.int .i64 un,.slice D ds.length dc,.slice M ms.length mc,.slice Y ys.length yc,.slice X x.length xc] 41)).cell? ⟨w.heap.size,6,none⟩ = some (.int .i64 ev):=cell_new w #[.string U,.string T,.int .i64 s,.int .i64 l,.slice O o.length oc,.int .i64 fr,.int .i64 ev,.int .i64 ct,.int .i64 un,.slice D ds.length dc,.slice M ms.length mc,.slice Y ys.length yc,.slice X x.length xc] 41 6 _ rfl
  have s7 : (w.alloc (.cells #[.string U,.string T,.int .i64 s,.int .i64 l,.slice O o.length oc,.int .i64 fr,.int .i64 ev,.int .i64 ct,.int .i64 un,.slice D ds.length dc,.slice M ms.length mc,.slice Y ys.length yc,.slice X x.length xc] 41)).cell? ⟨w.heap.size,7,none⟩ = some (.int .i64 ct):=cell_new w #[.string U,.string T,.int .i64 s,.int .i64 l,.slice O o.length oc,.int .i64 fr,.int .i64 ev,.int .i64 ct,.int .i64 un,.slice D ds.length dc,.slice M ms.length mc,.slice Y ys.length yc,.slice X x.length xc] 41 7 _ rfl
  have s8 : (w.alloc (.cells #[.string U,.string T,.int .i64 s,.int .i64 l,.slice O o.length oc,.int .i64 fr,.int .i64 ev,.int .i64 ct,.int .i64 un,.slice D ds.length dc,.slice M ms.length mc,.slice Y ys.length yc,.slice X x.length xc] 41)).cell? ⟨w.heap.size,8,none⟩ = some (.int .i64 un):=cell_new w #[.string U,.string T,.int .i64 s,.int .i64 l,.slice O o.length oc,.int .i64 fr,.int .i64 ev,.int .i64 ct,.int .i64 un,.slice D ds.length dc,.slice M ms.length mc,.slice Y ys.length yc,.slice X x.length xc] 41 8 _ rfl
  have s9 : (w.alloc (.cells #[.string U,.string T,.int .i64 s,.int .i64 l,.slice O o.length oc,.int .i64 fr,.int .i64 ev,.int .i64 ct,.int .i64 un,.slice D ds.length dc,.slice M ms.length mc,.slice Y ys.length yc,.slice X x.length xc] 41)).cell? ⟨w.heap.size,9,none⟩ = some (.slice D ds.length dc):=cell_new w #[.string U,.string T,.int .i64 s,.int .i64 l,.slice O o.length oc,.int .i64 fr,.int .i64 ev,.int .i64 ct,.int .i64 un,.slice D ds.length dc,.slice M ms.length mc,.slice Y ys.length yc,.slice X x.length xc] 41 9 _ rfl
  have s10 : (w.alloc (.cells #[.string U,.string T,.int .i64 s,.int .i64 l,.slice O o.length oc,.int .i64 fr,.int .i64 ev,.int .i64 ct,.int .i64 un,.slice D ds.length dc,.slice M ms.length mc,.slice Y ys.length yc,.slice X x.length xc] 41)).cell? ⟨w.heap.size,10,none⟩ = some (.slice M ms.length mc):=cell_new w #[.string U,.string T,.int .i64 s,.int .i64 l,.slice O o.length oc,.int .i64 fr,.int .i64 ev,.int .i64 ct,.int .i64 un,.slice D ds.length dc,.slice M ms.length mc,.slice Y ys.length yc,.slice X x.length xc] 41 10 _ rfl
  have s11 : (w.alloc (.cells #[.string U,.string T,.int .i64 s,.int .i64 l,.slice O o.length oc,.int .i64 fr,.int .i64 ev,.int .i64 ct,.int .i64 un,.slice D ds.length dc,.slice M ms.length mc,.slice Y ys.length yc,.slice X x.length xc] 41)).cell? ⟨w.heap.size,11,none⟩ = some (.slice Y ys.length yc):=cell_new w #[.string U,.string T,.int .i64 s,.int .i64 l,.slice O o.length oc,.int .i64 fr,.int .i64 ev,.int .i64 ct,.int .i64 un,.slice D ds.length dc,.slice M ms.length mc,.slice Y ys.length yc,.slice X x.length xc] 41 11 _ rfl
  have s12 : (w.alloc (.cells #[.string U,.string T,.int .i64 s,.int .i64 l,.slice O o.length oc,.int .i64 fr,.int .i64 ev,.int .i64 ct,.int .i64 un,.slice D ds.length dc,.slice M ms.length mc,.slice Y ys.length yc,.slice X x.length xc] 41)).cell? ⟨w.heap.size,12,none⟩ = some (.slice X x.length xc):=cell_new w #[.string U,.string T,.int .i64 s,.int .i64 l,.slice O o.length oc,.int .i64 fr,.int .i64 ev,.int .i64 ct,.int .i64 un,.slice D ds.length dc,.slice M ms.length mc,.slice Y ys.length yc,.slice X x.length xc] 41 12 _ rfl
  go_enter Tryz.func27,Tryz.ntmps27
  go_wp2_with fail
  generalize w.alloc (.cells #[.string U,.string T,.int .i64 s,.int .i64 l,.slice O o.length oc,.int .i64 fr,.int .i64 ev,.int .i64 ct,.int .i64 un,.slice D ds.length dc,.slice M ms.length mc,.slice Y ys.length yc,.slice X x.length xc] 41) = W at *
  refine (HI.out _ HL.out).mono ?_
  rintro e w1 ⟨rfl,hb⟩
  replace HBX:=hide (andthen HBX.out hb)
  replace HL:=hide (HL.out.keep hb)
  replace s2:=cell_keep hb s2
  replace s3:=cell_keep hb s3
  replace s4:=cell_keep hb s4
  replace s5:=cell_keep hb s5
  replace s6:=cell_keep hb s6
  replace s7:=cell_keep hb s7
  replace s8:=cell_keep hb s8
  replace s9:=cell_keep hb s9
  replace s10:=cell_keep hb s10
  replace s11:=cell_keep hb s11
  replace s12:=cell_keep hb s12
  clear s0 s1 hb
  cases RB
  · have HZ : Hid (OF = ([],14)):=hide (by rw [HOF.out,if_pos rfl])
    go_wp2_with fail
    go_ret2
    exact ⟨_,ret_two (by rw [HZ.out]),by rw [HZ.out]; exact ownC_nil _ _,HBX.out⟩
  · have hol:=HIR.out rfl
    go_wp2_with fail
    refine (HSP.out _ HL.out).mono ?_
    rintro e w2 ⟨v2,rfl,hown,hb⟩
    replace HBX:=hide (andthen HBX.out hb)
    replace HL:=hide (HL.out.keep hb)
    replace s4:=cell_keep hb s4
    have HO:=hide hown
    clear hb hown s2 s3 s5 s6 s7 s8 s9 s10 s11 s12
    by_cases hz : z = 0
    · subst hz
      have htm:=HTM.out rfl
      have htl:=htm.len
      obtain ⟨A2,c2,rfl,hr⟩:=Own.row HO.out
      have HR:=hide hr
      clear hr HTM HNO
      have HOR:=hide (HRO.out _ HL.out)
      have HLT:=hide (lap_times ts l htm)
      clear HO
      go_wp2_with fail
      go_loopw [6,7] (fun v i wr => ∃ k : Nat,k <= ts.length /\ i = .int .i64 k /\ Hid (OwnC wr w2.heap.size v (eachT o (ts.take k))) /\ Hid (∀ j,j + 1 < k -> j + 1 < ts.length -> lapAt ts j = false) /\ Hid (Below w2.heap.size w2 wr)) (fun _ i _ => ts.length - (intOf i).toNat)
      case atStart => exact ⟨0,by omega,rfl,hide (ownC_nil _ _),hide (fun j h => absurd h (Nat.not_lt_zero _)),hide (start _)⟩
      case round =>
        obtain ⟨k,hk,rfl,HV,HN,HB⟩:=hrel
        by_cases hlt : k < ts.length
        · obtain ⟨b,off,rfl,hb,hcl⟩:=HR.out (by intro h0; rw [h0] at hlt; exact absurd hlt (Nat.not_lt_zero _))
          obtain ⟨y1,y2⟩:=hcl k hlt
          obtain ⟨v9,hv9⟩ : ∃ v,ts[k] = v:=⟨_,rfl⟩
          have HTK : Hid (eachT o (ts.take (k + 1)) = eachT o (ts.take k) ++ (o.map fun q => (q,v9))):=hide (by unfold eachT; rw [List.take_succ_eq_append_getElem hlt,hv9,List.flatMap_append]; simp)
          have HLK : Hid ((eachT o (ts.take k)).length + o.length <= 1000000):=hide (by
            have h1:=eachT_len o (ts.take k)
            have h2 : (ts.take k).length * o.length <= 41 * 4:=Nat.mul_le_mul (Nat.le_trans (List.length_take_le _ _) (by omega)) hol
            omega)
          rw [hv9] at y1 y2
          obtain ⟨f9,t9⟩:=v9
          have HY1:=hide y1
          have HY2:=hide y2
          have HS4:=hide s4
          have p3 : wr.cell? ⟨b,off + k * 2,none⟩ = some (.int .i64 f9):=(HB.out.cell (p:=⟨b,_,none⟩) hb).trans y1
          have p4 : wr.cell? ⟨b,off + k * 2 + 1,none⟩ = some (.int .i64 t9):=(HB.out.cell (p:=⟨b,_,none⟩) hb).trans y2
          have g0 : (0 : Int) <= (k : Int):=by omega
          have g1 : (k : Int) < (ts.length : Int):=by omega
          rcases Nat.eq_zero_or_pos k with hk0 | hk0
          · subst hk0
            obtain ⟨S9,hS9⟩ : ∃ S9,eachT o (ts.take 0) = S9:=⟨_,rfl⟩
            rw [hS9] at HV HTK HLK
            have HNX : Hid (∀ j,j + 1 < 0 + 1 -> j + 1 < ts.length -> lapAt ts j = false):=hide (fun j h => by omega)
            have e1 : decide ((0 : Int) < ((0 : Nat) : Int)) = false:=rfl
            replace HY1:=hide (show w2.cell? ⟨b,off,none⟩ = some (.int .i64 f9) by have:=HY1.out; rw [Nat.zero_mul,Nat.add_zero] at this; exact this)
            replace HY2:=hide (show w2.cell? ⟨b,off + 1,none⟩ = some (.int .i64 t9) by have:=HY2.out; rw [Nat.zero_mul,Nat.add_zero] at this; exact this)
            have HB2q:=hide (fun a => below_drawn HB.out a)
            clear y1 y2 hcl hS9
            go_wp2_with fail
            go_quiet (fail)
            replace HV:=hide (show OwnC (wr.drewN nq) w2.heap.size _ S9 from OwnC.keep HV.out (below_drawn (start wr) nq))
            replace HB:=hide (HB2q.out nq)
            generalize wr.drewN nq = wq at *
            clear HB2q p3 p4
            go_wp2_with fail
            try simp only [Int.natCast_zero]
            go_loopw [6,8] (fun v i wz => ∃ j : Nat,j <= o.length /\ i = .int .i64 j /\ Hid (OwnC wz w2.heap.size v (S9 ++ (o.take j).map fun q => (q,((f9,t9) : Sp)))) /\ Hid (Below w2.heap.size w2 wz)) (fun _ i _ => o.length - (intOf i).toNat)
            case atStart => exact ⟨0,by omega,rfl,hide (by simpa using HV.out),hide HB.out⟩
            case round =>
              obtain ⟨j,hj,rfl,HO3,HB3⟩:=hrel
              have hz4:=cell_keep HB3.out HS4.out
              by_cases hlt2 : j < o.length
              · obtain ⟨bo,oo,rfl,hbo,hco⟩:=HOR.out (by intro h0; rw [h0] at hlt2; exact absurd hlt2 (Nat.not_lt_zero _))
                obtain ⟨q,hq⟩ : ∃ q,o[j] = q:=⟨_,rfl⟩
                have hcq:=hco j hlt2
                rw [hq] at hcq
                have HS2:=hide (And.intro HS4.out (And.intro hcq (And.intro HY1.out HY2.out)))
                have HSZ:=hide (keepC4 HB3.out HS2.out)
                have HTJ : Hid (S9 ++ ((o.take (j + 1)).map fun q => (q,((f9,t9) : Sp))) = (S9 ++ ((o.take j).map fun q => (q,((f9,t9) : Sp)))) ++ [(q,(f9,t9))]):=hide (by rw [List.take_succ_eq_append_getElem hlt2,hq,List.map_append,List.append_assoc]; rfl)
                have HLJ : Hid ((S9 ++ ((o.take j).map fun q => (q,((f9,t9) : Sp)))).length <= 1000000):=hide (by have h1:=HLK.out; rw [List.length_append,List.length_map]; have:=List.length_take_le j o; omega)
                have hq0 : (0 : Int) <= (j : Int):=by omega
                have hq1 : (j : Int) < (o.length : Int):=by omega
                generalize S9 ++ ((o.take j).map fun q => (q,((f9,t9) : Sp))) = SS at *
                clear hco hq hcq
                go_wp2_with fail
                go_region_held3 (fun w' => w'.cell? ⟨w.heap.size,4,none⟩ = some (.slice (some ⟨bo,oo,none⟩) o.length oc) /\ w'.cell? ⟨bo,oo + j,none⟩ = some (.int .i64 q) /\ w'.cell? ⟨b,off,none⟩ = some (.int .i64 f9) /\ w'.cell? ⟨b,off + 1,none⟩ = some (.int .i64 t9)) (first | exact keepC4 (start wr).drew HSZ.out | exact keepC4 (more (start wr).drew _) HSZ.out | exact keepC4 hb6w HS2.out) ((first
                  | (refine step_oneC (B:=w2.heap.size) (l:=SS) (k:=[(q,(f9,t9))]) rfl _ _ rfl rfl rfl rfl (row_oneC wr.drew q f9 t9 _) (OwnC.keep HO3.out (more (start wr).drew (.cells #[.int .i64 q,.int .i64 f9,.int .i64 t9] 25))) (Nat.le_trans HB3.out.size (more (start wr).drew (.cells #[.int .i64 q,.int .i64 f9,.int .i64 t9] 25)).size) HLJ.out (by simp) ?_
                     intro v6 w6 hown6 hb6
                     have hb6w:=(HB3.out.trans ((more (start wr).drew (.cells #[.int .i64 q,.int .i64 f9,.int .i64 t9] 25)).mono HB3.out.size)).trans hb6)))
                have HO6:=hide hown6
                have HB6:=hide hb6w
                clear hown6 hb6 hb6w
                go_wp2_with fail
                go_roundw
                case rel => exact ⟨j + 1,by omega,by go_num,by rw [HTJ.out]; exact hide HO6.out,hide HB6.out⟩
                case measure => simp [intOf]; omega
              · obtain rfl : j = o.length:=by omega
                rw [List.take_length,<- HTK.out] at HO3
                go_wp2_with fail
                go_roundw
                case rel => exact ⟨0 + 1,by omega,by go_num,hide HO3.out,hide HNX.out,hide HB3.out⟩
                case measure => simp [intOf]; omega
          · obtain ⟨m,rfl⟩ : ∃ m,k = m + 1:=⟨k - 1,by omega⟩
            obtain ⟨S9,hS9⟩ : ∃ S9,eachT o (ts.take (m + 1)) = S9:=⟨_,rfl⟩
            rw [hS9] at HV HTK HLK
            obtain ⟨x1,x2⟩:=hcl m (by omega)
            have hlm:=HLT.out m hlt
            obtain ⟨u9,hu9⟩ : ∃ u,ts[m] = u:=⟨_,rfl⟩
            rw [hu9] at x1 x2
            rw [hu9,hv9] at hlm
            obtain ⟨f8,t8⟩:=u9
            simp only at x1 x2 hlm
            have p2 : wr.cell? ⟨b,off + m * 2 + 1,none⟩ = some (.int .i64 t8):=(HB.out.cell (p:=⟨b,_,none⟩) hb).trans x2
            have e1 : decide ((0 : Int) < ((m + 1 : Nat) : Int)) = true:=decide_eq_true (by omega)
            have e0 : (0 : Int) < ((m + 1 : Nat) : Int):=by omega
            have g2 : ((m + 1 : Nat) : Int) - 1 = (m : Int):=by omega
            have g3 : (0 : Int) <= (m : Int):=by omega
            have g4 : (m : Int) < (ts.length : Int):=by omega
            have g5 : (0 : Int) <= (m : Int) + 1:=by omega
            have g6 : (m : Int) + 1 < (ts.length : Int):=by omega
            have g7 : ((m : Int) + 1).toNat = m + 1:=by omega
            have HB2q:=hide (fun a => below_drawn HB.out a)
            by_cases hd : f9 < t8
            · have hd1 : decide (f9 < t8) = true:=decide_eq_true hd
              have HZ : Hid (OF = ([],13)):=hide (by rw [HOF.out,if_neg (by simp),if_neg (by simp),if_pos (lapB_yes ts m hlt (by rw [hlm]; exact hd1))])
              clear y1 y2 x1 x2 hcl hS9 hlm hu9 hv9
              go_wp2_with fail
              go_quiet (fail)
              replace HB:=hide (HB2q.out nq)
              generalize wr.drewN nq = wq at *
              clear HB2q p2 p3 p4
              go_wp2_with fail
              go_ret2
              exact ⟨_,ret_two (by rw [HZ.out]),by rw [HZ.out]; exact ownC_nil _ _,andthen HBX.out HB.out⟩
            · have hd1 : decide (f9 < t8) = false:=decide_eq_false hd
              have HNX : Hid (∀ j,j + 1 < m + 1 + 1 -> j + 1 < ts.length -> lapAt ts j = false):=hide (fun j h1 h2 => by
                rcases Nat.lt_or_ge j m with h3 | h3
                · exact HN.out j (by omega) h2
                · obtain rfl : j = m:=by omega
                  rw [hlm]; exact hd1)
              clear y1 y2 x1 x2 hcl hS9 hlm hu9 hv9
              go_wp2_with fail
              go_quiet (fail)
              replace HV:=hide (show OwnC (wr.drewN nq) w2.heap.size _ S9 from OwnC.keep HV.out (below_drawn (start wr) nq))
              replace HB:=hide (HB2q.out nq)
              generalize wr.drewN nq = wq at *
              clear HB2q p2 p3 p4
              go_wp2_with fail
              go_loopw [6,8] (fun v i wz => ∃ j : Nat,j <= o.length /\ i = .int .i64 j /\ Hid (OwnC wz w2.heap.size v (S9 ++ (o.take j).map fun q => (q,((f9,t9) : Sp)))) /\ Hid (Below w2.heap.size w2 wz)) (fun _ i _ => o.length - (intOf i).toNat)
              case atStart => exact ⟨0,by omega,rfl,hide (by simpa using HV.out),hide HB.out⟩
              case round =>
                obtain ⟨j,hj,rfl,HO3,HB3⟩:=hrel
                have hz4:=cell_keep HB3.out HS4.out
                by_cases hlt2 : j < o.length
                · obtain ⟨bo,oo,rfl,hbo,hco⟩:=HOR.out (by intro h0; rw [h0] at hlt2; exact absurd hlt2 (Nat.not_lt_zero _))
                  obtain ⟨q,hq⟩ : ∃ q,o[j] = q:=⟨_,rfl⟩
                  have hcq:=hco j hlt2
                  rw [hq] at hcq
                  have HS2:=hide (And.intro HS4.out (And.intro hcq (And.intro HY1.out HY2.out)))
                  have HSZ:=hide (keepC4 HB3.out HS2.out)
                  have HTJ : Hid (S9 ++ ((o.take (j + 1)).map fun q => (q,((f9,t9) : Sp))) = (S9 ++ ((o.take j).map fun q => (q,((f9,t9) : Sp)))) ++ [(q,(f9,t9))]):=hide (by rw [List.take_succ_eq_append_getElem hlt2,hq,List.map_append,List.append_assoc]; rfl)
                  have HLJ : Hid ((S9 ++ ((o.take j).map fun q => (q,((f9,t9) : Sp)))).length <= 1000000):=hide (by have h1:=HLK.out; rw [List.length_append,List.length_map]; have:=List.length_take_le j o; omega)
                  have hq0 : (0 : Int) <= (j : Int):=by omega
                  have hq1 : (j : Int) < (o.length : Int):=by omega
                  generalize S9 ++ ((o.take j).map fun q => (q,((f9,t9) : Sp))) = SS at *
                  clear hco hq hcq
                  go_wp2_with fail
                  go_region_held3 (fun w' => w'.cell? ⟨w.heap.size,4,none⟩ = some (.slice (some ⟨bo,oo,none⟩) o.length oc) /\ w'.cell? ⟨bo,oo + j,none⟩ = some (.int .i64 q) /\ w'.cell? ⟨b,off + (m + 1) * 2,none⟩ = some (.int .i64 f9) /\ w'.cell? ⟨b,off + (m + 1) * 2 + 1,none⟩ = some (.int .i64 t9)) (first | exact keepC4 (start wr).drew HSZ.out | exact keepC4 (more (start wr).drew _) HSZ.out | exact keepC4 hb6w HS2.out) ((first
                    | (refine step_oneC (B:=w2.heap.size) (l:=SS) (k:=[(q,(f9,t9))]) rfl _ _ rfl rfl rfl rfl (row_oneC wr.drew q f9 t9 _) (OwnC.keep HO3.out (more (start wr).drew (.cells #[.int .i64 q,.int .i64 f9,.int .i64 t9] 25))) (Nat.le_trans HB3.out.size (more (start wr).drew (.cells #[.int .i64 q,.int .i64 f9,.int .i64 t9] 25)).size) HLJ.out (by simp) ?_
                       intro v6 w6 hown6 hb6
                       have hb6w:=(HB3.out.trans ((more (start wr).drew (.cells #[.int .i64 q,.int .i64 f9,.int .i64 t9] 25)).mono HB3.out.size)).trans hb6)))
                  have HO6:=hide hown6
                  have HB6:=hide hb6w
                  clear hown6 hb6 hb6w
                  go_wp2_with fail
                  go_roundw
                  case rel => exact ⟨j + 1,by omega,by go_num,by rw [HTJ.out]; exact hide HO6.out,hide HB6.out⟩
                  case measure => simp [intOf]; omega
                · obtain rfl : j = o.length:=by omega
                  rw [List.take_length,<- HTK.out] at HO3
                  go_wp2_with fail
                  go_roundw
                  case rel => exact ⟨(m + 1) + 1,by omega,by go_num,hide HO3.out,hide HNX.out,hide HB3.out⟩
                  case measure => simp [intOf]; omega
        · obtain rfl : k = ts.length:=by omega
          rw [List.take_length] at HV
          have hlp : lapB ts = false:=lapB_no ts (fun j hj => HN.out j hj hj)
          have HZ : Hid (OF = (neatC (eachT o ts),0)):=hide (by rw [HOF.out,if_neg (by simp),if_neg (by simp),if_neg (by rw [hlp]; simp),each_neat])
          have HEL : Hid ((eachT o ts).length <= 164):=hide (by rw [eachT_len]; have : ts.length * o.length <= 41 * 4:=Nat.mul_le_mul htl hol; omega)
          obtain ⟨A9,c9,rfl,hr9⟩:=HV.out.row
          have HR9:=hide hr9
          clear hr9 HV hlp
          generalize eachT o ts = D at *
          go_wp2_with fail
          refine (R.Neat_any A9 _ c9 D wr HR9.out rfl (by have:=HEL.out; omega)).mono ?_
          rintro e w7 ⟨v7,rfl,ho7,hb7⟩
          have HB7:=hide (andthen HBX.out (HB.out.trans (hb7.mono HB.out.size)))
          have HO7:=hide (ho7.low (Nat.le_trans HBX.out.size HB.out.size))
          clear ho7 hb7
          go_wp2_with fail
          go_ret2
          exact ⟨_,ret_two (by rw [HZ.out]),by rw [HZ.out]; exact HO7.out,HB7.out⟩
    · have hz1 : (z == 0) = false:=by rw [beq_eq_false_iff_ne]; exact hz
      have hz2 : (z != 0) = true:=by rw [bne_iff_ne]; exact hz
      have HZ : Hid (OF = ([],z)):=hide (by rw [HOF.out,if_neg (by simp),if_pos hz])
      go_wp2_with fail
      go_ret2
      exact ⟨_,ret_two (by rw [HZ.out]),by rw [HZ.out]; exact ownC_nil _ _,HBX.out⟩
end Go.Proofs.YtgihekokbgggcaaGreat.S2

import Derived.Test.YtfecnkhoojnkbaaGreatDoorRows
import Derived.Lib.RowBridge
import Derived.Lib.SmallJoins
import Derived.Deep.SlicePairs
import Derived.LaidMore
import Derived.Lay
import Derived.Stop.LaidErr
import Derived.Stop.Joined
import Derived.Test.YtfecnkhoojnkbaaGreatDoorXC1
set_option maxHeartbeats 8000000
set_option maxRecDepth 1000000
namespace Go.Proofs.YtfecnkhoojnkbaaGreatDoor
open Go.ChangeShapes Go.WideShapes Go.ChangeAt Go.RowKit Go.Joins Rul Go.Proofs.Tryz
theorem own:ownKnob prog.godebug=none:=by kernel_rfl
theorem laidOut:laidOutB prog=true:=by kernel_rfl
theorem qP:prog.cellsOf 114=2:=by kernel_rfl
theorem KO:prog.cellsOf 3=1:=by kernel_rfl
theorem VH:prog.cellsOf 41=1:=by kernel_rfl
theorem jK:prog.cellsOf 42=1:=by kernel_rfl
theorem jL:prog.cellsOf 44=7:=by kernel_rfl
theorem eY (b off k:Nat):(⟨b,off,none⟩:Addr).add k=⟨b,off+k,none⟩:=by simp [Addr.add]
section
variable {H:Type} {enc:TypeId×Value->H}
theorem qQ {W:World} {cs:List Value} {base fuel:Nat} {sp:Nat->Bool} {hd:Bool} {y:DataW H×List MemPlace} (hf:DataW.trod enc prog W base sp hd fuel 42 cs=some y) :
  ∃ (A:Option Addr) (n c:Nat) (l:List Wd),cs=[.slice A n c]/\n=l.length/\l.length<=maxLen/\EL W A l:=by
 rcases Go.Deep.open_slice_pairs underlying42 underlying114 qP rfl rfl KO KO hf with ⟨hcs,_⟩|⟨a,len,cap,m,k,V0,V1,D0,D1,P0,P1,hcs,_,hl,hm,hmm,_,hi⟩
 ·exact ⟨none,0,0,[],hcs,rfl,Nat.zero_le _,EL.nil _ _⟩
 ·have hnm:len<=m:=by rw [hmm];split <;> omega
  refine ⟨some a,len,cap,(List.range len).map fun i=>(intOf (V0 i),intOf (V1 i)),hcs,by simp,by simp;omega,fun hne=>?_⟩;have hn:0<len:=by
   rcases Nat.eq_zero_or_pos len with h0|h0
   ·subst h0;simp at hne
   ·exact h0
  obtain ⟨b,off,spot⟩:=a;have c0:=(hi 0 (by omega)).1;have hspot:spot=none:=by simpa [Addr.add] using World.cell?_spot c0
  subst hspot;have hb:b<W.heap.size:=by
   have:=World.block_lt_of_cell? _ _ c0
   simpa [Addr.add] using this
  refine ⟨b,off,rfl,hb,fun i hi'=>?_⟩;have hin:i<len:=by simpa using hi'
  obtain ⟨g0,g1,t0,t1⟩:=hi i (by omega);obtain ⟨z0,e0,_,_⟩:=DataW.trod_int underlying3 t0;obtain ⟨z1,e1,_,_⟩:=DataW.trod_int underlying3 t1;simp only [List.cons.injEq,and_true] at e0 e1;rw [eY] at g0 g1;rw [g0,Nat.add_assoc,g1,e0,e1];simp [e0,e1,intOf]
theorem NC {W:World} {cs:List Value} {base fuel:Nat} {sp:Nat->Bool} {hd:Bool} {y:DataW H×List MemPlace} (hf:DataW.trod enc prog W base sp hd fuel 41 cs=some y) :
  ∃ (A:Option Addr) (n c:Nat) (l:List Int),cs=[.slice A n c]/\n=l.length/\l.length<=maxLen/\BS W A l:=by
 rcases open_ints underlying41 underlying3 KO hf with ⟨hcs,_⟩|⟨a,len,cap,zs,hcs,_,hl,hm,hzl,_,hi,_⟩
 ·exact ⟨none,0,0,[],hcs,rfl,Nat.zero_le _,BS.nil _ _⟩
 ·have hnm:len<=zs.length:=by rw [hzl];split <;> omega
  refine ⟨some a,len,cap,zs.take len,hcs,by simp;omega,by simp;omega,fun hne=>?_⟩;have hn:0<len:=by
   rcases Nat.eq_zero_or_pos len with h0|h0
   ·subst h0;simp at hne
   ·exact h0
  obtain ⟨b,off,spot⟩:=a;have c0:=hi 0 (by omega);have hspot:spot=none:=by simpa [Addr.add] using World.cell?_spot c0
  subst hspot;have hb:b<W.heap.size:=by
   have:=World.block_lt_of_cell? _ _ c0
   simpa [Addr.add] using this
  refine ⟨b,off,rfl,hb,fun i hi'=>?_⟩;have hin:i<len:=by simp at hi';omega
  have g:=hi i (by omega);rw [eY] at g;rw [g,List.getElem_take,getD_at 0 zs i (by omega)]
end
end Go.Proofs.YtfecnkhoojnkbaaGreatDoor
namespace Go.Proofs.YtfecnkhoojnkbaaGreatDoor
open Go.ChangeShapes Go.WideShapes Go.ChangeAt Go.RowKit Go.Joins Go.Proofs.Tryz
def tabs:List (String×DataW Unit):=Rows.calTellsRow.laid
theorem xS:(prog.globals[5]?).map (·.type)=some 237:=by kernel_rfl
theorem jM:prog.cellsOf 205=1:=by kernel_rfl
theorem jN:prog.cellsOf 237=20:=by kernel_rfl
theorem A0R:(Rows.laid_internal_strconv_uint64pow10:DataW Unit)=Lib.tabData .u64 Lib.pow10Tab:=by kernel_rfl
theorem eZ {W:World} (h:laidMetH prog tabs W):Tab W:=by
 rw [MakeChecks.laidMetH_plain _ _ _ (by kernel_rfl)] at h;have h2:∃ r, laidMet prog (("internal/strconv.uint64pow10", Lib.tabData .u64 Lib.pow10Tab) :: r) W := by
  rw [<- A0R];exact ⟨_,laidMet.tail (laidMet.tail h)⟩
 obtain ⟨r,h2⟩:=h2;exact Lib.tabIs_of_head OS xS underlying237 underlying205 jM jN h2
theorem fA: "*"++ "errors.errorString"= "*errors.errorString" := by decide
theorem mL (u:TypeId) (h:prog.typeName? 3 u=some "*errors.errorString"):u=317 :=
 typeName_ptr_named (nm := "errors.errorString") (by rw [fA];kernel_rfl) (by kernel_rfl) (by decide) u (by rw [fA];exact h)
theorem XZ:prog.cellsOf 319=1:=by kernel_rfl
theorem Y1:prog.cellsOf 9=1:=by kernel_rfl
theorem A2J:(Rows.laid_strconv_ErrRange:DataW Unit)=.iface "*errors.errorString" (.ptr (.agg [.lit (.string [118, 97, 108, 117, 101, 32, 111, 117, 116, 32, 111, 102, 32, 114, 97, 110, 103, 101])])) := rfl
theorem A2K:(Rows.laid_strconv_ErrSyntax:DataW Unit)=.iface "*errors.errorString" (.ptr (.agg [.lit (.string [105, 110, 118, 97, 108, 105, 100, 32, 115, 121, 110, 116, 97, 120])])) := rfl
theorem A1O:prog.globalNamed "strconv.ErrRange"=some 10 := by kernel_rfl
theorem A1P:prog.globalNamed "strconv.ErrSyntax"=some 9 := by kernel_rfl
theorem A2L {W:World} (h:laidMetH prog tabs W):∃ ev,W.cell? ⟨10,0,none⟩=some ev/\(ev=.nilIface∨∃ te pe,ev=.iface te pe):=by
 rw [MakeChecks.laidMetH_plain _ _ _ (by kernel_rfl)] at h;have h2:∃ r, laidMet prog (("strconv.ErrRange", .iface "*errors.errorString" (.ptr (.agg [.lit (.string [118, 97, 108, 117, 101, 32, 111, 117, 116, 32, 111, 102, 32, 114, 97, 110, 103, 101])]))) :: r) W := by
  rw [<- A2J];exact ⟨_,laidMet.tail (laidMet.tail (laidMet.tail (laidMet.tail h)))⟩
 obtain ⟨r,h2⟩:=h2;obtain ⟨a,_,hv,_⟩:=laid_sentinel h2 A1O (ti:=68) (by kernel_rfl) underlying68 mL underlying317 underlying319 rfl rfl underlying9 XZ Y1;exact ⟨_,by simpa using World.var?_cell A1O hv 0,Or.inr ⟨_,_,rfl⟩⟩
theorem A2M {W:World} (h:laidMetH prog tabs W):∃ ev,W.cell? ⟨9,0,none⟩=some ev/\(ev=.nilIface∨∃ te pe,ev=.iface te pe):=by
 rw [MakeChecks.laidMetH_plain _ _ _ (by kernel_rfl)] at h;have h2:∃ r, laidMet prog (("strconv.ErrSyntax", .iface "*errors.errorString" (.ptr (.agg [.lit (.string [105, 110, 118, 97, 108, 105, 100, 32, 115, 121, 110, 116, 97, 120])]))) :: r) W := by
  rw [<- A2K];exact ⟨_,laidMet.tail (laidMet.tail (laidMet.tail (laidMet.tail (laidMet.tail h))))⟩
 obtain ⟨r,h2⟩:=h2;obtain ⟨a,_,hv,_⟩:=laid_sentinel h2 A1P (ti:=68) (by kernel_rfl) underlying68 mL underlying317 underlying319 rfl rfl underlying9 XZ Y1;exact ⟨_,by simpa using World.var?_cell A1P hv 0,Or.inr ⟨_,_,rfl⟩⟩
theorem A2N {W:World} (h:laidMetH prog tabs W) (hs:W.ShapedOpen prog):Env W :=
 ⟨eZ h,cell_of_shapedOpen_int (zero:=#[.int .i64 0]) (t:=3) hs (of_decide_eq_true (by kernel_rfl)) (by kernel_rfl) rfl (by kernel_rfl) (by kernel_rfl) underlying3,
  A2M h,A2L h⟩
def LI:List Int:=[0,1,2,3,4,5,6,7,8,9,10,11,12,13,14,15,16,17,18,19,20,21,22,23,24,25,26,27,28,29,30,31,32,33,34,35,36,37,38,39,40,41,42,43,44,45,46,47,48,49,50,51,52,53,54,55,56,57,58,59,60,61,62,63,64,97,98,99,100,101,102,103,104,105,106,107,108,109,110,111,112,113,114,115,116,117,118,119,120,121,122,91,92,93,94,95,96,65,66,67,68,69,70,71,72,73,74,8490,76,77,78,79,80,81,82,383,84,85,86,87,88,89,90,123,124,125,126,127]
theorem qR:(prog.globals[0]?).map (·.type)=some 186:=by kernel_rfl
theorem fB:prog.cellsOf 30=1:=by kernel_rfl
theorem fD:prog.cellsOf 186=128:=by kernel_rfl
theorem xT:(Rows.laid_unicode_asciiFold:DataW Unit)=Lib.tabData .u16 LI:=by kernel_rfl
theorem jO:prog.globalNamed "unicode.asciiFold"=some 0 := by kernel_rfl
theorem A0S {W:World} (h:laidMetH prog tabs W):G3 W:=by
 rw [MakeChecks.laidMetH_plain _ _ _ (by kernel_rfl)] at h;have h2:∃ r, laidMet prog (("unicode.asciiFold", Lib.tabData .u16 LI) :: r) W := by
  rw [<- xT];exact ⟨_,laidMet.tail (laidMet.tail (laidMet.tail (laidMet.tail (laidMet.tail (laidMet.tail h)))))⟩
 obtain ⟨r,h2⟩:=h2;have h3:=Lib.tabIs_of_head jO qR underlying186 underlying30 fB fD h2;intro c hc;have hz:LI.length=128:=by decide +kernel
 have hv:c+32<LI.length/\LI.getD c 0=(c:Int)+32/\LI.getD (c+32) 0=(c:Int):=by
  have:∀ c∈[86,69,78,84,67,65,76,68,82],c+32<LI.length/\LI.getD c 0=(c:Int)+32/\LI.getD (c+32) 0=(c:Int):=by decide +kernel
  exact this c hc
 have a1:=h3.cell jO c (by omega);have a2:=h3.cell jO (c+32) hv.1;rw [hv.2.1] at a1;rw [hv.2.2] at a2;exact ⟨a1,a2⟩
theorem A0T {W:World} (h:laidMetH prog tabs W) (hs:W.ShapedOpen prog):EE W:=⟨A2N h hs,A0S h⟩
theorem xU (os:Os) (args:Array Value):laidMetH prog tabs ((World.laidAll prog os tabs).forCall (fun _ _=>0) ⟨#[],args,[]⟩).memory:=by
 rw [MakeChecks.laidMetH_plain _ _ _ (by kernel_rfl)];exact laidMet_laidAll _ (by kernel_rfl) (by kernel_rfl)
theorem ZQ {H:Type} {enc:TypeId×Value->H} {a:Assume} {C:Checked} {os:Os} {f:FuncId} {fn:Func} {s:ChangeSpec} {apart fresh handsOn again:Bool} {laid:List (String×DataW Unit)}
  (own:ownKnob C.prog.godebug=none) (started:os.Started) (noInit:C.prog.inits.idxOf? f=none) (hfn:C.prog.funcs[f]?=some fn)
  (witness:∃ (w:World) (tape:Tape) (i:Input),w.os=os/\(w.forCall tape i).Shaped C.prog/\i.vars=[]/\Input.okWide C.prog (w.forCall tape i) .any w.heap.size f i ∧
   ((s.pre enc C.prog fn [] apart (w.forCall tape i).memory i.args/\laidMetH C.prog laid (w.forCall tape i).memory)/\sizedMet enc C.prog fn (OpenSpec.ofChange s) apart (w.forCall tape i).memory i.args)/\a.holds C.prog (lone (Frame.enter C.prog f i.args .normal) [] (w.forCall tape i)))
  (contract:∀ (W:World) (base:Nat) (args:Array Value) (ds gs:List (DataW H)) (before:List MemPlace),
   (∀ (j:Nat) t v,fn.params[j]?=some t->args[j]?=some v->Value.okWide C.prog W .any base t v) →
   DataW.Whole enc C.prog fn.params.toList s.vars apart W args.toList ds gs before->laidMetH C.prog laid W->W.ShapedOpen C.prog →
   Calls C.prog f args W fun e W'=>∃ v,e=.returned v/\s.post enc C.prog fn apart fresh handsOn again W args v W') :
  ReturnsInHanded a C os f .any (fun w args=>(s.pre enc C.prog fn [] apart w args/\laidMetH C.prog laid w)/\sizedMet enc C.prog fn (OpenSpec.ofChange s) apart w args) (s.post enc C.prog fn apart fresh handsOn again):=by
 refine returnsInHanded_of_calls own started noInit witness ?_;intro w tape i _ hsh _ hok hpre _;obtain ⟨_,_,_,fn',hfn',_,_,_,_,hval⟩:=hok;obtain rfl:fn'=fn:=Option.some.inj (hfn'.symm.trans hfn);obtain ⟨⟨⟨ds,gs,before,hw,_⟩,hx⟩,_⟩:=hpre;have hx':laidMetH C.prog laid (w.forCall tape i).memory:=hx;refine (contract (w.forCall tape i) w.heap.size i.args ds gs before hval (DataW.Whole.of_heap (w':=w.forCall tape i) (by rfl) hw) (laidMetH.of_heap (w':=w.forCall tape i) (by rfl) hx') hsh).mono fun e W' ⟨v,he,hp⟩=>?_
 subst he;exact ChangeSpec.post_blind hp
end Go.Proofs.YtfecnkhoojnkbaaGreatDoor
namespace Go.Proofs.YtfecnkhoojnkbaaGreatDoor
open Go.ChangeShapes Go.WideShapes Go.ChangeAt Go.RowKit Go.Joins Rul Go.Proofs.Tryz
theorem ZR:prog.cellsOf 9=1:=by kernel_rfl
theorem fE:prog.cellsOf 47=13:=by kernel_rfl
section
variable {H:Type} {enc:TypeId×Value->H}
theorem ZS {W:World} {v0 v1 v2 v3 v4 v5 v6:Value} {base fuel:Nat} {sp:Nat->Bool} {hd:Bool} {y:DataW H×List MemPlace} (hf:DataW.trod enc prog W base sp hd fuel 44 [v0,v1,v2,v3,v4,v5,v6]=some y) :
  ∃ (fr ev ct un:Int) (D M Y:Option Addr) (dn dc mn mc yn yc:Nat) (ds:List Wd) (ms ys:List Int),(v0=.int .i64 fr/\v1=.int .i64 ev/\v2=.int .i64 ct/\v3=.int .i64 un/\v4=.slice D dn dc/\v5=.slice M mn mc/\v6=.slice Y yn yc) ∧
   (dn=ds.length/\ds.length<=maxLen/\EL W D ds)/\(mn=ms.length/\ms.length<=maxLen/\BS W M ms)/\(yn=ys.length/\ys.length<=maxLen/\BS W Y ys):=by
 obtain ⟨xs,n,_,hx,hl,hlen,hfl⟩:=DataW.trod_struct underlying44 hf;have g0:=hfl 0 _ rfl;have g1:=hfl 1 _ rfl;have g2:=hfl 2 _ rfl;have g3:=hfl 3 _ rfl;have g4:=hfl 4 _ rfl;have g5:=hfl 5 _ rfl;have g6:=hfl 6 _ rfl
 match xs,hlen with
 | [y0,y1,y2,y3,y4,y5,y6],_ =>
  simp [KO,VH,jK] at g0 g1 g2 g3 g4 g5 g6;obtain ⟨z0,e0,_,_⟩:=DataW.trod_int underlying3 g0;obtain ⟨z1,e1,_,_⟩:=DataW.trod_int underlying3 g1;obtain ⟨z2,e2,_,_⟩:=DataW.trod_int underlying3 g2;obtain ⟨z3,e3,_,_⟩:=DataW.trod_int underlying3 g3;obtain ⟨D,dn,dc,ds,e4,k4⟩:=qQ g4;obtain ⟨M,mn,mc,ms,e5,k5⟩:=NC g5;obtain ⟨Y,yn,yc,ys,e6,k6⟩:=NC g6;simp only [List.cons.injEq,and_true] at e0 e1 e2 e3 e4 e5 e6;exact ⟨z0,z1,z2,z3,D,M,Y,dn,dc,mn,mc,yn,yc,ds,ms,ys,⟨e0,e1,e2,e3,e4,e5,e6⟩,k4,k5,k6⟩
end
end Go.Proofs.YtfecnkhoojnkbaaGreatDoor
namespace Go.Proofs.YtfecnkhoojnkbaaGreatDoor
open Go.ChangeShapes Go.WideShapes Go.ChangeAt Go.RowKit Go.Joins Rul Rt Go.Proofs.Tryz
structure EvR (w:World) (e:Ev.E) (m:Mem):Prop where
 o:BS w m.O e.rooms
 ol:e.rooms.length<=maxLen
 d:EL w m.D e.r.ds
 dl:e.r.ds.length<=maxLen
 mm:BS w m.M e.r.ms
 ml:e.r.ms.length<=maxLen
 y:BS w m.Y e.r.ys
 yl:e.r.ys.length<=maxLen
 x:BS w m.X e.ex
 xl:e.ex.length<=maxLen
 ul:e.uid.length<=maxLen
 tl:e.text.length<=maxLen
theorem EvR.to {w:World} {e:Ev.E} {m:Mem} (h:EvR w e m) (h1:e.rooms.length<=1000) (h2:e.r.ds.length<=1000) (h3:e.r.ms.length<=1000) (h4:e.r.ys.length<=1000) (h5:e.ex.length<=1000) (h6:e.uid.length<=40000) (h7:e.text.length<=40000):EvL w e m :=
 ⟨h.o,h1,⟨h.d,rfl,by omega,h.mm,rfl,by omega,h.y,rfl,by omega⟩,h.x,h5,h6,h7⟩
section
variable {H:Type} {enc:TypeId×Value->H}
theorem WI {W:World} {v0 v1 v2 v3 v4 v5 v6 v7 v8 v9 v10 v11 v12:Value} {base fuel:Nat} {sp:Nat->Bool} {hd:Bool} {y:DataW H×List MemPlace} (hf:DataW.trod enc prog W base sp hd fuel 47 [v0,v1,v2,v3,v4,v5,v6,v7,v8,v9,v10,v11,v12]=some y) :
  ∃ (e:Ev.E) (m:Mem),[v0,v1,v2,v3,v4,v5,v6,v7,v8,v9,v10,v11,v12]=E8 e m/\EvR W e m:=by
 obtain ⟨xs,n,_,hx,hl,hlen,hfl⟩:=DataW.trod_struct underlying47 hf;have g0:=hfl 0 _ rfl;have g1:=hfl 1 _ rfl;have g2:=hfl 2 _ rfl;have g3:=hfl 3 _ rfl;have g4:=hfl 4 _ rfl;have g5:=hfl 5 _ rfl;have g6:=hfl 6 _ rfl
 match xs,hlen with
 | [y0,y1,y2,y3,y4,y5,y6],_ =>
  simp [KO,VH,ZR,jL] at g0 g1 g2 g3 g4 g5 g6;obtain ⟨U,e0,_,hU⟩:=DataW.trod_string underlying9 g0;obtain ⟨T,e1,_,hT⟩:=DataW.trod_string underlying9 g1;obtain ⟨z2,e2,_,_⟩:=DataW.trod_int underlying3 g2;obtain ⟨z3,e3,_,_⟩:=DataW.trod_int underlying3 g3;obtain ⟨O,on,oc,o,e4,k4,l4,r4⟩:=NC g4;obtain ⟨fr,ev,ct,un,D,M,Y,dn,dc,mn,mc,yn,yc,ds,ms,ys,⟨rfl,rfl,rfl,rfl,rfl,rfl,rfl⟩,⟨rfl,kd,rd⟩,⟨rfl,km,rm⟩,⟨rfl,ky,ry⟩⟩:=ZS g5;obtain ⟨X,xn,xc,x,e6,k6,l6,r6⟩:=NC g6;simp only [List.cons.injEq,and_true] at e0 e1 e2 e3 e4 e6;subst e0 e1 e2 e3 e4 e6 k4 k6;exact ⟨⟨U.data.toList,T.data.toList,z2,z3,o,⟨fr,ev,ct,un,ds,ms,ys⟩,x⟩,⟨O,oc,D,dc,M,mc,Y,yc,X,xc⟩,by simp only [E8,Q7],⟨r4,l4,rd,kd,rm,km,ry,ky,r6,l6,by rw [AE];exact hU,by rw [AE];exact hT⟩⟩
theorem jP (b off k:Nat):(⟨b,off,none⟩:Addr).add k=⟨b,off+k,none⟩:=by simp [Addr.add]
theorem fF {W:World} {A:Option Addr} {n c base:Nat} {sp:Nat->Bool} {hd:Bool} {d:DataW H} {p:List MemPlace} (h:DataW.Trod enc prog W base sp hd 22 (.slice A n c) d p) :
  ∃ l:List EM,n=l.length/\l.length<=maxLen/\GD W A l/\∀ q∈l,EvR W q.1 q.2:=by
 obtain ⟨fuel,hf⟩:=h;rcases Go.Deep.open_slice underlying22 hf with ⟨hcs,_⟩|⟨a,len,cap,m,k,D,Pl,hcs,hb,hl,hm,hmm,_,hx⟩
 ·simp [Value.cells] at hcs;obtain ⟨rfl,rfl,rfl⟩:=hcs;exact ⟨[],rfl,Nat.zero_le _,GD.nil _ _,fun q hq=>absurd hq List.not_mem_nil⟩
 ·simp [Value.cells] at hcs;obtain ⟨rfl,rfl,rfl⟩:=hcs;have hnm:n<=m:=by rw [hmm];split <;> omega
  have each:∀ i,i<m->∃ q:EM,(∀ j,j<13->W.cell? (a.add (i*13+j))=(E8 q.1 q.2)[j]?)/\EvR W q.1 q.2:=by
   intro i hi;obtain ⟨cs',h1,h2⟩:=hx i hi;rw [fE] at h1;obtain ⟨_,hlen,hcell⟩:=World.cells?_some h1
   match cs',hlen with
   | [v0,v1,v2,v3,v4,v5,v6,v7,v8,v9,v10,v11,v12],_ =>
    obtain ⟨e,m,hc,hr⟩:=WI h2;refine ⟨(e,m),fun j hj=>?_,hr⟩;have:=hcell j hj;rw [Go.Deep.add_add] at this;rw [this,<- hc]
  haveI:Inhabited EM:=⟨(⟨[],[],0,0,[],once,[]⟩,cC)⟩
  obtain ⟨q,hq⟩:=Go.Deep.choose_lt each;refine ⟨(List.range n).map q,by simp,by simp;omega,fun hne=>?_,fun z hz=>?_⟩
  ·have hn:0<n:=by
    rcases Nat.eq_zero_or_pos n with h0|h0
    ·subst h0;simp at hne
    ·exact h0
   obtain ⟨b,off,spot⟩:=a;have c0:=(hq 0 (by omega)).1 0 (by omega);rw [show (E8 (q 0).1 (q 0).2)[0]?=some (.string (str (q 0).1.uid)) from rfl] at c0;have hspot:spot=none:=by simpa [Addr.add] using World.cell?_spot c0
   subst hspot;have hb:b<W.heap.size:=by
    have:=World.block_lt_of_cell? _ _ c0
    simpa [Addr.add] using this
   refine ⟨b,off,rfl,hb,fun i hi'=>⟨fun j hj=>?_⟩⟩;have hin:i<n:=by simpa using hi'
   have g:=(hq i (by omega)).1 j hj;rw [jP] at g;rw [show off+i*13+j=off+(i*13+j) by omega,g];simp
  ·obtain ⟨i,hi,rfl⟩:=List.mem_map.1 hz;exact (hq i (by have:=List.mem_range.1 hi;omega)).2
end
end Go.Proofs.YtfecnkhoojnkbaaGreatDoor

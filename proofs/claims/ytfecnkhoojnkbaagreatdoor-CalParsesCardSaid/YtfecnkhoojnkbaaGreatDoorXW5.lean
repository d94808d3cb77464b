import Derived.StillTailTactics
import Derived.Test.YtfecnkhoojnkbaaGreatDoorXW3
set_option maxHeartbeats 8000000
set_option maxRecDepth 1000000
namespace Go.Proofs.YtfecnkhoojnkbaaGreatDoor
open Go.RowKit Rul Rt Go.Sort Tryz
theorem OW {B:Nat} {w w':World} {b:Nat} {v:Value} (h:w.cell? ⟨b,0,none⟩=some v) (hb:Below B w w') (hB:w.heap.size<=B):w'.cell? ⟨b,0,none⟩=some v :=
 (hb.cell (p:=⟨b,0,none⟩) (Nat.lt_of_lt_of_le (block_lt_of_cell h) hB)).trans h
structure Env (w:World):Prop where
 tab:Tab w
 len:∃ m:Int,w.cell? ⟨6,0,none⟩=some (.int .i64 m)
 syn:∃ ev,w.cell? ⟨9,0,none⟩=some ev/\(ev=.nilIface∨∃ te pe,ev=.iface te pe)
 rng:∃ ev,w.cell? ⟨10,0,none⟩=some ev/\(ev=.nilIface∨∃ te pe,ev=.iface te pe)
theorem Env.below {B:Nat} {w w':World} (h:Env w) (hb:Below B w w') (hB:w.heap.size<=B):Env w':=by
 obtain ⟨h1,⟨m,h2⟩,⟨e,h3,h4⟩,⟨f,h5,h6⟩⟩:=h;exact ⟨h1.below hb hB,⟨m,OW h2 hb hB⟩,⟨e,OW h3 hb hB,h4⟩,⟨f,OW h5 hb hB,h6⟩⟩
theorem Env.keep {w w':World} (h:Env w) (hb:Below w.heap.size w w'):Env w':=h.below hb (Nat.le_refl _)
theorem KS (n:Int) (w:World) (h:EX n) (ht:Tab w):Calls prog 58 #[.int .i64 n] w (Ans w (.string (str (Lib.itoa n)))) :=
 (Tryz.strconv_Itoa n h.1 h.2 w ht).mono fun _ _ ⟨he,k,os,hw⟩=>⟨he,hw▸SJ w k os⟩
theorem fM (c:UInt8) (s:ByteArray) (hs:s=str [c]) (A:Option Addr) (n cap:Nat) (l:List Tx) (w:World) (hl:BU w A l) (hn:n=l.length) (hcap:l.length<=cap) (hsz:l.length<=1000) (hlen:∀ p∈l,p.length<=100000) :
  Calls prog 97 #[.slice A n cap,.string s] w (Ans w (.string (str (AU c l)))):=by
 subst hn hs
 by_cases h0:l=[]
 ·subst h0;exact (Tryz.strings_Join_none A cap _ w).mono fun _ _ ⟨he,hw⟩=>⟨he,hw▸start _⟩
 ·obtain ⟨b,o,rfl,hb,hc⟩:=hl h0;have em:(l.map str).map (fun x:ByteArray=>x.data.toList)=l:=by
   rw [List.map_map];have:(fun x:ByteArray=>x.data.toList) ∘ str=id:=by funext x;simp [str]
   rw [this,List.map_id]
  have ej:Lib.join ((l.map str).map (fun x:ByteArray=>x.data.toList)) (str [c]).data.toList=AU c l:=by rw [em,AD];exact cM c l
  have hJ:(AU c l).length<=140737488355328:=by
   have h1:=Q6 c 100000 l hlen;have h2:l.length*(100000+1)<=1000*(100000+1):=Nat.mul_le_mul_right _ hsz;omega
  have:=Tryz.strings_Join b o cap (l.map str) (str [c]) w (fun j x hx=>by
   rw [List.getElem?_map,Option.map_eq_some_iff] at hx;obtain ⟨t,ht,rfl⟩:=hx;obtain ⟨hj,e⟩:=List.getElem?_eq_some_iff.1 ht;rw [hc j hj,e]) hb (by rw [List.length_map];omega) (by rw [List.length_map];exact hcap) (by rw [ej];exact hJ)
  rw [List.length_map,ej] at this;exact this
theorem Q7 (x:ByteArray):str x.data.toList=x:=(K7 x).symm
theorem LU (c:UInt8) (s:ByteArray) (hs:s=str [c]) (n:Nat) (N:Int) (hN:N=(n:Int)) (t:ByteArray) (w:World) (he:Env w) (ht:t.size<=100000) (hn:1<=n) (hn2:n<=1000) :
  Calls prog 231 #[.string t,.string s,.int .i64 N] w fun e w'=>∃ A cap,e=.returned (.slice A (Lib.splitN t.data.toList [c] n).length cap)/\BU w' A (Lib.splitN t.data.toList [c] n)/\Below w.heap.size w w':=by
 subst hs hN;obtain ⟨m,hm⟩:=he.len;refine (Tryz.strings_SplitN t (str [c]) n m w (by omega) hm (by rw [AB];simp) hn (by omega)).mono ?_;rintro e w' ⟨rfl,rfl⟩;have ed:=Lib.splitB_data (str [c]) 0 (min n (t.size+1)-1) t;have es:Lib.splitN t.data.toList [c] n=Lib.splitK [c] 0 (min n (t.size+1)-1) t.data.toList:=by unfold Lib.splitN;rw [AE]
 rw [AD,<- es] at ed;generalize hB:Lib.splitB (str [c]) 0 (min n (t.size+1)-1) t=B at *;have hl:B.length=(Lib.splitN t.data.toList [c] n).length:=by rw [<- ed,List.length_map]
 refine ⟨some ⟨w.heap.size,0,none⟩,_,by rw [hl],fun _=>⟨w.heap.size,0,rfl,by simp,fun i hi=>?_⟩,more (start _) _⟩;have hi2:i<B.length:=by rw [hl];exact hi
 have hx:(Lib.splitN t.data.toList [c] n)[i]=B[i].data.toList:=by
  have:(B.map (·.data.toList))[i]'(by rw [List.length_map];exact hi2)=B[i].data.toList:=List.getElem_map _;rw [<- this]
  congr 1
  exact ed.symm
 rw [hx,Q7,Nat.zero_add,World.cell?_alloc_at _ _ _ _ rfl];simp only [Lib.cellsOf,List.getElem?_toArray];rw [List.getElem?_append_left (by rw [List.length_map];exact hi2),List.getElem?_map,List.getElem?_eq_getElem hi2];rfl
theorem yH (c:UInt8) (s:ByteArray) (hs:s=str [c]) (t:ByteArray) (w:World) (he:Env w) (ht:t.size<=100000) :
  Calls prog 106 #[.string t,.string s] w (Ans w (.tuple #[.string (str (Lib.cut t.data.toList [c]).1),.string (str (Lib.cut t.data.toList [c]).2.1),.bool (Lib.cut t.data.toList [c]).2.2])):=by
 subst hs;obtain ⟨m,hm⟩:=he.len;refine (Tryz.strings_Cut t (str [c]) m w (by omega) hm).mono ?_;rintro e w' ⟨rfl,n,rfl⟩;refine ⟨by rw [AD];rfl,AJ (start _) n⟩
theorem OX (l:Tx) (s:ByteArray) (hs:s=str l) (t:ByteArray) (w:World) (ht:t.size<=100000) :
  Calls prog 228 #[.string t,.string s] w (Ans w (.tuple #[.string (str (Lib.trimSuffix t.data.toList l)),.bool (Lib.hasSuffix t.data.toList l)])):=by
 subst hs;refine (Tryz.strings_CutSuffix t (str l) w (by omega)).mono ?_;rintro e w' ⟨rfl,rfl⟩;exact ⟨by rw [AD];rfl,start _⟩
def Reads (w:World) (t:Tx) (e:Ending) (w':World):Prop:=Below w.heap.size w w'/\((∃ n,Lib.atoiAll t=.ok n/\EX n/\e=.returned (.tuple #[.int .i64 n,.nilIface]))∨((∀ n,Lib.atoiAll t≠.ok n)/\∃ n te pe,e=.returned (.tuple #[.int .i64 n,.iface te (.pointer pe)])))
theorem fN (t:ByteArray) (w:World) (he:Env w) (ht:t.size<=100000):Calls prog 232 #[.string t] w (Reads w t.data.toList):=by
 cases ha:Lib.atoiAll t.data.toList with
 | ok n =>
  refine (Tryz.strconv_Atoi_ok t (by omega) n ha w).mono ?_;rintro e w' ⟨rfl,hw⟩;refine ⟨?_,Or.inl ⟨n,ha,Lib.atoiAll_bounds ha,rfl⟩⟩;rcases hw with rfl|⟨k,rfl⟩
  ·exact start _
  ·exact Lib.bytesWorld_below _ _ _
 | range =>
  obtain ⟨ev,h1,h2⟩:=he.rng;refine (Tryz.strconv_Atoi_range t (by omega) ha ev w h1 h2).mono ?_;rintro e w' ⟨N,rfl,_,_,hb⟩;exact ⟨hb,Or.inr ⟨fun n g=>(by rw [ha] at g;cases g),_,_,_,rfl⟩⟩
 | _ =>
  obtain ⟨ev,h1,h2⟩:=he.syn;refine (Tryz.strconv_Atoi_bad t (by omega) (fun n g=>by rw [ha] at g;cases g) (fun g=>by rw [ha] at g;cases g) ev w h1 h2).mono ?_;rintro e w' ⟨N,rfl,_,_,hb⟩;exact ⟨hb,Or.inr ⟨fun n g=>(by rw [ha] at g;cases g),_,_,_,rfl⟩⟩
end Go.Proofs.YtfecnkhoojnkbaaGreatDoor
namespace Go.Proofs.YtfecnkhoojnkbaaGreatDoor
open Go.RowKit Rul Rt Go.Sort Go.Shelf Tryz
abbrev encI (a:Int):Value:=.int .i64 a
theorem oneI:OneCell encI:=fun _=>rfl
theorem A1k (x y:Int):ltOf GZ x y=AI x y:=by
 unfold ltOf GZ AI
 by_cases h1:x<y
 ·simp [h1]
 ·by_cases h2:y<x <;> simp [h1,h2]
theorem yI {α:Type} {lt:α->α->Bool} (o:Ord lt):SWO lt where
 irrefl x:=o.irr x
 trans x y z h1 h2:=o.tr x y z h1 h2
 ntrans x y z h1 h2:=by
  rw [Bool.eq_false_iff];intro h
  cases hyz:lt y z
  ·cases hzy:lt z y
   ·have:=o.tot y z hyz hzy;subst this;rw [h] at h1;cases h1
   ·have:=o.tr x z y h hzy;rw [h1] at this;cases this
  ·rw [hyz] at h2;cases h2
theorem VS {w:World} {g n cap B:Nat} {l:List Int} (h:BV w B (.slice (some ⟨g,0,none⟩) n cap) l):Holds encI w g 0 l.toArray:=by
 intro j hj;have hj':j<l.length:=by simpa using hj
 have hc:=World.ownsRow.cells h (g:=g) rfl j (.int .i64 l[j]) (by simp [GN,hj']);rw [plus] at hc;refine ⟨?_,?_⟩
 ·rw [Nat.zero_add,hc];simp [hj']
 ·rcases h.2 with ⟨h1,_⟩|⟨g',cap',cur,h1,_,hg,_⟩
  ·cases h1
  ·injection h1 with h1 _ _;injection h1 with h1;injection h1 with h1 _ _;subst h1;simp [World.frozen?,hg]
theorem SO {w:World} {g n cap B k:Nat} {l d:List Int} {os:Array Obj} (h:BV w B (.slice (some ⟨g,0,none⟩) n cap) l) (hl:d.length=l.length) :
  BV (sortWorld encI w g 0 k d.toArray os) B (.slice (some ⟨g,0,none⟩) n cap) d/\w.grownBy (sortWorld encI w g 0 k d.toArray os) (some g):=by
 rcases h.2 with ⟨h1,_⟩|⟨g',cap',cur,h1,hb,hg,hnc,hcm,hcs,htake⟩
 ·cases h1
 ·injection h1 with h1 hn hcap;injection h1 with h1;injection h1 with h1 _ _;subst h1 hn hcap;have hlt:g<w.heap.size:=(Array.getElem?_eq_some_iff.1 hg).1;have hh:(sortWorld encI w g 0 k d.toArray os).heap[g]?=some (.cells (putCells encI 0 d.toArray cur) 3 (0,0)):=by
   unfold sortWorld;rw [heap_grow_old _ _ (by simpa [putRow,mapBlock,Sort.ahead] using hlt)];simp [putRow,mapBlock,Sort.ahead,Array.getElem?_modify,hg,onCells]
  refine ⟨⟨by rw [LM,Nat.mul_one],Or.inr ⟨g,cap,_,by rw [hl],hb,hh,by rw [hl];exact hnc,hcm,by simp [putCells,hcs],?_⟩⟩,⟨rfl,rfl,rfl,?_,?_⟩⟩
  ·apply List.ext_getElem?
   intro j;rw [Nat.mul_one]
   by_cases hj:j<d.length
   ·have hjc:j<cur.size:=by rw [hcs];have:=hnc;rw [<- hl] at this;omega
    rw [List.getElem?_take_of_lt hj,Array.getElem?_toList];simp [putCells,hjc,hj,GN]
   ·rw [List.getElem?_take_eq_none (by omega),List.getElem?_eq_none (by rw [LM];omega)]
  ·unfold sortWorld;rw [size_grow];simp [putRow,mapBlock]
  ·intro j hj hne;unfold sortWorld;rw [heap_grow_old _ _ (by simpa [putRow,mapBlock,Sort.ahead] using hj)];have:g≠j:=fun e=>hne (by rw [e])
   simp [putRow,mapBlock,Sort.ahead,Array.getElem?_modify,this]
theorem fO {α:Type} [Inhabited α] {l:List α} {d:Array α} (h:PermIn 0 l.toArray.size l.toArray d):d.toList.Perm l:=by
 obtain ⟨hs,_,hp⟩:=h;have e1:d.extract 0 l.toArray.size=d:=by rw [<- hs];exact Array.extract_size
 have e2:l.toArray.extract 0 l.toArray.size=l.toArray:=Array.extract_size;rw [e1,e2] at hp;exact hp
theorem fP {α:Type} [Inhabited α] {lt:α->α->Bool} {n:Nat} {d:Array α} (hn:d.size=n) (h:SortedIn lt 0 n d):weak lt d.toList:=by
 unfold weak;rw [List.pairwise_iff_getElem];intro i j hi hj hij;have h1:=h i j (Nat.zero_le _) hij (by rw [<- hn];simpa using hj);have hi':i<d.size:=by simpa using hi
 have hj':j<d.size:=by simpa using hj
 rw [getElem!_pos d i hi',getElem!_pos d j hj'] at h1
 simpa using h1
theorem rM (B:Nat) (v:Value) (l:List Int) (w:World) (h:BV w B v l) (hn:l.length<=1000000) :
  Calls prog 292 #[v,.func (.func 190) #[] #[]] w fun e w'=>e=.returned (.tuple #[])/\BV w' B v (srt AI l)/\w.grownBy w' v.ownBlock:=by
 have h2:=h.2;rcases h2 with ⟨rfl,h0⟩|⟨g,cap,cur,rfl,hb,hg,_⟩
 ·have hl:l=[]:=List.eq_nil_of_length_eq_zero h0;subst hl;refine (Tryz.slices_SortFunc_none (α:=Int) none 0 (.func (.func 190) #[] #[]) w).mono ?_;rintro e w' ⟨he,rfl⟩;exact ⟨he,h,World.grownBy.refl _ _⟩
 ·have eg:∀ args w,(callFunc 190 args).run prog w=.ok (.enter 190 args) w:=enters_of func190 (by kernel_rfl) rfl;have hlt:ltOf GZ=AI:=funext fun x=>funext fun y=>A1k x y
  have hcon:=Tryz.slices_SortFunc encI oneI GZ (hlt▸yI ID) 190 #[] g 0 cap l.toArray w eg
   (fun m os dk _ x y=>(NF x y _).mono fun e w' ⟨he,hw⟩=>⟨he,0,#[],by rw [<- hw,grow_empty];rfl⟩) (VS h) (Array.getElem?_eq_some_iff.1 hg).1 (by simp;omega)
  refine (show Calls prog 292 _ _ _ from hcon).mono ?_;rintro e w' ⟨he,d',n,os,hp,hs,rfl⟩;rw [hlt] at hs;have hlen:d'.toList.length=l.length:=by have:=hp.1;simpa using this
  have hso:=SO (k:=n) (os:=os) h hlen;rw [Array.toArray_toList] at hso;have e2:=QS ID (fO hp) (fP hp.1 hs);rw [e2] at hso;exact ⟨he,hso.1,hso.2⟩
theorem A1l (x y:Wd):ltOf LJ x y=BO x y:=by
 have h:=Q4 x y;unfold ltOf
 cases hl:BO x y
 ·rw [hl] at h;have:0<=LJ x y:=by simpa using h
  simp;omega
 ·rw [hl] at h;have:¬ 0<=LJ x y:=by simpa using h
  simp;omega
theorem A1m (a b:Wd):(if GZ a.1 b.1≠0 then GZ a.1 b.1 else GZ a.2 b.2)=LJ a b:=by
 unfold LJ;have:=A0X a.1 b.1
 by_cases h:a.1=b.1
 ·rw [if_neg (by simpa using this.2 h),if_pos h]
 ·rw [if_pos (fun e=>h (this.1 e)),if_neg h]
theorem A1n (a b:Int) (g o:Nat) (w:World) (c0:w.cell? ⟨g,o,none⟩=some (.int .i64 a)) (c1:w.cell? ⟨g,o+1,none⟩=some (.int .i64 b)) :
  Calls prog 295 #[.slice (some ⟨g,o,none⟩) 2 2] w fun e w'=>e=.returned (.int .i64 (if a≠0 then a else b))/\w=w':=by
 by_cases ha:a=0
 ·subst ha;have q0:((0:Int) != 0)=false:=rfl
  by_cases hb:b=0
  ·subst hb;go_enter func295,ntmps295;go_wp2_with fail;refine wp_loop_rounds 3 ?_;rw [rounds_succ];go_wp2_with fail;rw [rounds_succ];go_wp2_with fail;rw [rounds_succ];go_wp2_with fail;go_ret;exact ⟨rfl,rfl⟩
  ·have q1:(b != 0)=true:=by simpa using hb
   go_enter func295,ntmps295;go_wp2_with fail;refine wp_loop_rounds 3 ?_;rw [rounds_succ];go_wp2_with fail;rw [rounds_succ];go_wp2_with fail;go_ret;exact ⟨rfl,rfl⟩
 ·have q0:(a != 0)=true:=by simpa using ha
  have HA:Hid ((if a≠0 then a else b)=a):=A5 (if_pos ha);go_enter func295,ntmps295;go_wp2_with fail;refine wp_loop_rounds 3 ?_;rw [rounds_succ];go_wp2_with fail;go_ret;exact ⟨FZ (by first|rfl|rw [HA.out]),rfl⟩
theorem A30 (a b r:Int) (hr:(if a≠0 then a else b)=r) (g o:Nat) (w:World) (c0:w.cell? ⟨g,o,none⟩=some (.int .i64 a)) (c1:w.cell? ⟨g,o+1,none⟩=some (.int .i64 b)) :
  Calls prog 295 #[.slice (some ⟨g,o,none⟩) 2 2] w fun e w'=>e=.returned (.int .i64 r)/\w=w':=by
 subst hr;exact A1n a b g o w c0 c1
theorem rN (x y u v:Int) (w:World) :
  Calls prog 279 #[.agg #[.int .i64 x,.int .i64 y],.agg #[.int .i64 u,.int .i64 v]] w fun e w'=>e=.returned (.int .i64 (LJ (x,y) (u,v)))/\∃ q os,w'=grow (w.drewN q) os:=by
 have HC:=A5 (A1m (x,y) (u,v));obtain ⟨p,hp⟩:∃ p,GZ x u=p:=⟨_,rfl⟩;obtain ⟨q,hq⟩:∃ q,GZ y v=q:=⟨_,rfl⟩;have C1:Hid (∀ w,Calls prog 190 #[.int .i64 x,.int .i64 u] w fun e w'=>e=.returned (.int .i64 p)/\w'=w):=A5 (fun w=>(hp▸NF x u w).mono fun e w' ⟨he,hw⟩=>⟨he,hw.symm⟩);have C2:Hid (∀ w,Calls prog 190 #[.int .i64 y,.int .i64 v] w fun e w'=>e=.returned (.int .i64 q)/\w'=w):=A5 (fun w=>(hq▸NF y v w).mono fun e w' ⟨he,hw⟩=>⟨he,hw.symm⟩);simp only [hp,hq] at HC;clear hp hq;generalize LJ (x,y) (u,v)=r at *;go_enter func279,ntmps279;go_wp2_with fail;have x0:((w.alloc (.cells #[.int .i64 x,.int .i64 y] 114)).alloc (.cells #[.int .i64 u,.int .i64 v] 114)).drew.cell? ⟨w.heap.size,0,none⟩=some (.int .i64 x):=by simp
 have x1:((w.alloc (.cells #[.int .i64 x,.int .i64 y] 114)).alloc (.cells #[.int .i64 u,.int .i64 v] 114)).drew.cell? ⟨w.heap.size,1,none⟩=some (.int .i64 y):=by simp
 have x2:((w.alloc (.cells #[.int .i64 x,.int .i64 y] 114)).alloc (.cells #[.int .i64 u,.int .i64 v] 114)).drew.cell? ⟨w.heap.size+1,0,none⟩=some (.int .i64 u):=by show World.cell? (World.alloc _ _) _=_;rw [World.cell?_alloc_at _ _ _ _ (by simp)];rfl
 have x3:((w.alloc (.cells #[.int .i64 x,.int .i64 y] 114)).alloc (.cells #[.int .i64 u,.int .i64 v] 114)).drew.cell? ⟨w.heap.size+1,1,none⟩=some (.int .i64 v):=by show World.cell? (World.alloc _ _) _=_;rw [World.cell?_alloc_at _ _ _ _ (by simp)];rfl
 have HV:Hid (∃ os,((w.alloc (.cells #[.int .i64 x,.int .i64 y] 114)).alloc (.cells #[.int .i64 u,.int .i64 v] 114)).drew=grow (w.drewN 1) os):=A5 ⟨_,by rw [alloc_eq_grow,alloc_eq_grow,grow_grow];rfl⟩;refine wp_region_still_tail 10 (by kernel_rfl) (by kernel_rfl) ?_;simp only [List.take_succ_cons,List.take_zero,List.drop_succ_cons,List.drop_zero]
 change wpStill _ _ ((w.alloc (.cells #[.int .i64 x,.int .i64 y] 114)).alloc (.cells #[.int .i64 u,.int .i64 v] 114)).drew (fun a'=>wpList _ _ _ _ a' ((w.alloc (.cells #[.int .i64 x,.int .i64 y] 114)).alloc (.cells #[.int .i64 u,.int .i64 v] 114)).drew) _ _
 generalize ((w.alloc (.cells #[.int .i64 x,.int .i64 y] 114)).alloc (.cells #[.int .i64 u,.int .i64 v] 114)).drew=V at *
 iterate 4 still_step
 still_call (C1.out _)
 iterate 4 still_step
 still_call (C2.out _)
 refine wpStill_nil ?_;have c0:(V.alloc (.cells #[.int .i64 p,.int .i64 q] 3)).cell? ⟨V.heap.size,0,none⟩=some (.int .i64 p):=by rw [World.cell?_alloc_at _ _ _ _ rfl];rfl
 have c1:(V.alloc (.cells #[.int .i64 p,.int .i64 q] 3)).cell? ⟨V.heap.size,0+1,none⟩=some (.int .i64 q):=by rw [World.cell?_alloc_at _ _ _ _ rfl];rfl
 go_wp2_with (go_at_call 295;with_reducible refine (A30 p q _ HC.out _ 0 _ c0 c1).mono ?_;rintro e w2 ⟨rfl,rfl⟩);go_ret;obtain ⟨os,hos⟩:=HV.out;exact ⟨rfl,1,_,by rw [hos,alloc_eq_grow,grow_grow]⟩
def Q8 (a:Wd):List Value:=[.int .i64 a.1,.int .i64 a.2]
theorem Y7 (l:List Wd) (t:Nat) (h:t<l.length*2):(FC l)[t]?=some (Q8 l.toArray[t / 2]!)[t % 2]!:=by
 have hi:t / 2<l.length:=by omega
 obtain ⟨c1,c2⟩:=LP l (t / 2) hi;have ei:l.toArray[t / 2]! =l[t / 2]:=by simp [hi]
 rw [ei];rcases (by omega:t % 2=0∨t % 2=1) with h2|h2
 ·rw [show t / 2*2=t by omega] at c1;rw [h2,c1];simp [Q8]
 ·rw [show t / 2*2+1=t by omega] at c2;rw [h2,c2];simp [Q8]
theorem fQ (l:List Wd):(flatK Q8 2 l.toArray).toList=FC l:=by
 apply List.ext_getElem?
 intro t
 by_cases h:t<l.length*2
 ·rw [Y7 l t h,Array.getElem?_toList];have h':t<l.toArray.size*2:=by simpa using h
  have e:=get_flatK Q8 2 l.toArray t h';have hs:t<(flatK Q8 2 l.toArray).size:=by rw [size_flatK];exact h'
  rw [<- e,Array.getElem?_eq_getElem hs,getElem!_pos _ t hs]
 ·rw [List.getElem?_eq_none (l:=FC l) (by rw [JO];omega),List.getElem?_eq_none (by rw [Array.length_toList,size_flatK,List.size_toArray];omega)]
theorem jY {w:World} {g n cap B:Nat} {l:List Wd} (h:DO w B (.slice (some ⟨g,0,none⟩) n cap) l):HoldsK Q8 2 w g 0 l.toArray:=by
 intro j hj;have hj':j<l.length*2:=by simpa using hj
 have hc:=World.ownsRow.cells h (g:=g) rfl j _ (Y7 l j hj');rw [plus] at hc;refine ⟨?_,?_⟩
 ·rw [Nat.zero_add,hc,get_flatK Q8 2 l.toArray j (by simpa using hj')];rfl
 ·rcases h.2 with ⟨h1,_⟩|⟨g',cap',cur,h1,_,hg,_⟩
  ·cases h1
  ·injection h1 with h1 _ _;injection h1 with h1;injection h1 with h1 _ _;subst h1;simp [World.frozen?,hg]
theorem fS {w:World} {g n cap B k:Nat} {l d:List Wd} {os:Array Obj} (h:DO w B (.slice (some ⟨g,0,none⟩) n cap) l) (hl:d.length=l.length) :
  DO (sortWorldK Q8 2 w g 0 k d.toArray os) B (.slice (some ⟨g,0,none⟩) n cap) d/\w.grownBy (sortWorldK Q8 2 w g 0 k d.toArray os) (some g):=by
 rcases h.2 with ⟨h1,_⟩|⟨g',cap',cur,h1,hb,hg,hnc,hcm,hcs,htake⟩
 ·cases h1
 ·injection h1 with h1 hn hcap;injection h1 with h1;injection h1 with h1 _ _;subst h1 hn hcap;have hlt:g<w.heap.size:=(Array.getElem?_eq_some_iff.1 hg).1;have hh:(sortWorldK Q8 2 w g 0 k d.toArray os).heap[g]?=some (.cells (putCells id 0 (flatK Q8 2 d.toArray) cur) 114 (0,0)):=by
   unfold sortWorldK;rw [heap_grow_old _ _ (by simpa [putRowK] using hlt)];simp [putRowK,putRow,mapBlock,Sort.ahead,Array.getElem?_modify,hg,onCells]
  refine ⟨⟨JO d,Or.inr ⟨g,cap,_,by rw [hl],hb,hh,by rw [hl];exact hnc,hcm,by simp [putCells,hcs],?_⟩⟩,⟨rfl,rfl,rfl,?_,?_⟩⟩
  ·rw [<- fQ d]
   apply List.ext_getElem?
   intro j
   by_cases hj:j<d.length*2
   ·have hjc:j<cur.size:=by rw [hcs];have:=hnc;rw [<- hl] at this;omega
    rw [List.getElem?_take_of_lt hj,Array.getElem?_toList,Array.getElem?_toList];simp [putCells,hjc,hj]
   ·rw [List.getElem?_take_eq_none (by omega),List.getElem?_eq_none (by simp;omega)]
  ·unfold sortWorldK;rw [size_grow];simp [putRowK]
  ·intro j hj hne;unfold sortWorldK;rw [heap_grow_old _ _ (by simpa [putRowK] using hj)];have:g≠j:=fun e=>hne (by rw [e])
   simp [putRowK,putRow,mapBlock,Sort.ahead,Array.getElem?_modify,this]
theorem rO (B:Nat) (v:Value) (l:List Wd) (w:World) (h:DO w B v l) (hn:l.length<=1000000) :
  Calls prog 293 #[v,.func (.func 279) #[] #[]] w fun e w'=>e=.returned (.tuple #[])/\DO w' B v (srt BO l)/\w.grownBy w' v.ownBlock:=by
 have h2:=h.2;rcases h2 with ⟨rfl,h0⟩|⟨g,cap,cur,rfl,hb,hg,_⟩
 ·have hl:l=[]:=List.eq_nil_of_length_eq_zero h0;subst hl;refine (AnyF.slices_SortFunc_none { Tryz.sort2 with } none 0 (.func (.func 279) #[] #[]) w).mono ?_;rintro e w' ⟨he,rfl⟩;exact ⟨he,h,World.grownBy.refl _ _⟩
 ·have eg:∀ args w,(callFunc 279 args).run prog w=.ok (.enter 279 args) w:=enters_of func279 (by kernel_rfl) rfl;have hlt:ltOf LJ=BO:=funext fun x=>funext fun y=>A1l x y
  have hcon:=AnyQ.slices_SortFunc Tryz.sort2 2 isAgg114 sizeOf114 Q8 (fun _=>rfl) (fun x v hv=>by simp [Q8] at hv;rcases hv with rfl|rfl <;> rfl) LJ (hlt▸yI UD) 279 #[] g 0 cap l.toArray w eg
   (fun m os dk _ x y=>rN x.1 x.2 y.1 y.2 _) (jY h) (Array.getElem?_eq_some_iff.1 hg).1 (by simp;omega)
  refine (show Calls prog 293 _ _ _ from hcon).mono ?_;rintro e w' ⟨he,d',n,os,hp,hs,rfl⟩;rw [hlt] at hs;have hlen:d'.toList.length=l.length:=by have:=hp.1;simpa using this
  have hso:=fS (k:=n) (os:=os) h hlen;rw [Array.toArray_toList] at hso;have e2:=QS UD (fO hp) (fP hp.1 hs);rw [e2] at hso;exact ⟨he,hso.1,hso.2⟩
end Go.Proofs.YtfecnkhoojnkbaaGreatDoor

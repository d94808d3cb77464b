import Derived.Test.YtfecnkhoojnkbaaGreatDoorXC1
namespace Go.Proofs.YtfecnkhoojnkbaaGreatDoor
open Go.RowKit Rul Rt Go.Sort Tryz
theorem bR:([(Ev.AP,Ev.wEV),(Ev.ER,AN.uid),(Ev.BR,AZ AN.st),(Ev.CQ,Ev.wPT++Lib.itoa AN.lg++[77]),(Ev.DG,([]:Tx)),(Ev.nEX,AR AZ AN.ex),(Ev.BP,AR Lib.itoa AN.rooms),(Ev.DH,Fo.DV AN.text),(Ev.DD,Ev.wEV)].all fun p=>decide (p.1.length<=1000/\p.2.length<=90000))=true:=by decide +kernel
theorem QH (m:Mem) (w:World) (h:EvL w AN m) (ht:Tab w) (L:List Tx) (hL:Ev.BL unU AN=L) :
  Calls prog 31 #[evV AN m] w fun x w'=>∃ A c,x=.returned (.slice A L.length c)/\BU w' A L/\Below w.heap.size w w':=by
 subst hL;have hlg:EX AN.lg:=by unfold EX;decide
 have hro:∀ x∈AN.rooms,EX x:=fun x hx=>by
  have:x=3:=by simpa [AN] using hx
  subst this;unfold EX;decide
 have hesc:=fun w=>kH (str AN.text) w (by rw [AB];decide)
 rw [AD] at hesc;have key:Calls prog 31 #[evV AN m] w (K6 w (Ev.BL unU AN)):=by
  refine iG AN m w h ht TU (str AN.text) AN.st AN.lg AN.r.fr AN.r.ev AN.r.ct AN.r.un m.O m.D m.M m.Y m.X m.oc m.dc m.mc m.yc m.xc AN.rooms AN.r.ms AN.r.ys AN.ex AN.r.ds AN.uid (AZ AN.st) (Lib.itoa AN.lg) [] (AR AZ AN.ex) (AR Lib.itoa AN.rooms) (Fo.DV AN.text) (Ev.BL unU AN) rfl
   (fun w ht=>eH AN.st w ht) (fun w ht=>KS AN.lg w hlg ht) (fun w h ht=>kC AN.r.fr AN.r.ev AN.r.ct AN.r.un m.D m.M m.Y _ m.dc _ m.mc _ m.yc AN.r.ds AN.r.ms AN.r.ys w h.r ht (by decide) (by decide))
   (fun w h ht=>jJ m.X _ m.xc AN.ex w h.x rfl (by decide) ht) (fun w h ht=>jI m.O _ m.oc AN.rooms w h.o rfl (by decide) hro ht) hesc (by decide +kernel) ?_ ?_
  ·rintro T3 rfl p hp;have:=bR;exact of_decide_eq_true (List.all_eq_true.1 this p hp)
  ·rintro T3 rfl;unfold Ev.BL;rw [if_pos TU];have h0:DU unU AN.r=[]:=by decide +kernel
   unfold Ev.items;rw [h0];rfl
 refine key.mono ?_;rintro _ w' ⟨v,rfl,hown,hb⟩;obtain ⟨A,cap,rfl,hr,_⟩:=BY.row hown;exact ⟨A,cap,rfl,hr,hb⟩
end Go.Proofs.YtfecnkhoojnkbaaGreatDoor

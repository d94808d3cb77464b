/- ClaimOf. Written by recipes/cl7.py. -/
import Derived.Test.YtgihekokbgggcaaGreatZClQ
set_option maxHeartbeats 8000000
set_option maxRecDepth 1000000
namespace Go.Proofs.YtgihekokbgggcaaGreat.S2
open Go.RowKit Spn Cl
theorem data_strC (U : ByteArray) : str U.data.toList = U:=by
 unfold str; cases U; simp
theorem ofC_len (e : Ev.E) : (ofC e).1.length <= 2000:=by
 unfold ofC
 split
 ·simp
 ·split
  ·simp
  ·split
   ·simp
   ·rename_i h1 h2 h3
    have hi : Ev.isE e = true:=by simpa using h1
    have h4:=(is_rooms hi).2.2
    have h5:=(Rul.spansE_times e.r e.st e.lg e.ex (by simpa using h2)).len
    refine Nat.le_trans (neatC_len _) ?_
    rw [eachL_len]
    have : e.rooms.length * (Rul.spansE e.r e.st e.lg e.ex).1.length <= 4 * 41:=Nat.mul_le_mul h4 h5
    omega
theorem of12_few (U T : ByteArray) (s l : Int) (O : Option Addr) (on oc : Nat) (fr ev ct un : Int) (D M Y X : Option Addr) (dn dc mn mc yn yc xn xc : Nat) (w : World) (hf : fewEB dn mn yn U.size T.size on xn = false) :
  Calls Tryz.prog 4 #[.agg #[.string U,.string T,.int .i64 s,.int .i64 l,.slice O on oc,.int .i64 fr,.int .i64 ev,.int .i64 ct,.int .i64 un,.slice D dn dc,.slice M mn mc,.slice Y yn yc,.slice X xn xc]] w fun e w' => e = .returned (.bool true) /\ Below w.heap.size w w':=by
 have HF:=hide hf
 have HBX:=hide (more (start w) (.cells #[.string U,.string T,.int .i64 s,.int .i64 l,.slice O on oc,.int .i64 fr,.int .i64 ev,.int .i64 ct,.int .i64 un,.slice D dn dc,.slice M mn mc,.slice Y yn yc,.slice X xn xc] 41))
 have a0 : (w.alloc (.cells #[.string U,.string T,.int .i64 s,.int .i64 l,.slice O on oc,.int .i64 fr,.int .i64 ev,.int .i64 ct,.int .i64 un,.slice D dn dc,.slice M mn mc,.slice Y yn yc,.slice X xn xc] 41)).cell? ⟨w.heap.size,0,none⟩ = some (.string U):=cell_new w #[.string U,.string T,.int .i64 s,.int .i64 l,.slice O on oc,.int .i64 fr,.int .i64 ev,.int .i64 ct,.int .i64 un,.slice D dn dc,.slice M mn mc,.slice Y yn yc,.slice X xn xc] 41 0 _ rfl
 have a1 : (w.alloc (.cells #[.string U,.string T,.int .i64 s,.int .i64 l,.slice O on oc,.int .i64 fr,.int .i64 ev,.int .i64 ct,.int .i64 un,.slice D dn dc,.slice M mn mc,.slice Y yn yc,.slice X xn xc] 41)).cell? ⟨w.heap.size,1,none⟩ = some (.string T):=cell_new w #[.string U,.string T,.int .i64 s,.int .i64 l,.slice O on oc,.int .i64 fr,.int .i64 ev,.int .i64 ct,.int .i64 un,.slice D dn dc,.slice M mn mc,.slice Y yn yc,.slice X xn xc] 41 1 _ rfl
 have a2 : (w.alloc (.cells #[.string U,.string T,.int .i64 s,.int .i64 l,.slice O on oc,.int .i64 fr,.int .i64 ev,.int .i64 ct,.int .i64 un,.slice D dn dc,.slice M mn mc,.slice Y yn yc,.slice X xn xc] 41)).cell? ⟨w.heap.size,2,none⟩ = some (.int .i64 s):=cell_new w #[.string U,.string T,.int .i64 s,.int .i64 l,.slice O on oc,.int .i64 fr,.int .i64 ev,.int .i64 ct,.int .i64 un,.slice D dn dc,.slice M mn mc,.slice Y yn yc,.slice X xn xc] 41 2 _ rfl
 have a3 : (w.alloc (.cells #[.string U,.string T,.int .i64 s,.int .i64 l,.slice O on oc,.int .i64 fr,.int .i64 ev,.int .i64 ct,.int .i64 un,.slice D dn dc,.slice M mn mc,.slice Y yn yc,.slice X xn xc] 41)).cell? ⟨w.heap.size,3,none⟩ = some (.int .i64 l):=cell_new w #[.string U,.string T,.int .i64 s,.int .i64 l,.slice O on oc,.int .i64 fr,.int .i64 ev,.int .i64 ct,.int .i64 un,.slice D dn dc,.slice M mn mc,.slice Y yn yc,.slice X xn xc] 41 3 _ rfl
 have a4 : (w.alloc (.cells #[.string U,.string T,.int .i64 s,.int .i64 l,.slice O on oc,.int .i64 fr,.int .i64 ev,.int .i64 ct,.int .i64 un,.slice D dn dc,.slice M mn mc,.slice Y yn yc,.slice X xn xc] 41)).cell? ⟨w.heap.size,4,none⟩ = some (.slice O on oc):=cell_new w #[.string U,.string T,.int .i64 s,.int .i64 l,.slice O on oc,.int .i64 fr,.int .i64 ev,.int .i64 ct,.int .i64 un,.slice D dn dc,.slice M mn mc,.slice Y yn yc,.slice X xn xc] 41 4 _ rfl
 have a5 : (w.alloc (.cells #[.string U,.string T,.int .i64 s,.int .i64 l,.slice O on oc,.int .i64 fr,.int .i64 ev,.int .i64 ct,.int .i64 un,.slice D dn dc,.slice M mn mc,.slice Y yn yc,.slice X xn xc] 41)).cell? ⟨w.heap.size,5,none⟩ = some (.int .i64 fr):=cell_new w #[.string U,.string T,.int .i64 s,.int .i64 l,.slice O on oc,.int .i64 fr,.int .i64 ev,.int .i64 ct,.int .i64 un,.slice D dn dc,.slice M mn mc,.slice Y yn yc,.slice X xn xc] 41 5 _ rfl
 have a6 : (w.alloc (.cells #[.string U,.string T,.int .i64 s,.int .i64 l,.slice O on oc,.int .i64 fr,.int .i64 ev,.int .i64 ct,.int .i64 un,.slice D dn dc,.slice M mn mc,.slice Y yn yc,.slice X xn xc] 41)).cell? ⟨w.heap.size,6,none⟩ = some (.int .i64 ev):=cell_new w #[.string U,.string T,.int .i64 s,.int .i64 l,.slice O on oc,.int .i64 fr,.int .i64 ev,.int .i64 ct,.int .i64 un,.slice D dn dc,.slice M mn mc,.slice Y yn yc,.slice X xn xc] 41 6 _ rfl
 have a7 : (w.alloc (.cells #[.string U,.string T,.int .i64 s,.int .i64 l,.slice O on oc,.int .i64 fr,.int .i64 ev,.int .i64 ct,.int .i64 un,.slice D dn dc,.slice M mn mc,.slice Y yn yc,.slice X xn xc] 41)).cell? ⟨w.heap.size,7,none⟩ = some (.int .i64 ct):=cell_new w #[.string U,.string T,.int .i64 s,.int .i64 l,.slice O on oc,.int .i64 fr,.int .i64 ev,.int .i64 ct,.int .i64 un,.slice D dn dc,.slice M mn mc,.slice Y yn yc,.slice X xn xc] 41 7 _ rfl
 have a8 : (w.alloc (.cells #[.string U,.string T,.int .i64 s,.int .i64 l,.slice O on oc,.int .i64 fr,.int .i64 ev,.int .i64 ct,.int .i64 un,.slice D dn dc,.slice M mn mc,.slice Y yn yc,.slice X xn xc] 41)).cell? ⟨w.heap.size,8,none⟩ = some (.int .i64 un):=cell_new w #[.string U,.string T,.int .i64 s,.int .i64 l,.slice O on oc,.int .i64 fr,.int .i64 ev,.int .i64 ct,.int .i64 un,.slice D dn dc,.slice M mn mc,.slice Y yn yc,.slice X xn xc] 41 8 _ rfl
 have a9 : (w.alloc (.cells #[.string U,.string T,.int .i64 s,.int .i64 l,.slice O on oc,.int .i64 fr,.int .i64 ev,.int .i64 ct,.int .i64 un,.slice D dn dc,.slice M mn mc,.slice Y yn yc,.slice X xn xc] 41)).cell? ⟨w.heap.size,9,none⟩ = some (.slice D dn dc):=cell_new w #[.string U,.string T,.int .i64 s,.int .i64 l,.slice O on oc,.int .i64 fr,.int .i64 ev,.int .i64 ct,.int .i64 un,.slice D dn dc,.slice M mn mc,.slice Y yn yc,.slice X xn xc] 41 9 _ rfl
 have a10 : (w.alloc (.cells #[.string U,.string T,.int .i64 s,.int .i64 l,.slice O on oc,.int .i64 fr,.int .i64 ev,.int .i64 ct,.int .i64 un,.slice D dn dc,.slice M mn mc,.slice Y yn yc,.slice X xn xc] 41)).cell? ⟨w.heap.size,10,none⟩ = some (.slice M mn mc):=cell_new w #[.string U,.string T,.int .i64 s,.int .i64 l,.slice O on oc,.int .i64 fr,.int .i64 ev,.int .i64 ct,.int .i64 un,.slice D dn dc,.slice M mn mc,.slice Y yn yc,.slice X xn xc] 41 10 _ rfl
 have a11 : (w.alloc (.cells #[.string U,.string T,.int .i64 s,.int .i64 l,.slice O on oc,.int .i64 fr,.int .i64 ev,.int .i64 ct,.int .i64 un,.slice D dn dc,.slice M mn mc,.slice Y yn yc,.slice X xn xc] 41)).cell? ⟨w.heap.size,11,none⟩ = some (.slice Y yn yc):=cell_new w #[.string U,.string T,.int .i64 s,.int .i64 l,.slice O on oc,.int .i64 fr,.int .i64 ev,.int .i64 ct,.int .i64 un,.slice D dn dc,.slice M mn mc,.slice Y yn yc,.slice X xn xc] 41 11 _ rfl
 have a12 : (w.alloc (.cells #[.string U,.string T,.int .i64 s,.int .i64 l,.slice O on oc,.int .i64 fr,.int .i64 ev,.int .i64 ct,.int .i64 un,.slice D dn dc,.slice M mn mc,.slice Y yn yc,.slice X xn xc] 41)).cell? ⟨w.heap.size,12,none⟩ = some (.slice X xn xc):=cell_new w #[.string U,.string T,.int .i64 s,.int .i64 l,.slice O on oc,.int .i64 fr,.int .i64 ev,.int .i64 ct,.int .i64 un,.slice D dn dc,.slice M mn mc,.slice Y yn yc,.slice X xn xc] 41 12 _ rfl
 clear hf
 go_enter Tryz.func4,Tryz.ntmps4
 go_wp2_with fail
 generalize w.alloc (.cells #[.string U,.string T,.int .i64 s,.int .i64 l,.slice O on oc,.int .i64 fr,.int .i64 ev,.int .i64 ct,.int .i64 un,.slice D dn dc,.slice M mn mc,.slice Y yn yc,.slice X xn xc] 41) = W at *
 refine (known_any _).mono ?_
 rintro _ w1 ⟨rfl,hb⟩
 replace HBX:=hide (andthen HBX.out hb)
 replace a0:=cell_keep hb a0
 replace a1:=cell_keep hb a1
 replace a2:=cell_keep hb a2
 replace a3:=cell_keep hb a3
 replace a4:=cell_keep hb a4
 replace a5:=cell_keep hb a5
 replace a6:=cell_keep hb a6
 replace a7:=cell_keep hb a7
 replace a8:=cell_keep hb a8
 replace a9:=cell_keep hb a9
 replace a10:=cell_keep hb a10
 replace a11:=cell_keep hb a11
 replace a12:=cell_keep hb a12
 clear hb
 go_wp2_with fail
 refine (Go.Proofs.YtgihekokbgggcaaGreat.ans_is (fewE_any U T s l O on oc fr ev ct un D M Y X dn dc mn mc yn yc xn xc _) HF.out).mono ?_
 rintro _ w2 ⟨rfl,hb⟩
 replace HBX:=hide (andthen HBX.out hb)
 clear hb a0 a1 a2 a3 a4 a5 a6 a7 a8 a9 a10 a11 a12
 go_wp2_with fail
 go_ret
 exact ⟨rfl,HBX.out⟩
theorem of12_yes (e : Ev.E) (m : Mem) (w : World) (h : EvL w e m) (hf : fewEB e.r.ds.length e.r.ms.length e.r.ys.length (str e.uid).size (str e.text).size e.rooms.length e.ex.length = true) :
  Calls Tryz.prog 4 #[evV e m] w fun e w' => e = .returned (.bool true) /\ Below w.heap.size w w':=by
 have HF:=hide hf
 have HBX:=hide (more (start w) (.cells #[.string (str e.uid),.string (str e.text),.int .i64 e.st,.int .i64 e.lg,.slice m.O e.rooms.length m.oc,.int .i64 e.r.fr,.int .i64 e.r.ev,.int .i64 e.r.ct,.int .i64 e.r.un,.slice m.D e.r.ds.length m.dc,.slice m.M e.r.ms.length m.mc,.slice m.Y e.r.ys.length m.yc,.slice m.X e.ex.length m.xc] 41))
 have HL:=hide (h.keep HBX.out)
 have a0 : (w.alloc (.cells #[.string (str e.uid),.string (str e.text),.int .i64 e.st,.int .i64 e.lg,.slice m.O e.rooms.length m.oc,.int .i64 e.r.fr,.int .i64 e.r.ev,.int .i64 e.r.ct,.int .i64 e.r.un,.slice m.D e.r.ds.length m.dc,.slice m.M e.r.ms.length m.mc,.slice m.Y e.r.ys.length m.yc,.slice m.X e.ex.length m.xc] 41)).cell? ⟨w.heap.size,0,none⟩ = some (.string (str e.uid)):=cell_new w #[.string (str e.uid),.string (str e.text),.int .i64 e.st,.int .i64 e.lg,.slice m.O e.rooms.length m.oc,.int .i64 e.r.fr,.int .i64 e.r.ev,.int .i64 e.r.ct,.int .i64 e.r.un,.slice m.D e.r.ds.length m.dc,.slice m.M e.r.ms.length m.mc,.slice m.Y e.r.ys.length m.yc,.slice m.X e.ex.length m.xc] 41 0 _ rfl
 have a1 : (w.alloc (.cells #[.string (str e.uid),.string (str e.text),.int .i64 e.st,.int .i64 e.lg,.slice m.O e.rooms.length m.oc,.int .i64 e.r.fr,.int .i64 e.r.ev,.int .i64 e.r.ct,.int .i64 e.r.un,.slice m.D e.r.ds.length m.dc,.slice m.M e.r.ms.length m.mc,.slice m.Y e.r.ys.length m.yc,.slice m.X e.ex.length m.xc] 41)).cell? ⟨w.heap.size,1,none⟩ = some (.string (str e.text)):=cell_new w #[.string (str e.uid),.string (str e.text),.int .i64 e.st,.int .i64 e.lg,.slice m.O e.rooms.length m.oc,.int .i64 e.r.fr,.int .i64 e.r.ev,.int .i64 e.r.ct,.int .i64 e.r.un,.slice m.D e.r.ds.length m.dc,.slice m.M e.r.ms.length m.mc,.slice m.Y e.r.ys.length m.yc,.slice m.X e.ex.length m.xc] 41 1 _ rfl
 have a2 : (w.alloc (.cells #[.string (str e.uid),.string (str e.text),.int .i64 e.st,.int .i64 e.lg,.slice m.O e.rooms.length m.oc,.int .i64 e.r.fr,.int .i64 e.r.ev,.int .i64 e.r.ct,.int .i64 e.r.un,.slice m.D e.r.ds.length m.dc,.slice m.M e.r.ms.length m.mc,.slice m.Y e.r.ys.length m.yc,.slice m.X e.ex.length m.xc] 41)).cell? ⟨w.heap.size,2,none⟩ = some (.int .i64 e.st):=cell_new w #[.string (str e.uid),.string (str e.text),.int .i64 e.st,.int .i64 e.lg,.slice m.O e.rooms.length m.oc,.int .i64 e.r.fr,.int .i64 e.r.ev,.int .i64 e.r.ct,.int .i64 e.r.un,.slice m.D e.r.ds.length m.dc,.slice m.M e.r.ms.length m.mc,.slice m.Y e.r.ys.length m.yc,.slice m.X e.ex.length m.xc] 41 2 _ rfl
 have a3 : (w.alloc (.cells #[.string (str e.uid),.string (str e.text),.int .i64 e.st,.int .i64 e.lg,.slice m.O e.rooms.length m.oc,.int .i64 e.r.fr,.int .i64 e.r.ev,.int .i64 e.r.ct,.int .i64 e.r.un,.slice m.D e.r.ds.length m.dc,.slice m.M e.r.ms.length m.mc,.slice m.Y e.r.ys.length m.yc,.slice m.X e.ex.length m.xc] 41)).cell? ⟨w.heap.size,3,none⟩ = some (.int .i64 e.lg):=cell_new w #[.string (str e.uid),.string (str e.text),.int .i64 e.st,.int .i64 e.lg,.slice m.O e.rooms.length m.oc,.int .i64 e.r.fr,.int .i64 e.r.ev,.int .i64 e.r.ct,.int .i64 e.r.un,.slice m.D e.r.ds.length m.dc,.slice m.M e.r.ms.length m.mc,.slice m.Y e.r.ys.length m.yc,.slice m.X e.ex.length m.xc] 41 3 _ rfl
 have a4 : (w.alloc (.cells #[.string (str e.uid),.string (str e.text),.int .i64 e.st,.int .i64 e.lg,.slice m.O e.rooms.length m.oc,.int .i64 e.r.fr,.int .i64 e.r.ev,.int .i64 e.r.ct,.int .i64 e.r.un,.slice m.D e.r.ds.length m.dc,.slice m.M e.r.ms.length m.mc,.slice m.Y e.r.ys.length m.yc,.slice m.X e.ex.length m.xc] 41)).cell? ⟨w.heap.size,4,none⟩ = some (.slice m.O e.rooms.length m.oc):=cell_new w #[.string (str e.uid),.string (str e.text),.int .i64 e.st,.int .i64 e.lg,.slice m.O e.rooms.length m.oc,.int .i64 e.r.fr,.int .i64 e.r.ev,.int .i64 e.r.ct,.int .i64 e.r.un,.slice m.D e.r.ds.length m.dc,.slice m.M e.r.ms.length m.mc,.slice m.Y e.r.ys.length m.yc,.slice m.X e.ex.length m.xc] 41 4 _ rfl
 have a5 : (w.alloc (.cells #[.string (str e.uid),.string (str e.text),.int .i64 e.st,.int .i64 e.lg,.slice m.O e.rooms.length m.oc,.int .i64 e.r.fr,.int .i64 e.r.ev,.int .i64 e.r.ct,.int .i64 e.r.un,.slice m.D e.r.ds.length m.dc,.slice m.M e.r.ms.length m.mc,.slice m.Y e.r.ys.length m.yc,.slice m.X e.ex.length m.xc] 41)).cell? ⟨w.heap.size,5,none⟩ = some (.int .i64 e.r.fr):=cell_new w #[.string (str e.uid),.string (str e.text),.int .i64 e.st,.int .i64 e.lg,.slice m.O e.rooms.length m.oc,.int .i64 e.r.fr,.int .i64 e.r.ev,.int .i64 e.r.ct,.int .i64 e.r.un,.slice m.D e.r.ds.length m.dc,.slice m.M e.r.ms.length m.mc,.slice m.Y e.r.ys.length m.yc,.slice m.X e.ex.length m.xc] 41 5 _ rfl
 have a6 : (w.alloc (.cells #[.string (str e.uid),.string (str e.text),.int .i64 e.st,.int .i64 e.lg,.slice m.O e.rooms.length m.oc,.int .i64 e.r.fr,.int .i64 e.r.ev,.int .i64 e.r.ct,.int .i64 e.r.un,.slice m.D e.r.ds.length m.dc,.slice m.M e.r.ms.length m.mc,.slice m.Y e.r.ys.length m.yc,.slice m.X e.ex.length m.xc] 41)).cell? ⟨w.heap.size,6,none⟩ = some (.int .i64 e.r.ev):=cell_new w #[.string (str e.uid),.string (str e.text),.int .i64 e.st,.int .i64 e.lg,.slice m.O e.rooms.length m.oc,.int .i64 e.r.fr,.int .i64 e.r.ev,.int .i64 e.r.ct,.int .i64 e.r.un,.slice m.D e.r.ds.length m.dc,.slice m.M e.r.ms.length m.mc,.slice m.Y e.r.ys.length m.yc,.slice m.X e.ex.length m.xc] 41 6 _ rfl
 have a7 : (w.alloc (.cells #[.string (str e.uid),.string (str e.text),.int .i64 e.st,.int .i64 e.lg,.slice m.O e.rooms.length m.oc,.int .i64 e.r.fr,.int .i64 e.r.ev,.int .i64 e.r.ct,.int .i64 e.r.un,.slice m.D e.r.ds.length m.dc,.slice m.M e.r.ms.length m.mc,.slice m.Y e.r.ys.length m.yc,.slice m.X e.ex.length m.xc] 41)).cell? ⟨w.heap.size,7,none⟩ = some (.int .i64 e.r.ct):=cell_new w #[.string (str e.uid),.string (str e.text),.int .i64 e.st,.int .i64 e.lg,.slice m.O e.rooms.length m.oc,.int .i64 e.r.fr,.int .i64 e.r.ev,.int .i64 e.r.ct,.int .i64 e.r.un,.slice m.D e.r.ds.length m.dc,.slice m.M e.r.ms.length m.mc,.slice m.Y e.r.ys.length m.yc,.slice m.X e.ex.length m.xc] 41 7 _ rfl
 have a8 : (w.alloc (.cells #[.string (str e.uid),.string (str e.text),.int .i64 e.st,.int .i64 e.lg,.slice m.O e.rooms.length m.oc,.int .i64 e.r.fr,.int .i64 e.r.ev,.int .i64 e.r.ct,.int .i64 e.r.un,.slice m.D e.r.ds.length m.dc,.slice m.M e.r.ms.length m.mc,.slice m.Y e.r.ys.length m.yc,.slice m.X e.ex.length m.xc] 41)).cell? ⟨w.heap.size,8,none⟩ = some (.int .i64 e.r.un):=cell_new w #[.string (str e.uid),.string (str e.text),.int .i64 e.st,.int .i64 e.lg,.slice m.O e.rooms.length m.oc,.int .i64 e.r.fr,.int .i64 e.r.ev,.int .i64 e.r.ct,.int .i64 e.r.un,.slice m.D e.r.ds.length m.dc,.slice m.M e.r.ms.length m.mc,.slice m.Y e.r.ys.length m.yc,.slice m.X e.ex.length m.xc] 41 8 _ rfl
 have a9 : (w.alloc (.cells #[.string (str e.uid),.string (str e.text),.int .i64 e.st,.int .i64 e.lg,.slice m.O e.rooms.length m.oc,.int .i64 e.r.fr,.int .i64 e.r.ev,.int .i64 e.r.ct,.int .i64 e.r.un,.slice m.D e.r.ds.length m.dc,.slice m.M e.r.ms.length m.mc,.slice m.Y e.r.ys.length m.yc,.slice m.X e.ex.length m.xc] 41)).cell? ⟨w.heap.size,9,none⟩ = some (.slice m.D e.r.ds.length m.dc):=cell_new w #[.string (str e.uid),.string (str e.text),.int .i64 e.st,.int .i64 e.lg,.slice m.O e.rooms.length m.oc,.int .i64 e.r.fr,.int .i64 e.r.ev,.int .i64 e.r.ct,.int .i64 e.r.un,.slice m.D e.r.ds.length m.dc,.slice m.M e.r.ms.length m.mc,.slice m.Y e.r.ys.length m.yc,.slice m.X e.ex.length m.xc] 41 9 _ rfl
 have a10 : (w.alloc (.cells #[.string (str e.uid),.string (str e.text),.int .i64 e.st,.int .i64 e.lg,.slice m.O e.rooms.length m.oc,.int .i64 e.r.fr,.int .i64 e.r.ev,.int .i64 e.r.ct,.int .i64 e.r.un,.slice m.D e.r.ds.length m.dc,.slice m.M e.r.ms.length m.mc,.slice m.Y e.r.ys.length m.yc,.slice m.X e.ex.length m.xc] 41)).cell? ⟨w.heap.size,10,none⟩ = some (.slice m.M e.r.ms.length m.mc):=cell_new w #[.string (str e.uid),.string (str e.text),.int .i64 e.st,.int .i64 e.lg,.slice m.O e.rooms.length m.oc,.int .i64 e.r.fr,.int .i64 e.r.ev,.int .i64 e.r.ct,.int .i64 e.r.un,.slice m.D e.r.ds.length m.dc,.slice m.M e.r.ms.length m.mc,.slice m.Y e.r.ys.length m.yc,.slice m.X e.ex.length m.xc] 41 10 _ rfl
 have a11 : (w.alloc (.cells #[.string (str e.uid),.string (str e.text),.int .i64 e.st,.int .i64 e.lg,.slice m.O e.rooms.length m.oc,.int .i64 e.r.fr,.int .i64 e.r.ev,.int .i64 e.r.ct,.int .i64 e.r.un,.slice m.D e.r.ds.length m.dc,.slice m.M e.r.ms.length m.mc,.slice m.Y e.r.ys.length m.yc,.slice m.X e.ex.length m.xc] 41)).cell? ⟨w.heap.size,11,none⟩ = some (.slice m.Y e.r.ys.length m.yc):=cell_new w #[.string (str e.uid),.string (str e.text),.int .i64 e.st,.int .i64 e.lg,.slice m.O e.rooms.length m.oc,.int .i64 e.r.fr,.int .i64 e.r.ev,.int .i64 e.r.ct,.int .i64 e.r.un,.slice m.D e.r.ds.length m.dc,.slice m.M e.r.ms.length m.mc,.slice m.Y e.r.ys.length m.yc,.slice m.X e.ex.length m.xc] 41 11 _ rfl
 have a12 : (w.alloc (.cells #[.string (str e.uid),.string (str e.text),.int .i64 e.st,.int .i64 e.lg,.slice m.O e.rooms.length m.oc,.int .i64 e.r.fr,.int .i64 e.r.ev,.int .i64 e.r.ct,.int .i64 e.r.un,.slice m.D e.r.ds.length m.dc,.slice m.M e.r.ms.length m.mc,.slice m.Y e.r.ys.length m.yc,.slice m.X e.ex.length m.xc] 41)).cell? ⟨w.heap.size,12,none⟩ = some (.slice m.X e.ex.length m.xc):=cell_new w #[.string (str e.uid),.string (str e.text),.int .i64 e.st,.int .i64 e.lg,.slice m.O e.rooms.length m.oc,.int .i64 e.r.fr,.int .i64 e.r.ev,.int .i64 e.r.ct,.int .i64 e.r.un,.slice m.D e.r.ds.length m.dc,.slice m.M e.r.ms.length m.mc,.slice m.Y e.r.ys.length m.yc,.slice m.X e.ex.length m.xc] 41 12 _ rfl
 clear hf h
 simp only [evV]
 go_enter Tryz.func4,Tryz.ntmps4
 go_wp2_with fail
 generalize w.alloc (.cells #[.string (str e.uid),.string (str e.text),.int .i64 e.st,.int .i64 e.lg,.slice m.O e.rooms.length m.oc,.int .i64 e.r.fr,.int .i64 e.r.ev,.int .i64 e.r.ct,.int .i64 e.r.un,.slice m.D e.r.ds.length m.dc,.slice m.M e.r.ms.length m.mc,.slice m.Y e.r.ys.length m.yc,.slice m.X e.ex.length m.xc] 41) = W at *
 refine (known_any _).mono ?_
 rintro _ w1 ⟨rfl,hb⟩
 replace HBX:=hide (andthen HBX.out hb)
 replace HL:=hide (HL.out.keep hb)
 replace a0:=cell_keep hb a0
 replace a1:=cell_keep hb a1
 replace a2:=cell_keep hb a2
 replace a3:=cell_keep hb a3
 replace a4:=cell_keep hb a4
 replace a5:=cell_keep hb a5
 replace a6:=cell_keep hb a6
 replace a7:=cell_keep hb a7
 replace a8:=cell_keep hb a8
 replace a9:=cell_keep hb a9
 replace a10:=cell_keep hb a10
 replace a11:=cell_keep hb a11
 replace a12:=cell_keep hb a12
 clear hb
 go_wp2_with fail
 refine (Go.Proofs.YtgihekokbgggcaaGreat.ans_is (fewE_any (str e.uid) (str e.text) e.st e.lg m.O e.rooms.length m.oc e.r.fr e.r.ev e.r.ct e.r.un m.D m.M m.Y m.X e.r.ds.length m.dc e.r.ms.length m.mc e.r.ys.length m.yc e.ex.length m.xc _) HF.out).mono ?_
 rintro _ w2 ⟨rfl,hb⟩
 replace HBX:=hide (andthen HBX.out hb)
 replace HL:=hide (HL.out.keep hb)
 replace a0:=cell_keep hb a0
 replace a1:=cell_keep hb a1
 replace a2:=cell_keep hb a2
 replace a3:=cell_keep hb a3
 replace a4:=cell_keep hb a4
 replace a5:=cell_keep hb a5
 replace a6:=cell_keep hb a6
 replace a7:=cell_keep hb a7
 replace a8:=cell_keep hb a8
 replace a9:=cell_keep hb a9
 replace a10:=cell_keep hb a10
 replace a11:=cell_keep hb a11
 replace a12:=cell_keep hb a12
 clear hb
 go_wp2_with fail
 refine (of_any e m _ HL.out).mono ?_
 rintro _ w3 ⟨v3,rfl,ho,hb⟩
 obtain ⟨A3,c3,rfl,hr⟩:=ho.row
 have HR3:=hide hr
 replace HBX:=hide (andthen HBX.out hb)
 replace HL:=hide (HL.out.keep hb)
 replace a0:=cell_keep hb a0
 replace a1:=cell_keep hb a1
 replace a2:=cell_keep hb a2
 replace a3:=cell_keep hb a3
 replace a4:=cell_keep hb a4
 replace a5:=cell_keep hb a5
 replace a6:=cell_keep hb a6
 replace a7:=cell_keep hb a7
 replace a8:=cell_keep hb a8
 replace a9:=cell_keep hb a9
 replace a10:=cell_keep hb a10
 replace a11:=cell_keep hb a11
 replace a12:=cell_keep hb a12
 clear hb ho hr
 have HN:=hide (ofC_len e)
 generalize hof : ofC e = OF at *
 obtain ⟨lc,z⟩:=OF
 go_wp2_with fail
 refine (R.of_any e m _ HL.out).mono ?_
 rw [hof]
 rintro _ w4 ⟨v4,rfl,ho,hb⟩
 obtain ⟨A4,c4,rfl,hr⟩:=ho.row
 have HR4:=hide hr
 replace HBX:=hide (andthen HBX.out hb)
 replace HR3:=hide (HR3.out.keep hb)
 clear hb ho hr a0 a1 a2 a3 a4 a5 a6 a7 a8 a9 a10 a11 a12 HL hof
 simp only at HR3 HR4 HN
 go_wp2_with fail
 refine (R.equalC_any A3 A4 _ _ c3 c4 lc lc _ HR3.out HR4.out rfl rfl (by have:=HN.out; omega) (by have:=HN.out; omega)).mono ?_
 rw [decide_eq_true rfl]
 rintro _ w5 ⟨rfl,hb⟩
 replace HBX:=hide (andthen HBX.out hb)
 clear hb
 go_wp2_with fail
 go_ret
 exact ⟨rfl,HBX.out⟩
theorem of12_any (U T : ByteArray) (s l : Int) (O : Option Addr) (on oc : Nat) (fr ev ct un : Int) (D M Y X : Option Addr) (dn dc mn mc yn yc xn xc : Nat) (o : List Int) (ds : List Rul.Wd) (ms ys x : List Int) (w : World) (h : (on = o.length /\ o.length <= maxLen /\ RowI w O o) /\ ((dn = ds.length /\ ds.length <= maxLen /\ RowD w D ds) /\ (mn = ms.length /\ ms.length <= maxLen /\ RowI w M ms) /\ (yn = ys.length /\ ys.length <= maxLen /\ RowI w Y ys)) /\ (xn = x.length /\ x.length <= maxLen /\ RowI w X x) /\ U.size <= maxLen /\ T.size <= maxLen /\ (X = none -> xc = 0)) :
  Calls Tryz.prog 4 #[.agg #[.string U,.string T,.int .i64 s,.int .i64 l,.slice O on oc,.int .i64 fr,.int .i64 ev,.int .i64 ct,.int .i64 un,.slice D dn dc,.slice M mn mc,.slice Y yn yc,.slice X xn xc]] w fun e w' => e = .returned (.bool true) /\ Below w.heap.size w w':=by
 obtain ⟨⟨rfl,_,ho⟩,⟨⟨rfl,_,hd⟩,⟨rfl,_,hm⟩,⟨rfl,_,hy⟩⟩,⟨rfl,_,hx⟩,_,_,_⟩:=h
 cases hf : fewEB ds.length ms.length ys.length U.size T.size o.length x.length with
 | false => exact of12_few U T s l O o.length oc fr ev ct un D M Y X ds.length dc ms.length mc ys.length yc x.length xc w hf
 | true =>
  have q:=(fewEB_iff _ _ _ _ _ _ _).1 hf
  have hU : str U.data.toList = U:=data_strC U
  have hT : str T.data.toList = T:=data_strC T
  have hul : U.data.toList.length <= 40000:=by rw [Go.Proofs.YtgihekokbgggcaaGreat.len_of]; omega
  have htl : T.data.toList.length <= 40000:=by rw [Go.Proofs.YtgihekokbgggcaaGreat.len_of]; omega
  generalize U.data.toList = u at *
  generalize T.data.toList = t at *
  subst hU hT
  have hl : EvL w ⟨u,t,s,l,o,⟨fr,ev,ct,un,ds,ms,ys⟩,x⟩ ⟨O,oc,D,dc,M,mc,Y,yc,X,xc⟩:=⟨ho,by show o.length <= 1000; omega,⟨hd,rfl,by show ds.length <= 10000; omega,hm,rfl,by show ms.length <= 10000; omega,hy,rfl,by show ys.length <= 10000; omega⟩,hx,by show x.length <= 1000; omega,hul,htl⟩
  exact of12_yes ⟨u,t,s,l,o,⟨fr,ev,ct,un,ds,ms,ys⟩,x⟩ ⟨O,oc,D,dc,M,mc,Y,yc,X,xc⟩ w hl hf
end Go.Proofs.YtgihekokbgggcaaGreat.S2

/- EventTells walked: of every two events whether they are any, their lines, whether they are the same. -/
import Derived.Test.YtgdjeddelcfgeaaGreatDoorYW15
import Derived.Test.YtgdjeddelcfgeaaGreatDoorYEvRC
import Derived.Test.YtgdjeddelcfgeaaGreatDoorYW17
namespace Go.Proofs.YtgdjeddelcfgeaaGreatDoor
open Go.RowKit Rul Rt Go.Sort

set_option maxRecDepth 100000 in
set_option maxHeartbeats 2000000 in
theorem tells_few (U T : ByteArray) (s l : Int) (O : Option Addr) (on oc : Nat) (fr ev ct un : Int) (D M Y X : Option Addr) (dn dc mn mc yn yc xn xc : Nat) (U2 T2 : ByteArray) (s2 l2 : Int) (O2 : Option Addr) (on2 oc2 : Nat) (fr2 ev2 ct2 un2 : Int) (D2 M2 Y2 X2 : Option Addr) (dn2 dc2 mn2 mc2 yn2 yc2 xn2 xc2 : Nat) (w : World) (he : EnvE w) (k : fewEB dn mn yn U.size T.size on xn = false ∨ (fewEB dn mn yn U.size T.size on xn = true ∧ fewEB dn2 mn2 yn2 U2.size T2.size on2 xn2 = false)) :
  Calls Tryz.prog 3 #[.agg #[.string U,.string T,.int .i64 s,.int .i64 l,.slice O on oc,.int .i64 fr,.int .i64 ev,.int .i64 ct,.int .i64 un,.slice D dn dc,.slice M mn mc,.slice Y yn yc,.slice X xn xc],.agg #[.string U2,.string T2,.int .i64 s2,.int .i64 l2,.slice O2 on2 oc2,.int .i64 fr2,.int .i64 ev2,.int .i64 ct2,.int .i64 un2,.slice D2 dn2 dc2,.slice M2 mn2 mc2,.slice Y2 yn2 yc2,.slice X2 xn2 xc2]] w (Ans w (.bool true)):=by
 have HE:=hide he
 clear he
 have HBX:=hide (more (more (start w) (.cells #[.string U,.string T,.int .i64 s,.int .i64 l,.slice O on oc,.int .i64 fr,.int .i64 ev,.int .i64 ct,.int .i64 un,.slice D dn dc,.slice M mn mc,.slice Y yn yc,.slice X xn xc] 27)) (.cells #[.string U2,.string T2,.int .i64 s2,.int .i64 l2,.slice O2 on2 oc2,.int .i64 fr2,.int .i64 ev2,.int .i64 ct2,.int .i64 un2,.slice D2 dn2 dc2,.slice M2 mn2 mc2,.slice Y2 yn2 yc2,.slice X2 xn2 xc2] 27))
 have a0 : ((w.alloc (.cells #[.string U,.string T,.int .i64 s,.int .i64 l,.slice O on oc,.int .i64 fr,.int .i64 ev,.int .i64 ct,.int .i64 un,.slice D dn dc,.slice M mn mc,.slice Y yn yc,.slice X xn xc] 27)).alloc (.cells #[.string U2,.string T2,.int .i64 s2,.int .i64 l2,.slice O2 on2 oc2,.int .i64 fr2,.int .i64 ev2,.int .i64 ct2,.int .i64 un2,.slice D2 dn2 dc2,.slice M2 mn2 mc2,.slice Y2 yn2 yc2,.slice X2 xn2 xc2] 27)).cell? ⟨w.heap.size,0,none⟩ = some (.string U):=cell_two w _ _ _ _ 0 _ rfl
 have a1 : ((w.alloc (.cells #[.string U,.string T,.int .i64 s,.int .i64 l,.slice O on oc,.int .i64 fr,.int .i64 ev,.int .i64 ct,.int .i64 un,.slice D dn dc,.slice M mn mc,.slice Y yn yc,.slice X xn xc] 27)).alloc (.cells #[.string U2,.string T2,.int .i64 s2,.int .i64 l2,.slice O2 on2 oc2,.int .i64 fr2,.int .i64 ev2,.int .i64 ct2,.int .i64 un2,.slice D2 dn2 dc2,.slice M2 mn2 mc2,.slice Y2 yn2 yc2,.slice X2 xn2 xc2] 27)).cell? ⟨w.heap.size,1,none⟩ = some (.string T):=cell_two w _ _ _ _ 1 _ rfl
 have a2 : ((w.alloc (.cells #[.string U,.string T,.int .i64 s,.int .i64 l,.slice O on oc,.int .i64 fr,.int .i64 ev,.int .i64 ct,.int .i64 un,.slice D dn dc,.slice M mn mc,.slice Y yn yc,.slice X xn xc] 27)).alloc (.cells #[.string U2,.string T2,.int .i64 s2,.int .i64 l2,.slice O2 on2 oc2,.int .i64 fr2,.int .i64 ev2,.int .i64 ct2,.int .i64 un2,.slice D2 dn2 dc2,.slice M2 mn2 mc2,.slice Y2 yn2 yc2,.slice X2 xn2 xc2] 27)).cell? ⟨w.heap.size,2,none⟩ = some (.int .i64 s):=cell_two w _ _ _ _ 2 _ rfl
 have a3 : ((w.alloc (.cells #[.string U,.string T,.int .i64 s,.int .i64 l,.slice O on oc,.int .i64 fr,.int .i64 ev,.int .i64 ct,.int .i64 un,.slice D dn dc,.slice M mn mc,.slice Y yn yc,.slice X xn xc] 27)).alloc (.cells #[.string U2,.string T2,.int .i64 s2,.int .i64 l2,.slice O2 on2 oc2,.int .i64 fr2,.int .i64 ev2,.int .i64 ct2,.int .i64 un2,.slice D2 dn2 dc2,.slice M2 mn2 mc2,.slice Y2 yn2 yc2,.slice X2 xn2 xc2] 27)).cell? ⟨w.heap.size,3,none⟩ = some (.int .i64 l):=cell_two w _ _ _ _ 3 _ rfl
 have a4 : ((w.alloc (.cells #[.string U,.string T,.int .i64 s,.int .i64 l,.slice O on oc,.int .i64 fr,.int .i64 ev,.int .i64 ct,.int .i64 un,.slice D dn dc,.slice M mn mc,.slice Y yn yc,.slice X xn xc] 27)).alloc (.cells #[.string U2,.string T2,.int .i64 s2,.int .i64 l2,.slice O2 on2 oc2,.int .i64 fr2,.int .i64 ev2,.int .i64 ct2,.int .i64 un2,.slice D2 dn2 dc2,.slice M2 mn2 mc2,.slice Y2 yn2 yc2,.slice X2 xn2 xc2] 27)).cell? ⟨w.heap.size,4,none⟩ = some (.slice O on oc):=cell_two w _ _ _ _ 4 _ rfl
 have a5 : ((w.alloc (.cells #[.string U,.string T,.int .i64 s,.int .i64 l,.slice O on oc,.int .i64 fr,.int .i64 ev,.int .i64 ct,.int .i64 un,.slice D dn dc,.slice M mn mc,.slice Y yn yc,.slice X xn xc] 27)).alloc (.cells #[.string U2,.string T2,.int .i64 s2,.int .i64 l2,.slice O2 on2 oc2,.int .i64 fr2,.int .i64 ev2,.int .i64 ct2,.int .i64 un2,.slice D2 dn2 dc2,.slice M2 mn2 mc2,.slice Y2 yn2 yc2,.slice X2 xn2 xc2] 27)).cell? ⟨w.heap.size,5,none⟩ = some (.int .i64 fr):=cell_two w _ _ _ _ 5 _ rfl
 have a6 : ((w.alloc (.cells #[.string U,.string T,.int .i64 s,.int .i64 l,.slice O on oc,.int .i64 fr,.int .i64 ev,.int .i64 ct,.int .i64 un,.slice D dn dc,.slice M mn mc,.slice Y yn yc,.slice X xn xc] 27)).alloc (.cells #[.string U2,.string T2,.int .i64 s2,.int .i64 l2,.slice O2 on2 oc2,.int .i64 fr2,.int .i64 ev2,.int .i64 ct2,.int .i64 un2,.slice D2 dn2 dc2,.slice M2 mn2 mc2,.slice Y2 yn2 yc2,.slice X2 xn2 xc2] 27)).cell? ⟨w.heap.size,6,none⟩ = some (.int .i64 ev):=cell_two w _ _ _ _ 6 _ rfl
 have a7 : ((w.alloc (.cells #[.string U,.string T,.int .i64 s,.int .i64 l,.slice O on oc,.int .i64 fr,.int .i64 ev,.int .i64 ct,.int .i64 un,.slice D dn dc,.slice M mn mc,.slice Y yn yc,.slice X xn xc] 27)).alloc (.cells #[.string U2,.string T2,.int .i64 s2,.int .i64 l2,.slice O2 on2 oc2,.int .i64 fr2,.int .i64 ev2,.int .i64 ct2,.int .i64 un2,.slice D2 dn2 dc2,.slice M2 mn2 mc2,.slice Y2 yn2 yc2,.slice X2 xn2 xc2] 27)).cell? ⟨w.heap.size,7,none⟩ = some (.int .i64 ct):=cell_two w _ _ _ _ 7 _ rfl
 have a8 : ((w.alloc (.cells #[.string U,.string T,.int .i64 s,.int .i64 l,.slice O on oc,.int .i64 fr,.int .i64 ev,.int .i64 ct,.int .i64 un,.slice D dn dc,.slice M mn mc,.slice Y yn yc,.slice X xn xc] 27)).alloc (.cells #[.string U2,.string T2,.int .i64 s2,.int .i64 l2,.slice O2 on2 oc2,.int .i64 fr2,.int .i64 ev2,.int .i64 ct2,.int .i64 un2,.slice D2 dn2 dc2,.slice M2 mn2 mc2,.slice Y2 yn2 yc2,.slice X2 xn2 xc2] 27)).cell? ⟨w.heap.size,8,none⟩ = some (.int .i64 un):=cell_two w _ _ _ _ 8 _ rfl
 have a9 : ((w.alloc (.cells #[.string U,.string T,.int .i64 s,.int .i64 l,.slice O on oc,.int .i64 fr,.int .i64 ev,.int .i64 ct,.int .i64 un,.slice D dn dc,.slice M mn mc,.slice Y yn yc,.slice X xn xc] 27)).alloc (.cells #[.string U2,.string T2,.int .i64 s2,.int .i64 l2,.slice O2 on2 oc2,.int .i64 fr2,.int .i64 ev2,.int .i64 ct2,.int .i64 un2,.slice D2 dn2 dc2,.slice M2 mn2 mc2,.slice Y2 yn2 yc2,.slice X2 xn2 xc2] 27)).cell? ⟨w.heap.size,9,none⟩ = some (.slice D dn dc):=cell_two w _ _ _ _ 9 _ rfl
 have a10 : ((w.alloc (.cells #[.string U,.string T,.int .i64 s,.int .i64 l,.slice O on oc,.int .i64 fr,.int .i64 ev,.int .i64 ct,.int .i64 un,.slice D dn dc,.slice M mn mc,.slice Y yn yc,.slice X xn xc] 27)).alloc (.cells #[.string U2,.string T2,.int .i64 s2,.int .i64 l2,.slice O2 on2 oc2,.int .i64 fr2,.int .i64 ev2,.int .i64 ct2,.int .i64 un2,.slice D2 dn2 dc2,.slice M2 mn2 mc2,.slice Y2 yn2 yc2,.slice X2 xn2 xc2] 27)).cell? ⟨w.heap.size,10,none⟩ = some (.slice M mn mc):=cell_two w _ _ _ _ 10 _ rfl
 have a11 : ((w.alloc (.cells #[.string U,.string T,.int .i64 s,.int .i64 l,.slice O on oc,.int .i64 fr,.int .i64 ev,.int .i64 ct,.int .i64 un,.slice D dn dc,.slice M mn mc,.slice Y yn yc,.slice X xn xc] 27)).alloc (.cells #[.string U2,.string T2,.int .i64 s2,.int .i64 l2,.slice O2 on2 oc2,.int .i64 fr2,.int .i64 ev2,.int .i64 ct2,.int .i64 un2,.slice D2 dn2 dc2,.slice M2 mn2 mc2,.slice Y2 yn2 yc2,.slice X2 xn2 xc2] 27)).cell? ⟨w.heap.size,11,none⟩ = some (.slice Y yn yc):=cell_two w _ _ _ _ 11 _ rfl
 have a12 : ((w.alloc (.cells #[.string U,.string T,.int .i64 s,.int .i64 l,.slice O on oc,.int .i64 fr,.int .i64 ev,.int .i64 ct,.int .i64 un,.slice D dn dc,.slice M mn mc,.slice Y yn yc,.slice X xn xc] 27)).alloc (.cells #[.string U2,.string T2,.int .i64 s2,.int .i64 l2,.slice O2 on2 oc2,.int .i64 fr2,.int .i64 ev2,.int .i64 ct2,.int .i64 un2,.slice D2 dn2 dc2,.slice M2 mn2 mc2,.slice Y2 yn2 yc2,.slice X2 xn2 xc2] 27)).cell? ⟨w.heap.size,12,none⟩ = some (.slice X xn xc):=cell_two w _ _ _ _ 12 _ rfl
 have b0 : ((w.alloc (.cells #[.string U,.string T,.int .i64 s,.int .i64 l,.slice O on oc,.int .i64 fr,.int .i64 ev,.int .i64 ct,.int .i64 un,.slice D dn dc,.slice M mn mc,.slice Y yn yc,.slice X xn xc] 27)).alloc (.cells #[.string U2,.string T2,.int .i64 s2,.int .i64 l2,.slice O2 on2 oc2,.int .i64 fr2,.int .i64 ev2,.int .i64 ct2,.int .i64 un2,.slice D2 dn2 dc2,.slice M2 mn2 mc2,.slice Y2 yn2 yc2,.slice X2 xn2 xc2] 27)).cell? ⟨w.heap.size + 1,0,none⟩ = some (.string U2):=cell_two2 w _ _ _ _ 0 _ rfl
 have b1 : ((w.alloc (.cells #[.string U,.string T,.int .i64 s,.int .i64 l,.slice O on oc,.int .i64 fr,.int .i64 ev,.int .i64 ct,.int .i64 un,.slice D dn dc,.slice M mn mc,.slice Y yn yc,.slice X xn xc] 27)).alloc (.cells #[.string U2,.string T2,.int .i64 s2,.int .i64 l2,.slice O2 on2 oc2,.int .i64 fr2,.int .i64 ev2,.int .i64 ct2,.int .i64 un2,.slice D2 dn2 dc2,.slice M2 mn2 mc2,.slice Y2 yn2 yc2,.slice X2 xn2 xc2] 27)).cell? ⟨w.heap.size + 1,1,none⟩ = some (.string T2):=cell_two2 w _ _ _ _ 1 _ rfl
 have b2 : ((w.alloc (.cells #[.string U,.string T,.int .i64 s,.int .i64 l,.slice O on oc,.int .i64 fr,.int .i64 ev,.int .i64 ct,.int .i64 un,.slice D dn dc,.slice M mn mc,.slice Y yn yc,.slice X xn xc] 27)).alloc (.cells #[.string U2,.string T2,.int .i64 s2,.int .i64 l2,.slice O2 on2 oc2,.int .i64 fr2,.int .i64 ev2,.int .i64 ct2,.int .i64 un2,.slice D2 dn2 dc2,.slice M2 mn2 mc2,.slice Y2 yn2 yc2,.slice X2 xn2 xc2] 27)).cell? ⟨w.heap.size + 1,2,none⟩ = some (.int .i64 s2):=cell_two2 w _ _ _ _ 2 _ rfl
 have b3 : ((w.alloc (.cells #[.string U,.string T,.int .i64 s,.int .i64 l,.slice O on oc,.int .i64 fr,.int .i64 ev,.int .i64 ct,.int .i64 un,.slice D dn dc,.slice M mn mc,.slice Y yn yc,.slice X xn xc] 27)).alloc (.cells #[.string U2,.string T2,.int .i64 s2,.int .i64 l2,.slice O2 on2 oc2,.int .i64 fr2,.int .i64 ev2,.int .i64 ct2,.int .i64 un2,.slice D2 dn2 dc2,.slice M2 mn2 mc2,.slice Y2 yn2 yc2,.slice X2 xn2 xc2] 27)).cell? ⟨w.heap.size + 1,3,none⟩ = some (.int .i64 l2):=cell_two2 w _ _ _ _ 3 _ rfl
 have b4 : ((w.alloc (.cells #[.string U,.string T,.int .i64 s,.int .i64 l,.slice O on oc,.int .i64 fr,.int .i64 ev,.int .i64 ct,.int .i64 un,.slice D dn dc,.slice M mn mc,.slice Y yn yc,.slice X xn xc] 27)).alloc (.cells #[.string U2,.string T2,.int .i64 s2,.int .i64 l2,.slice O2 on2 oc2,.int .i64 fr2,.int .i64 ev2,.int .i64 ct2,.int .i64 un2,.slice D2 dn2 dc2,.slice M2 mn2 mc2,.slice Y2 yn2 yc2,.slice X2 xn2 xc2] 27)).cell? ⟨w.heap.size + 1,4,none⟩ = some (.slice O2 on2 oc2):=cell_two2 w _ _ _ _ 4 _ rfl
 have b5 : ((w.alloc (.cells #[.string U,.string T,.int .i64 s,.int .i64 l,.slice O on oc,.int .i64 fr,.int .i64 ev,.int .i64 ct,.int .i64 un,.slice D dn dc,.slice M mn mc,.slice Y yn yc,.slice X xn xc] 27)).alloc (.cells #[.string U2,.string T2,.int .i64 s2,.int .i64 l2,.slice O2 on2 oc2,.int .i64 fr2,.int .i64 ev2,.int .i64 ct2,.int .i64 un2,.slice D2 dn2 dc2,.slice M2 mn2 mc2,.slice Y2 yn2 yc2,.slice X2 xn2 xc2] 27)).cell? ⟨w.heap.size + 1,5,none⟩ = some (.int .i64 fr2):=cell_two2 w _ _ _ _ 5 _ rfl
 have b6 : ((w.alloc (.cells #[.string U,.string T,.int .i64 s,.int .i64 l,.slice O on oc,.int .i64 fr,.int .i64 ev,.int .i64 ct,.int .i64 un,.slice D dn dc,.slice M mn mc,.slice Y yn yc,.slice X xn xc] 27)).alloc (.cells #[.string U2,.string T2,.int .i64 s2,.int .i64 l2,.slice O2 on2 oc2,.int .i64 fr2,.int .i64 ev2,.int .i64 ct2,.int .i64 un2,.slice D2 dn2 dc2,.slice M2 mn2 mc2,.slice Y2 yn2 yc2,.slice X2 xn2 xc2] 27)).cell? ⟨w.heap.size + 1,6,none⟩ = some (.int .i64 ev2):=cell_two2 w _ _ _ _ 6 _ rfl
 have b7 : ((w.alloc (.cells #[.string U,.string T,.int .i64 s,.int .i64 l,.slice O on oc,.int .i64 fr,.int .i64 ev,.int .i64 ct,.int .i64 un,.slice D dn dc,.slice M mn mc,.slice Y yn yc,.slice X xn xc] 27)).alloc (.cells #[.string U2,.string T2,.int .i64 s2,.int .i64 l2,.slice O2 on2 oc2,.int .i64 fr2,.int .i64 ev2,.int .i64 ct2,.int .i64 un2,.slice D2 dn2 dc2,.slice M2 mn2 mc2,.slice Y2 yn2 yc2,.slice X2 xn2 xc2] 27)).cell? ⟨w.heap.size + 1,7,none⟩ = some (.int .i64 ct2):=cell_two2 w _ _ _ _ 7 _ rfl
 have b8 : ((w.alloc (.cells #[.string U,.string T,.int .i64 s,.int .i64 l,.slice O on oc,.int .i64 fr,.int .i64 ev,.int .i64 ct,.int .i64 un,.slice D dn dc,.slice M mn mc,.slice Y yn yc,.slice X xn xc] 27)).alloc (.cells #[.string U2,.string T2,.int .i64 s2,.int .i64 l2,.slice O2 on2 oc2,.int .i64 fr2,.int .i64 ev2,.int .i64 ct2,.int .i64 un2,.slice D2 dn2 dc2,.slice M2 mn2 mc2,.slice Y2 yn2 yc2,.slice X2 xn2 xc2] 27)).cell? ⟨w.heap.size + 1,8,none⟩ = some (.int .i64 un2):=cell_two2 w _ _ _ _ 8 _ rfl
 have b9 : ((w.alloc (.cells #[.string U,.string T,.int .i64 s,.int .i64 l,.slice O on oc,.int .i64 fr,.int .i64 ev,.int .i64 ct,.int .i64 un,.slice D dn dc,.slice M mn mc,.slice Y yn yc,.slice X xn xc] 27)).alloc (.cells #[.string U2,.string T2,.int .i64 s2,.int .i64 l2,.slice O2 on2 oc2,.int .i64 fr2,.int .i64 ev2,.int .i64 ct2,.int .i64 un2,.slice D2 dn2 dc2,.slice M2 mn2 mc2,.slice Y2 yn2 yc2,.slice X2 xn2 xc2] 27)).cell? ⟨w.heap.size + 1,9,none⟩ = some (.slice D2 dn2 dc2):=cell_two2 w _ _ _ _ 9 _ rfl
 have b10 : ((w.alloc (.cells #[.string U,.string T,.int .i64 s,.int .i64 l,.slice O on oc,.int .i64 fr,.int .i64 ev,.int .i64 ct,.int .i64 un,.slice D dn dc,.slice M mn mc,.slice Y yn yc,.slice X xn xc] 27)).alloc (.cells #[.string U2,.string T2,.int .i64 s2,.int .i64 l2,.slice O2 on2 oc2,.int .i64 fr2,.int .i64 ev2,.int .i64 ct2,.int .i64 un2,.slice D2 dn2 dc2,.slice M2 mn2 mc2,.slice Y2 yn2 yc2,.slice X2 xn2 xc2] 27)).cell? ⟨w.heap.size + 1,10,none⟩ = some (.slice M2 mn2 mc2):=cell_two2 w _ _ _ _ 10 _ rfl
 have b11 : ((w.alloc (.cells #[.string U,.string T,.int .i64 s,.int .i64 l,.slice O on oc,.int .i64 fr,.int .i64 ev,.int .i64 ct,.int .i64 un,.slice D dn dc,.slice M mn mc,.slice Y yn yc,.slice X xn xc] 27)).alloc (.cells #[.string U2,.string T2,.int .i64 s2,.int .i64 l2,.slice O2 on2 oc2,.int .i64 fr2,.int .i64 ev2,.int .i64 ct2,.int .i64 un2,.slice D2 dn2 dc2,.slice M2 mn2 mc2,.slice Y2 yn2 yc2,.slice X2 xn2 xc2] 27)).cell? ⟨w.heap.size + 1,11,none⟩ = some (.slice Y2 yn2 yc2):=cell_two2 w _ _ _ _ 11 _ rfl
 have b12 : ((w.alloc (.cells #[.string U,.string T,.int .i64 s,.int .i64 l,.slice O on oc,.int .i64 fr,.int .i64 ev,.int .i64 ct,.int .i64 un,.slice D dn dc,.slice M mn mc,.slice Y yn yc,.slice X xn xc] 27)).alloc (.cells #[.string U2,.string T2,.int .i64 s2,.int .i64 l2,.slice O2 on2 oc2,.int .i64 fr2,.int .i64 ev2,.int .i64 ct2,.int .i64 un2,.slice D2 dn2 dc2,.slice M2 mn2 mc2,.slice Y2 yn2 yc2,.slice X2 xn2 xc2] 27)).cell? ⟨w.heap.size + 1,12,none⟩ = some (.slice X2 xn2 xc2):=cell_two2 w _ _ _ _ 12 _ rfl
 rcases k with k | ⟨k,k2⟩
 ·have HF:=hide k
  clear k
  go_enter Tryz.func3,Tryz.ntmps3
  go_wp2_with fail
  refine (known_any _ (HE.out.keep HBX.out)).mono ?_
  rintro _ w1 ⟨rfl,hb1⟩
  replace HBX:=hide (andthen HBX.out hb1)
  replace a0:=cell_keep hb1 a0
  replace a1:=cell_keep hb1 a1
  replace a2:=cell_keep hb1 a2
  replace a3:=cell_keep hb1 a3
  replace a4:=cell_keep hb1 a4
  replace a5:=cell_keep hb1 a5
  replace a6:=cell_keep hb1 a6
  replace a7:=cell_keep hb1 a7
  replace a8:=cell_keep hb1 a8
  replace a9:=cell_keep hb1 a9
  replace a10:=cell_keep hb1 a10
  replace a11:=cell_keep hb1 a11
  replace a12:=cell_keep hb1 a12
  clear hb1
  go_wp2_with fail
  refine (ans_is (fewE_any U T s l O on oc fr ev ct un D M Y X dn dc mn mc yn yc xn xc _) HF.out).mono ?_
  rintro _ w2 ⟨rfl,hb1⟩
  replace HBX:=hide (andthen HBX.out hb1)
  clear hb1 a0 b0 a1 b1 a2 b2 a3 b3 a4 b4 a5 b5 a6 b6 a7 b7 a8 b8 a9 b9 a10 b10 a11 b11 a12 b12
  go_wp2_with fail
  go_ret
  exact ⟨rfl,HBX.out⟩
 ·have HF:=hide k
  have HF2:=hide k2
  clear k k2
  go_enter Tryz.func3,Tryz.ntmps3
  go_wp2_with fail
  refine (known_any _ (HE.out.keep HBX.out)).mono ?_
  rintro _ w1 ⟨rfl,hb1⟩
  replace HBX:=hide (andthen HBX.out hb1)
  replace a0:=cell_keep hb1 a0
  replace a1:=cell_keep hb1 a1
  replace a2:=cell_keep hb1 a2
  replace a3:=cell_keep hb1 a3
  replace a4:=cell_keep hb1 a4
  replace a5:=cell_keep hb1 a5
  replace a6:=cell_keep hb1 a6
  replace a7:=cell_keep hb1 a7
  replace a8:=cell_keep hb1 a8
  replace a9:=cell_keep hb1 a9
  replace a10:=cell_keep hb1 a10
  replace a11:=cell_keep hb1 a11
  replace a12:=cell_keep hb1 a12
  replace b0:=cell_keep hb1 b0
  replace b1:=cell_keep hb1 b1
  replace b2:=cell_keep hb1 b2
  replace b3:=cell_keep hb1 b3
  replace b4:=cell_keep hb1 b4
  replace b5:=cell_keep hb1 b5
  replace b6:=cell_keep hb1 b6
  replace b7:=cell_keep hb1 b7
  replace b8:=cell_keep hb1 b8
  replace b9:=cell_keep hb1 b9
  replace b10:=cell_keep hb1 b10
  replace b11:=cell_keep hb1 b11
  replace b12:=cell_keep hb1 b12
  clear hb1
  go_wp2_with fail
  refine (ans_is (fewE_any U T s l O on oc fr ev ct un D M Y X dn dc mn mc yn yc xn xc _) HF.out).mono ?_
  rintro _ w2 ⟨rfl,hb1⟩
  replace HBX:=hide (andthen HBX.out hb1)
  replace b0:=cell_keep hb1 b0
  replace b1:=cell_keep hb1 b1
  replace b2:=cell_keep hb1 b2
  replace b3:=cell_keep hb1 b3
  replace b4:=cell_keep hb1 b4
  replace b5:=cell_keep hb1 b5
  replace b6:=cell_keep hb1 b6
  replace b7:=cell_keep hb1 b7
  replace b8:=cell_keep hb1 b8
  replace b9:=cell_keep hb1 b9
  replace b10:=cell_keep hb1 b10
  replace b11:=cell_keep hb1 b11
  replace b12:=cell_keep hb1 b12
  clear hb1
  go_wp2_with fail
  refine (ans_is (fewE_any U2 T2 s2 l2 O2 on2 oc2 fr2 ev2 ct2 un2 D2 M2 Y2 X2 dn2 dc2 mn2 mc2 yn2 yc2 xn2 xc2 _) HF2.out).mono ?_
  rintro _ w3 ⟨rfl,hb1⟩
  replace HBX:=hide (andthen HBX.out hb1)
  clear hb1 a0 b0 a1 b1 a2 b2 a3 b3 a4 b4 a5 b5 a6 b6 a7 b7 a8 b8 a9 b9 a10 b10 a11 b11 a12 b12
  go_wp2_with fail
  go_ret
  exact ⟨rfl,HBX.out⟩
structure TwoE (w : World) (e f : Ev.E) (m n : Mem) (W : World) : Prop where
 l : EvL W e m
 k : EvL W f n
 v : EnvE W
 b : Below w.heap.size w W
theorem TwoE.keep {w W W1 : World} {e f : Ev.E} {m n : Mem} (h : TwoE w e f m n W) (hb : Below W.heap.size W W1) : TwoE w e f m n W1:=⟨h.l.keep hb,h.k.keep hb,h.v.keep hb,andthen h.b hb⟩
theorem rlines_some (e : Ev.E) (m : Mem) (w : World) (h : EvL w e m) (l : List Tx) (hl : Ev.linesE unU e = l) : Calls Tryz.prog 17 #[evV e m] w (GivesL w l):=by
 subst hl
 refine (rLines_any e m w h).mono ?_
 rintro _ w' ⟨v,rfl,hown,hb⟩
 obtain ⟨A,cap,rfl,hr,hc⟩:=OwnS.row hown
 exact ⟨A,cap,rfl,hc,hr,hb⟩
theorem two_keep {w W W1 : World} {X : Nat} {e f : Ev.E} {m n : Mem} (hb : Below W.heap.size W W1) (h : W.cell? ⟨X,0,none⟩ = some (.string (str e.uid)) ∧ W.cell? ⟨X,1,none⟩ = some (.string (str e.text)) ∧ W.cell? ⟨X,2,none⟩ = some (.int .i64 e.st) ∧ W.cell? ⟨X,3,none⟩ = some (.int .i64 e.lg) ∧ W.cell? ⟨X,4,none⟩ = some (.slice m.O e.rooms.length m.oc) ∧ W.cell? ⟨X,5,none⟩ = some (.int .i64 e.r.fr) ∧ W.cell? ⟨X,6,none⟩ = some (.int .i64 e.r.ev) ∧ W.cell? ⟨X,7,none⟩ = some (.int .i64 e.r.ct) ∧ W.cell? ⟨X,8,none⟩ = some (.int .i64 e.r.un) ∧ W.cell? ⟨X,9,none⟩ = some (.slice m.D e.r.ds.length m.dc) ∧ W.cell? ⟨X,10,none⟩ = some (.slice m.M e.r.ms.length m.mc) ∧ W.cell? ⟨X,11,none⟩ = some (.slice m.Y e.r.ys.length m.yc) ∧ W.cell? ⟨X,12,none⟩ = some (.slice m.X e.ex.length m.xc) ∧ W.cell? ⟨X + 1,0,none⟩ = some (.string (str f.uid)) ∧ W.cell? ⟨X + 1,1,none⟩ = some (.string (str f.text)) ∧ W.cell? ⟨X + 1,2,none⟩ = some (.int .i64 f.st) ∧ W.cell? ⟨X + 1,3,none⟩ = some (.int .i64 f.lg) ∧ W.cell? ⟨X + 1,4,none⟩ = some (.slice n.O f.rooms.length n.oc) ∧ W.cell? ⟨X + 1,5,none⟩ = some (.int .i64 f.r.fr) ∧ W.cell? ⟨X + 1,6,none⟩ = some (.int .i64 f.r.ev) ∧ W.cell? ⟨X + 1,7,none⟩ = some (.int .i64 f.r.ct) ∧ W.cell? ⟨X + 1,8,none⟩ = some (.int .i64 f.r.un) ∧ W.cell? ⟨X + 1,9,none⟩ = some (.slice n.D f.r.ds.length n.dc) ∧ W.cell? ⟨X + 1,10,none⟩ = some (.slice n.M f.r.ms.length n.mc) ∧ W.cell? ⟨X + 1,11,none⟩ = some (.slice n.Y f.r.ys.length n.yc) ∧ W.cell? ⟨X + 1,12,none⟩ = some (.slice n.X f.ex.length n.xc) ∧ TwoE w e f m n W) : W1.cell? ⟨X,0,none⟩ = some (.string (str e.uid)) ∧ W1.cell? ⟨X,1,none⟩ = some (.string (str e.text)) ∧ W1.cell? ⟨X,2,none⟩ = some (.int .i64 e.st) ∧ W1.cell? ⟨X,3,none⟩ = some (.int .i64 e.lg) ∧ W1.cell? ⟨X,4,none⟩ = some (.slice m.O e.rooms.length m.oc) ∧ W1.cell? ⟨X,5,none⟩ = some (.int .i64 e.r.fr) ∧ W1.cell? ⟨X,6,none⟩ = some (.int .i64 e.r.ev) ∧ W1.cell? ⟨X,7,none⟩ = some (.int .i64 e.r.ct) ∧ W1.cell? ⟨X,8,none⟩ = some (.int .i64 e.r.un) ∧ W1.cell? ⟨X,9,none⟩ = some (.slice m.D e.r.ds.length m.dc) ∧ W1.cell? ⟨X,10,none⟩ = some (.slice m.M e.r.ms.length m.mc) ∧ W1.cell? ⟨X,11,none⟩ = some (.slice m.Y e.r.ys.length m.yc) ∧ W1.cell? ⟨X,12,none⟩ = some (.slice m.X e.ex.length m.xc) ∧ W1.cell? ⟨X + 1,0,none⟩ = some (.string (str f.uid)) ∧ W1.cell? ⟨X + 1,1,none⟩ = some (.string (str f.text)) ∧ W1.cell? ⟨X + 1,2,none⟩ = some (.int .i64 f.st) ∧ W1.cell? ⟨X + 1,3,none⟩ = some (.int .i64 f.lg) ∧ W1.cell? ⟨X + 1,4,none⟩ = some (.slice n.O f.rooms.length n.oc) ∧ W1.cell? ⟨X + 1,5,none⟩ = some (.int .i64 f.r.fr) ∧ W1.cell? ⟨X + 1,6,none⟩ = some (.int .i64 f.r.ev) ∧ W1.cell? ⟨X + 1,7,none⟩ = some (.int .i64 f.r.ct) ∧ W1.cell? ⟨X + 1,8,none⟩ = some (.int .i64 f.r.un) ∧ W1.cell? ⟨X + 1,9,none⟩ = some (.slice n.D f.r.ds.length n.dc) ∧ W1.cell? ⟨X + 1,10,none⟩ = some (.slice n.M f.r.ms.length n.mc) ∧ W1.cell? ⟨X + 1,11,none⟩ = some (.slice n.Y f.r.ys.length n.yc) ∧ W1.cell? ⟨X + 1,12,none⟩ = some (.slice n.X f.ex.length n.xc) ∧ TwoE w e f m n W1:=by
 obtain ⟨c0,c1,c2,c3,c4,c5,c6,c7,c8,c9,c10,c11,c12,c13,c14,c15,c16,c17,c18,c19,c20,c21,c22,c23,c24,c25,h1⟩:=h
 exact ⟨cell_keep hb c0,cell_keep hb c1,cell_keep hb c2,cell_keep hb c3,cell_keep hb c4,cell_keep hb c5,cell_keep hb c6,cell_keep hb c7,cell_keep hb c8,cell_keep hb c9,cell_keep hb c10,cell_keep hb c11,cell_keep hb c12,cell_keep hb c13,cell_keep hb c14,cell_keep hb c15,cell_keep hb c16,cell_keep hb c17,cell_keep hb c18,cell_keep hb c19,cell_keep hb c20,cell_keep hb c21,cell_keep hb c22,cell_keep hb c23,cell_keep hb c24,cell_keep hb c25,h1.keep hb⟩
theorem copy_any2 (e : Ev.E) (m : Mem) (w : World) (h : EvL w e m) : Calls Tryz.prog 18 #[evV e m] w fun x w' => ∃ m,x = .returned (evV e m) ∧ EvL w' e m ∧ Below w.heap.size w w' :=
 (eCopy_any e m w h).mono fun _ _ ⟨m,e,hn,hb⟩ => ⟨m,e,hn.lies,hb⟩
set_option linter.unusedSimpArgs false in
set_option maxRecDepth 100000 in
set_option maxHeartbeats 8000000 in
theorem tells_yes (e f : Ev.E) (m n : Mem) (w : World) (he : EnvE w) (h : EvL w e m) (k : EvL w f n) (hf : fewEB e.r.ds.length e.r.ms.length e.r.ys.length (str e.uid).size (str e.text).size e.rooms.length e.ex.length = true) (kf : fewEB f.r.ds.length f.r.ms.length f.r.ys.length (str f.uid).size (str f.text).size f.rooms.length f.ex.length = true) :
  Calls Tryz.prog 3 #[evV e m,evV f n] w (Ans w (.bool true)):=by
 have HE:=hide he
 have HF:=hide hf
 have HF2:=hide kf
 obtain ⟨b1,hb1⟩ : ∃ b,Ev.isE e = b:=⟨_,rfl⟩
 obtain ⟨b2,hb2⟩ : ∃ b,Ev.sameE e f = b:=⟨_,rfl⟩
 obtain ⟨L,hL⟩ : ∃ L,Ev.linesE unU e = L:=⟨_,rfl⟩
 have hLL : L.length ≤ 1000000:=by
  rw [← hL]
  cases hi : Ev.isE e with
  | false => rw [Ev.lines_no unU hi]; decide
  | true => have:=(Ev.six_lines unU e ((Ev.isE_iff e).1 hi)).2; omega
 have HB1:=hide hb1
 have HB2:=hide hb2
 have HL:=hide hL
 have HLL:=hide hLL
 have HBX:=hide (more (more (start w) (.cells #[.string (str e.uid),.string (str e.text),.int .i64 e.st,.int .i64 e.lg,.slice m.O e.rooms.length m.oc,.int .i64 e.r.fr,.int .i64 e.r.ev,.int .i64 e.r.ct,.int .i64 e.r.un,.slice m.D e.r.ds.length m.dc,.slice m.M e.r.ms.length m.mc,.slice m.Y e.r.ys.length m.yc,.slice m.X e.ex.length m.xc] 27)) (.cells #[.string (str f.uid),.string (str f.text),.int .i64 f.st,.int .i64 f.lg,.slice n.O f.rooms.length n.oc,.int .i64 f.r.fr,.int .i64 f.r.ev,.int .i64 f.r.ct,.int .i64 f.r.un,.slice n.D f.r.ds.length n.dc,.slice n.M f.r.ms.length n.mc,.slice n.Y f.r.ys.length n.yc,.slice n.X f.ex.length n.xc] 27))
 have a0 : ((w.alloc (.cells #[.string (str e.uid),.string (str e.text),.int .i64 e.st,.int .i64 e.lg,.slice m.O e.rooms.length m.oc,.int .i64 e.r.fr,.int .i64 e.r.ev,.int .i64 e.r.ct,.int .i64 e.r.un,.slice m.D e.r.ds.length m.dc,.slice m.M e.r.ms.length m.mc,.slice m.Y e.r.ys.length m.yc,.slice m.X e.ex.length m.xc] 27)).alloc (.cells #[.string (str f.uid),.string (str f.text),.int .i64 f.st,.int .i64 f.lg,.slice n.O f.rooms.length n.oc,.int .i64 f.r.fr,.int .i64 f.r.ev,.int .i64 f.r.ct,.int .i64 f.r.un,.slice n.D f.r.ds.length n.dc,.slice n.M f.r.ms.length n.mc,.slice n.Y f.r.ys.length n.yc,.slice n.X f.ex.length n.xc] 27)).cell? ⟨w.heap.size,0,none⟩ = some (.string (str e.uid)):=cell_two w _ _ _ _ 0 _ rfl
 have a1 : ((w.alloc (.cells #[.string (str e.uid),.string (str e.text),.int .i64 e.st,.int .i64 e.lg,.slice m.O e.rooms.length m.oc,.int .i64 e.r.fr,.int .i64 e.r.ev,.int .i64 e.r.ct,.int .i64 e.r.un,.slice m.D e.r.ds.length m.dc,.slice m.M e.r.ms.length m.mc,.slice m.Y e.r.ys.length m.yc,.slice m.X e.ex.length m.xc] 27)).alloc (.cells #[.string (str f.uid),.string (str f.text),.int .i64 f.st,.int .i64 f.lg,.slice n.O f.rooms.length n.oc,.int .i64 f.r.fr,.int .i64 f.r.ev,.int .i64 f.r.ct,.int .i64 f.r.un,.slice n.D f.r.ds.length n.dc,.slice n.M f.r.ms.length n.mc,.slice n.Y f.r.ys.length n.yc,.slice n.X f.ex.length n.xc] 27)).cell? ⟨w.heap.size,1,none⟩ = some (.string (str e.text)):=cell_two w _ _ _ _ 1 _ rfl
 have a2 : ((w.alloc (.cells #[.string (str e.uid),.string (str e.text),.int .i64 e.st,.int .i64 e.lg,.slice m.O e.rooms.length m.oc,.int .i64 e.r.fr,.int .i64 e.r.ev,.int .i64 e.r.ct,.int .i64 e.r.un,.slice m.D e.r.ds.length m.dc,.slice m.M e.r.ms.length m.mc,.slice m.Y e.r.ys.length m.yc,.slice m.X e.ex.length m.xc] 27)).alloc (.cells #[.string (str f.uid),.string (str f.text),.int .i64 f.st,.int .i64 f.lg,.slice n.O f.rooms.length n.oc,.int .i64 f.r.fr,.int .i64 f.r.ev,.int .i64 f.r.ct,.int .i64 f.r.un,.slice n.D f.r.ds.length n.dc,.slice n.M f.r.ms.length n.mc,.slice n.Y f.r.ys.length n.yc,.slice n.X f.ex.length n.xc] 27)).cell? ⟨w.heap.size,2,none⟩ = some (.int .i64 e.st):=cell_two w _ _ _ _ 2 _ rfl
 have a3 : ((w.alloc (.cells #[.string (str e.uid),.string (str e.text),.int .i64 e.st,.int .i64 e.lg,.slice m.O e.rooms.length m.oc,.int .i64 e.r.fr,.int .i64 e.r.ev,.int .i64 e.r.ct,.int .i64 e.r.un,.slice m.D e.r.ds.length m.dc,.slice m.M e.r.ms.length m.mc,.slice m.Y e.r.ys.length m.yc,.slice m.X e.ex.length m.xc] 27)).alloc (.cells #[.string (str f.uid),.string (str f.text),.int .i64 f.st,.int .i64 f.lg,.slice n.O f.rooms.length n.oc,.int .i64 f.r.fr,.int .i64 f.r.ev,.int .i64 f.r.ct,.int .i64 f.r.un,.slice n.D f.r.ds.length n.dc,.slice n.M f.r.ms.length n.mc,.slice n.Y f.r.ys.length n.yc,.slice n.X f.ex.length n.xc] 27)).cell? ⟨w.heap.size,3,none⟩ = some (.int .i64 e.lg):=cell_two w _ _ _ _ 3 _ rfl
 have a4 : ((w.alloc (.cells #[.string (str e.uid),.string (str e.text),.int .i64 e.st,.int .i64 e.lg,.slice m.O e.rooms.length m.oc,.int .i64 e.r.fr,.int .i64 e.r.ev,.int .i64 e.r.ct,.int .i64 e.r.un,.slice m.D e.r.ds.length m.dc,.slice m.M e.r.ms.length m.mc,.slice m.Y e.r.ys.length m.yc,.slice m.X e.ex.length m.xc] 27)).alloc (.cells #[.string (str f.uid),.string (str f.text),.int .i64 f.st,.int .i64 f.lg,.slice n.O f.rooms.length n.oc,.int .i64 f.r.fr,.int .i64 f.r.ev,.int .i64 f.r.ct,.int .i64 f.r.un,.slice n.D f.r.ds.length n.dc,.slice n.M f.r.ms.length n.mc,.slice n.Y f.r.ys.length n.yc,.slice n.X f.ex.length n.xc] 27)).cell? ⟨w.heap.size,4,none⟩ = some (.slice m.O e.rooms.length m.oc):=cell_two w _ _ _ _ 4 _ rfl
 have a5 : ((w.alloc (.cells #[.string (str e.uid),.string (str e.text),.int .i64 e.st,.int .i64 e.lg,.slice m.O e.rooms.length m.oc,.int .i64 e.r.fr,.int .i64 e.r.ev,.int .i64 e.r.ct,.int .i64 e.r.un,.slice m.D e.r.ds.length m.dc,.slice m.M e.r.ms.length m.mc,.slice m.Y e.r.ys.length m.yc,.slice m.X e.ex.length m.xc] 27)).alloc (.cells #[.string (str f.uid),.string (str f.text),.int .i64 f.st,.int .i64 f.lg,.slice n.O f.rooms.length n.oc,.int .i64 f.r.fr,.int .i64 f.r.ev,.int .i64 f.r.ct,.int .i64 f.r.un,.slice n.D f.r.ds.length n.dc,.slice n.M f.r.ms.length n.mc,.slice n.Y f.r.ys.length n.yc,.slice n.X f.ex.length n.xc] 27)).cell? ⟨w.heap.size,5,none⟩ = some (.int .i64 e.r.fr):=cell_two w _ _ _ _ 5 _ rfl
 have a6 : ((w.alloc (.cells #[.string (str e.uid),.string (str e.text),.int .i64 e.st,.int .i64 e.lg,.slice m.O e.rooms.length m.oc,.int .i64 e.r.fr,.int .i64 e.r.ev,.int .i64 e.r.ct,.int .i64 e.r.un,.slice m.D e.r.ds.length m.dc,.slice m.M e.r.ms.length m.mc,.slice m.Y e.r.ys.length m.yc,.slice m.X e.ex.length m.xc] 27)).alloc (.cells #[.string (str f.uid),.string (str f.text),.int .i64 f.st,.int .i64 f.lg,.slice n.O f.rooms.length n.oc,.int .i64 f.r.fr,.int .i64 f.r.ev,.int .i64 f.r.ct,.int .i64 f.r.un,.slice n.D f.r.ds.length n.dc,.slice n.M f.r.ms.length n.mc,.slice n.Y f.r.ys.length n.yc,.slice n.X f.ex.length n.xc] 27)).cell? ⟨w.heap.size,6,none⟩ = some (.int .i64 e.r.ev):=cell_two w _ _ _ _ 6 _ rfl
 have a7 : ((w.alloc (.cells #[.string (str e.uid),.string (str e.text),.int .i64 e.st,.int .i64 e.lg,.slice m.O e.rooms.length m.oc,.int .i64 e.r.fr,.int .i64 e.r.ev,.int .i64 e.r.ct,.int .i64 e.r.un,.slice m.D e.r.ds.length m.dc,.slice m.M e.r.ms.length m.mc,.slice m.Y e.r.ys.length m.yc,.slice m.X e.ex.length m.xc] 27)).alloc (.cells #[.string (str f.uid),.string (str f.text),.int .i64 f.st,.int .i64 f.lg,.slice n.O f.rooms.length n.oc,.int .i64 f.r.fr,.int .i64 f.r.ev,.int .i64 f.r.ct,.int .i64 f.r.un,.slice n.D f.r.ds.length n.dc,.slice n.M f.r.ms.length n.mc,.slice n.Y f.r.ys.length n.yc,.slice n.X f.ex.length n.xc] 27)).cell? ⟨w.heap.size,7,none⟩ = some (.int .i64 e.r.ct):=cell_two w _ _ _ _ 7 _ rfl
 have a8 : ((w.alloc (.cells #[.string (str e.uid),.string (str e.text),.int .i64 e.st,.int .i64 e.lg,.slice m.O e.rooms.length m.oc,.int .i64 e.r.fr,.int .i64 e.r.ev,.int .i64 e.r.ct,.int .i64 e.r.un,.slice m.D e.r.ds.length m.dc,.slice m.M e.r.ms.length m.mc,.slice m.Y e.r.ys.length m.yc,.slice m.X e.ex.length m.xc] 27)).alloc (.cells #[.string (str f.uid),.string (str f.text),.int .i64 f.st,.int .i64 f.lg,.slice n.O f.rooms.length n.oc,.int .i64 f.r.fr,.int .i64 f.r.ev,.int .i64 f.r.ct,.int .i64 f.r.un,.slice n.D f.r.ds.length n.dc,.slice n.M f.r.ms.length n.mc,.slice n.Y f.r.ys.length n.yc,.slice n.X f.ex.length n.xc] 27)).cell? ⟨w.heap.size,8,none⟩ = some (.int .i64 e.r.un):=cell_two w _ _ _ _ 8 _ rfl
 have a9 : ((w.alloc (.cells #[.string (str e.uid),.string (str e.text),.int .i64 e.st,.int .i64 e.lg,.slice m.O e.rooms.length m.oc,.int .i64 e.r.fr,.int .i64 e.r.ev,.int .i64 e.r.ct,.int .i64 e.r.un,.slice m.D e.r.ds.length m.dc,.slice m.M e.r.ms.length m.mc,.slice m.Y e.r.ys.length m.yc,.slice m.X e.ex.length m.xc] 27)).alloc (.cells #[.string (str f.uid),.string (str f.text),.int .i64 f.st,.int .i64 f.lg,.slice n.O f.rooms.length n.oc,.int .i64 f.r.fr,.int .i64 f.r.ev,.int .i64 f.r.ct,.int .i64 f.r.un,.slice n.D f.r.ds.length n.dc,.slice n.M f.r.ms.length n.mc,.slice n.Y f.r.ys.length n.yc,.slice n.X f.ex.length n.xc] 27)).cell? ⟨w.heap.size,9,none⟩ = some (.slice m.D e.r.ds.length m.dc):=cell_two w _ _ _ _ 9 _ rfl
 have a10 : ((w.alloc (.cells #[.string (str e.uid),.string (str e.text),.int .i64 e.st,.int .i64 e.lg,.slice m.O e.rooms.length m.oc,.int .i64 e.r.fr,.int .i64 e.r.ev,.int .i64 e.r.ct,.int .i64 e.r.un,.slice m.D e.r.ds.length m.dc,.slice m.M e.r.ms.length m.mc,.slice m.Y e.r.ys.length m.yc,.slice m.X e.ex.length m.xc] 27)).alloc (.cells #[.string (str f.uid),.string (str f.text),.int .i64 f.st,.int .i64 f.lg,.slice n.O f.rooms.length n.oc,.int .i64 f.r.fr,.int .i64 f.r.ev,.int .i64 f.r.ct,.int .i64 f.r.un,.slice n.D f.r.ds.length n.dc,.slice n.M f.r.ms.length n.mc,.slice n.Y f.r.ys.length n.yc,.slice n.X f.ex.length n.xc] 27)).cell? ⟨w.heap.size,10,none⟩ = some (.slice m.M e.r.ms.length m.mc):=cell_two w _ _ _ _ 10 _ rfl
 have a11 : ((w.alloc (.cells #[.string (str e.uid),.string (str e.text),.int .i64 e.st,.int .i64 e.lg,.slice m.O e.rooms.length m.oc,.int .i64 e.r.fr,.int .i64 e.r.ev,.int .i64 e.r.ct,.int .i64 e.r.un,.slice m.D e.r.ds.length m.dc,.slice m.M e.r.ms.length m.mc,.slice m.Y e.r.ys.length m.yc,.slice m.X e.ex.length m.xc] 27)).alloc (.cells #[.string (str f.uid),.string (str f.text),.int .i64 f.st,.int .i64 f.lg,.slice n.O f.rooms.length n.oc,.int .i64 f.r.fr,.int .i64 f.r.ev,.int .i64 f.r.ct,.int .i64 f.r.un,.slice n.D f.r.ds.length n.dc,.slice n.M f.r.ms.length n.mc,.slice n.Y f.r.ys.length n.yc,.slice n.X f.ex.length n.xc] 27)).cell? ⟨w.heap.size,11,none⟩ = some (.slice m.Y e.r.ys.length m.yc):=cell_two w _ _ _ _ 11 _ rfl
 have a12 : ((w.alloc (.cells #[.string (str e.uid),.string (str e.text),.int .i64 e.st,.int .i64 e.lg,.slice m.O e.rooms.length m.oc,.int .i64 e.r.fr,.int .i64 e.r.ev,.int .i64 e.r.ct,.int .i64 e.r.un,.slice m.D e.r.ds.length m.dc,.slice m.M e.r.ms.length m.mc,.slice m.Y e.r.ys.length m.yc,.slice m.X e.ex.length m.xc] 27)).alloc (.cells #[.string (str f.uid),.string (str f.text),.int .i64 f.st,.int .i64 f.lg,.slice n.O f.rooms.length n.oc,.int .i64 f.r.fr,.int .i64 f.r.ev,.int .i64 f.r.ct,.int .i64 f.r.un,.slice n.D f.r.ds.length n.dc,.slice n.M f.r.ms.length n.mc,.slice n.Y f.r.ys.length n.yc,.slice n.X f.ex.length n.xc] 27)).cell? ⟨w.heap.size,12,none⟩ = some (.slice m.X e.ex.length m.xc):=cell_two w _ _ _ _ 12 _ rfl
 have b0 : ((w.alloc (.cells #[.string (str e.uid),.string (str e.text),.int .i64 e.st,.int .i64 e.lg,.slice m.O e.rooms.length m.oc,.int .i64 e.r.fr,.int .i64 e.r.ev,.int .i64 e.r.ct,.int .i64 e.r.un,.slice m.D e.r.ds.length m.dc,.slice m.M e.r.ms.length m.mc,.slice m.Y e.r.ys.length m.yc,.slice m.X e.ex.length m.xc] 27)).alloc (.cells #[.string (str f.uid),.string (str f.text),.int .i64 f.st,.int .i64 f.lg,.slice n.O f.rooms.length n.oc,.int .i64 f.r.fr,.int .i64 f.r.ev,.int .i64 f.r.ct,.int .i64 f.r.un,.slice n.D f.r.ds.length n.dc,.slice n.M f.r.ms.length n.mc,.slice n.Y f.r.ys.length n.yc,.slice n.X f.ex.length n.xc] 27)).cell? ⟨w.heap.size + 1,0,none⟩ = some (.string (str f.uid)):=cell_two2 w _ _ _ _ 0 _ rfl
 have b1 : ((w.alloc (.cells #[.string (str e.uid),.string (str e.text),.int .i64 e.st,.int .i64 e.lg,.slice m.O e.rooms.length m.oc,.int .i64 e.r.fr,.int .i64 e.r.ev,.int .i64 e.r.ct,.int .i64 e.r.un,.slice m.D e.r.ds.length m.dc,.slice m.M e.r.ms.length m.mc,.slice m.Y e.r.ys.length m.yc,.slice m.X e.ex.length m.xc] 27)).alloc (.cells #[.string (str f.uid),.string (str f.text),.int .i64 f.st,.int .i64 f.lg,.slice n.O f.rooms.length n.oc,.int .i64 f.r.fr,.int .i64 f.r.ev,.int .i64 f.r.ct,.int .i64 f.r.un,.slice n.D f.r.ds.length n.dc,.slice n.M f.r.ms.length n.mc,.slice n.Y f.r.ys.length n.yc,.slice n.X f.ex.length n.xc] 27)).cell? ⟨w.heap.size + 1,1,none⟩ = some (.string (str f.text)):=cell_two2 w _ _ _ _ 1 _ rfl
 have b2 : ((w.alloc (.cells #[.string (str e.uid),.string (str e.text),.int .i64 e.st,.int .i64 e.lg,.slice m.O e.rooms.length m.oc,.int .i64 e.r.fr,.int .i64 e.r.ev,.int .i64 e.r.ct,.int .i64 e.r.un,.slice m.D e.r.ds.length m.dc,.slice m.M e.r.ms.length m.mc,.slice m.Y e.r.ys.length m.yc,.slice m.X e.ex.length m.xc] 27)).alloc (.cells #[.string (str f.uid),.string (str f.text),.int .i64 f.st,.int .i64 f.lg,.slice n.O f.rooms.length n.oc,.int .i64 f.r.fr,.int .i64 f.r.ev,.int .i64 f.r.ct,.int .i64 f.r.un,.slice n.D f.r.ds.length n.dc,.slice n.M f.r.ms.length n.mc,.slice n.Y f.r.ys.length n.yc,.slice n.X f.ex.length n.xc] 27)).cell? ⟨w.heap.size + 1,2,none⟩ = some (.int .i64 f.st):=cell_two2 w _ _ _ _ 2 _ rfl
 have b3 : ((w.alloc (.cells #[.string (str e.uid),.string (str e.text),.int .i64 e.st,.int .i64 e.lg,.slice m.O e.rooms.length m.oc,.int .i64 e.r.fr,.int .i64 e.r.ev,.int .i64 e.r.ct,.int .i64 e.r.un,.slice m.D e.r.ds.length m.dc,.slice m.M e.r.ms.length m.mc,.slice m.Y e.r.ys.length m.yc,.slice m.X e.ex.length m.xc] 27)).alloc (.cells #[.string (str f.uid),.string (str f.text),.int .i64 f.st,.int .i64 f.lg,.slice n.O f.rooms.length n.oc,.int .i64 f.r.fr,.int .i64 f.r.ev,.int .i64 f.r.ct,.int .i64 f.r.un,.slice n.D f.r.ds.length n.dc,.slice n.M f.r.ms.length n.mc,.slice n.Y f.r.ys.length n.yc,.slice n.X f.ex.length n.xc] 27)).cell? ⟨w.heap.size + 1,3,none⟩ = some (.int .i64 f.lg):=cell_two2 w _ _ _ _ 3 _ rfl
 have b4 : ((w.alloc (.cells #[.string (str e.uid),.string (str e.text),.int .i64 e.st,.int .i64 e.lg,.slice m.O e.rooms.length m.oc,.int .i64 e.r.fr,.int .i64 e.r.ev,.int .i64 e.r.ct,.int .i64 e.r.un,.slice m.D e.r.ds.length m.dc,.slice m.M e.r.ms.length m.mc,.slice m.Y e.r.ys.length m.yc,.slice m.X e.ex.length m.xc] 27)).alloc (.cells #[.string (str f.uid),.string (str f.text),.int .i64 f.st,.int .i64 f.lg,.slice n.O f.rooms.length n.oc,.int .i64 f.r.fr,.int .i64 f.r.ev,.int .i64 f.r.ct,.int .i64 f.r.un,.slice n.D f.r.ds.length n.dc,.slice n.M f.r.ms.length n.mc,.slice n.Y f.r.ys.length n.yc,.slice n.X f.ex.length n.xc] 27)).cell? ⟨w.heap.size + 1,4,none⟩ = some (.slice n.O f.rooms.length n.oc):=cell_two2 w _ _ _ _ 4 _ rfl
 have b5 : ((w.alloc (.cells #[.string (str e.uid),.string (str e.text),.int .i64 e.st,.int .i64 e.lg,.slice m.O e.rooms.length m.oc,.int .i64 e.r.fr,.int .i64 e.r.ev,.int .i64 e.r.ct,.int .i64 e.r.un,.slice m.D e.r.ds.length m.dc,.slice m.M e.r.ms.length m.mc,.slice m.Y e.r.ys.length m.yc,.slice m.X e.ex.length m.xc] 27)).alloc (.cells #[.string (str f.uid),.string (str f.text),.int .i64 f.st,.int .i64 f.lg,.slice n.O f.rooms.length n.oc,.int .i64 f.r.fr,.int .i64 f.r.ev,.int .i64 f.r.ct,.int .i64 f.r.un,.slice n.D f.r.ds.length n.dc,.slice n.M f.r.ms.length n.mc,.slice n.Y f.r.ys.length n.yc,.slice n.X f.ex.length n.xc] 27)).cell? ⟨w.heap.size + 1,5,none⟩ = some (.int .i64 f.r.fr):=cell_two2 w _ _ _ _ 5 _ rfl
 have b6 : ((w.alloc (.cells #[.string (str e.uid),.string (str e.text),.int .i64 e.st,.int .i64 e.lg,.slice m.O e.rooms.length m.oc,.int .i64 e.r.fr,.int .i64 e.r.ev,.int .i64 e.r.ct,.int .i64 e.r.un,.slice m.D e.r.ds.length m.dc,.slice m.M e.r.ms.length m.mc,.slice m.Y e.r.ys.length m.yc,.slice m.X e.ex.length m.xc] 27)).alloc (.cells #[.string (str f.uid),.string (str f.text),.int .i64 f.st,.int .i64 f.lg,.slice n.O f.rooms.length n.oc,.int .i64 f.r.fr,.int .i64 f.r.ev,.int .i64 f.r.ct,.int .i64 f.r.un,.slice n.D f.r.ds.length n.dc,.slice n.M f.r.ms.length n.mc,.slice n.Y f.r.ys.length n.yc,.slice n.X f.ex.length n.xc] 27)).cell? ⟨w.heap.size + 1,6,none⟩ = some (.int .i64 f.r.ev):=cell_two2 w _ _ _ _ 6 _ rfl
 have b7 : ((w.alloc (.cells #[.string (str e.uid),.string (str e.text),.int .i64 e.st,.int .i64 e.lg,.slice m.O e.rooms.length m.oc,.int .i64 e.r.fr,.int .i64 e.r.ev,.int .i64 e.r.ct,.int .i64 e.r.un,.slice m.D e.r.ds.length m.dc,.slice m.M e.r.ms.length m.mc,.slice m.Y e.r.ys.length m.yc,.slice m.X e.ex.length m.xc] 27)).alloc (.cells #[.string (str f.uid),.string (str f.text),.int .i64 f.st,.int .i64 f.lg,.slice n.O f.rooms.length n.oc,.int .i64 f.r.fr,.int .i64 f.r.ev,.int .i64 f.r.ct,.int .i64 f.r.un,.slice n.D f.r.ds.length n.dc,.slice n.M f.r.ms.length n.mc,.slice n.Y f.r.ys.length n.yc,.slice n.X f.ex.length n.xc] 27)).cell? ⟨w.heap.size + 1,7,none⟩ = some (.int .i64 f.r.ct):=cell_two2 w _ _ _ _ 7 _ rfl
 have b8 : ((w.alloc (.cells #[.string (str e.uid),.string (str e.text),.int .i64 e.st,.int .i64 e.lg,.slice m.O e.rooms.length m.oc,.int .i64 e.r.fr,.int .i64 e.r.ev,.int .i64 e.r.ct,.int .i64 e.r.un,.slice m.D e.r.ds.length m.dc,.slice m.M e.r.ms.length m.mc,.slice m.Y e.r.ys.length m.yc,.slice m.X e.ex.length m.xc] 27)).alloc (.cells #[.string (str f.uid),.string (str f.text),.int .i64 f.st,.int .i64 f.lg,.slice n.O f.rooms.length n.oc,.int .i64 f.r.fr,.int .i64 f.r.ev,.int .i64 f.r.ct,.int .i64 f.r.un,.slice n.D f.r.ds.length n.dc,.slice n.M f.r.ms.length n.mc,.slice n.Y f.r.ys.length n.yc,.slice n.X f.ex.length n.xc] 27)).cell? ⟨w.heap.size + 1,8,none⟩ = some (.int .i64 f.r.un):=cell_two2 w _ _ _ _ 8 _ rfl
 have b9 : ((w.alloc (.cells #[.string (str e.uid),.string (str e.text),.int .i64 e.st,.int .i64 e.lg,.slice m.O e.rooms.length m.oc,.int .i64 e.r.fr,.int .i64 e.r.ev,.int .i64 e.r.ct,.int .i64 e.r.un,.slice m.D e.r.ds.length m.dc,.slice m.M e.r.ms.length m.mc,.slice m.Y e.r.ys.length m.yc,.slice m.X e.ex.length m.xc] 27)).alloc (.cells #[.string (str f.uid),.string (str f.text),.int .i64 f.st,.int .i64 f.lg,.slice n.O f.rooms.length n.oc,.int .i64 f.r.fr,.int .i64 f.r.ev,.int .i64 f.r.ct,.int .i64 f.r.un,.slice n.D f.r.ds.length n.dc,.slice n.M f.r.ms.length n.mc,.slice n.Y f.r.ys.length n.yc,.slice n.X f.ex.length n.xc] 27)).cell? ⟨w.heap.size + 1,9,none⟩ = some (.slice n.D f.r.ds.length n.dc):=cell_two2 w _ _ _ _ 9 _ rfl
 have b10 : ((w.alloc (.cells #[.string (str e.uid),.string (str e.text),.int .i64 e.st,.int .i64 e.lg,.slice m.O e.rooms.length m.oc,.int .i64 e.r.fr,.int .i64 e.r.ev,.int .i64 e.r.ct,.int .i64 e.r.un,.slice m.D e.r.ds.length m.dc,.slice m.M e.r.ms.length m.mc,.slice m.Y e.r.ys.length m.yc,.slice m.X e.ex.length m.xc] 27)).alloc (.cells #[.string (str f.uid),.string (str f.text),.int .i64 f.st,.int .i64 f.lg,.slice n.O f.rooms.length n.oc,.int .i64 f.r.fr,.int .i64 f.r.ev,.int .i64 f.r.ct,.int .i64 f.r.un,.slice n.D f.r.ds.length n.dc,.slice n.M f.r.ms.length n.mc,.slice n.Y f.r.ys.length n.yc,.slice n.X f.ex.length n.xc] 27)).cell? ⟨w.heap.size + 1,10,none⟩ = some (.slice n.M f.r.ms.length n.mc):=cell_two2 w _ _ _ _ 10 _ rfl
 have b11 : ((w.alloc (.cells #[.string (str e.uid),.string (str e.text),.int .i64 e.st,.int .i64 e.lg,.slice m.O e.rooms.length m.oc,.int .i64 e.r.fr,.int .i64 e.r.ev,.int .i64 e.r.ct,.int .i64 e.r.un,.slice m.D e.r.ds.length m.dc,.slice m.M e.r.ms.length m.mc,.slice m.Y e.r.ys.length m.yc,.slice m.X e.ex.length m.xc] 27)).alloc (.cells #[.string (str f.uid),.string (str f.text),.int .i64 f.st,.int .i64 f.lg,.slice n.O f.rooms.length n.oc,.int .i64 f.r.fr,.int .i64 f.r.ev,.int .i64 f.r.ct,.int .i64 f.r.un,.slice n.D f.r.ds.length n.dc,.slice n.M f.r.ms.length n.mc,.slice n.Y f.r.ys.length n.yc,.slice n.X f.ex.length n.xc] 27)).cell? ⟨w.heap.size + 1,11,none⟩ = some (.slice n.Y f.r.ys.length n.yc):=cell_two2 w _ _ _ _ 11 _ rfl
 have b12 : ((w.alloc (.cells #[.string (str e.uid),.string (str e.text),.int .i64 e.st,.int .i64 e.lg,.slice m.O e.rooms.length m.oc,.int .i64 e.r.fr,.int .i64 e.r.ev,.int .i64 e.r.ct,.int .i64 e.r.un,.slice m.D e.r.ds.length m.dc,.slice m.M e.r.ms.length m.mc,.slice m.Y e.r.ys.length m.yc,.slice m.X e.ex.length m.xc] 27)).alloc (.cells #[.string (str f.uid),.string (str f.text),.int .i64 f.st,.int .i64 f.lg,.slice n.O f.rooms.length n.oc,.int .i64 f.r.fr,.int .i64 f.r.ev,.int .i64 f.r.ct,.int .i64 f.r.un,.slice n.D f.r.ds.length n.dc,.slice n.M f.r.ms.length n.mc,.slice n.Y f.r.ys.length n.yc,.slice n.X f.ex.length n.xc] 27)).cell? ⟨w.heap.size + 1,12,none⟩ = some (.slice n.X f.ex.length n.xc):=cell_two2 w _ _ _ _ 12 _ rfl
 have HLE:=hide (h.keep HBX.out)
 have HLF:=hide (k.keep HBX.out)
 clear he hf kf hb1 hb2 hL hLL h k
 go_enter Tryz.func3,Tryz.ntmps3
 go_wp2_with fail
 refine (known_any _ (HE.out.keep HBX.out)).mono ?_
 rintro _ w1 ⟨rfl,hb1⟩
 replace HBX:=hide (andthen HBX.out hb1)
 replace HLE:=hide (HLE.out.keep hb1)
 replace HLF:=hide (HLF.out.keep hb1)
 replace a0:=cell_keep hb1 a0
 replace a1:=cell_keep hb1 a1
 replace a2:=cell_keep hb1 a2
 replace a3:=cell_keep hb1 a3
 replace a4:=cell_keep hb1 a4
 replace a5:=cell_keep hb1 a5
 replace a6:=cell_keep hb1 a6
 replace a7:=cell_keep hb1 a7
 replace a8:=cell_keep hb1 a8
 replace a9:=cell_keep hb1 a9
 replace a10:=cell_keep hb1 a10
 replace a11:=cell_keep hb1 a11
 replace a12:=cell_keep hb1 a12
 replace b0:=cell_keep hb1 b0
 replace b1:=cell_keep hb1 b1
 replace b2:=cell_keep hb1 b2
 replace b3:=cell_keep hb1 b3
 replace b4:=cell_keep hb1 b4
 replace b5:=cell_keep hb1 b5
 replace b6:=cell_keep hb1 b6
 replace b7:=cell_keep hb1 b7
 replace b8:=cell_keep hb1 b8
 replace b9:=cell_keep hb1 b9
 replace b10:=cell_keep hb1 b10
 replace b11:=cell_keep hb1 b11
 replace b12:=cell_keep hb1 b12
 clear hb1
 go_wp2_with fail
 refine (ans_is (fewE_any (str e.uid) (str e.text) e.st e.lg m.O e.rooms.length m.oc e.r.fr e.r.ev e.r.ct e.r.un m.D m.M m.Y m.X e.r.ds.length m.dc e.r.ms.length m.mc e.r.ys.length m.yc e.ex.length m.xc _) HF.out).mono ?_
 rintro _ w2 ⟨rfl,hb1⟩
 replace HBX:=hide (andthen HBX.out hb1)
 replace HLE:=hide (HLE.out.keep hb1)
 replace HLF:=hide (HLF.out.keep hb1)
 replace a0:=cell_keep hb1 a0
 replace a1:=cell_keep hb1 a1
 replace a2:=cell_keep hb1 a2
 replace a3:=cell_keep hb1 a3
 replace a4:=cell_keep hb1 a4
 replace a5:=cell_keep hb1 a5
 replace a6:=cell_keep hb1 a6
 replace a7:=cell_keep hb1 a7
 replace a8:=cell_keep hb1 a8
 replace a9:=cell_keep hb1 a9
 replace a10:=cell_keep hb1 a10
 replace a11:=cell_keep hb1 a11
 replace a12:=cell_keep hb1 a12
 replace b0:=cell_keep hb1 b0
 replace b1:=cell_keep hb1 b1
 replace b2:=cell_keep hb1 b2
 replace b3:=cell_keep hb1 b3
 replace b4:=cell_keep hb1 b4
 replace b5:=cell_keep hb1 b5
 replace b6:=cell_keep hb1 b6
 replace b7:=cell_keep hb1 b7
 replace b8:=cell_keep hb1 b8
 replace b9:=cell_keep hb1 b9
 replace b10:=cell_keep hb1 b10
 replace b11:=cell_keep hb1 b11
 replace b12:=cell_keep hb1 b12
 clear hb1
 go_wp2_with fail
 refine (ans_is (fewE_any (str f.uid) (str f.text) f.st f.lg n.O f.rooms.length n.oc f.r.fr f.r.ev f.r.ct f.r.un n.D n.M n.Y n.X f.r.ds.length n.dc f.r.ms.length n.mc f.r.ys.length n.yc f.ex.length n.xc _) HF2.out).mono ?_
 rintro _ w3 ⟨rfl,hb1⟩
 replace HBX:=hide (andthen HBX.out hb1)
 replace HLE:=hide (HLE.out.keep hb1)
 replace HLF:=hide (HLF.out.keep hb1)
 replace a0:=cell_keep hb1 a0
 replace a1:=cell_keep hb1 a1
 replace a2:=cell_keep hb1 a2
 replace a3:=cell_keep hb1 a3
 replace a4:=cell_keep hb1 a4
 replace a5:=cell_keep hb1 a5
 replace a6:=cell_keep hb1 a6
 replace a7:=cell_keep hb1 a7
 replace a8:=cell_keep hb1 a8
 replace a9:=cell_keep hb1 a9
 replace a10:=cell_keep hb1 a10
 replace a11:=cell_keep hb1 a11
 replace a12:=cell_keep hb1 a12
 replace b0:=cell_keep hb1 b0
 replace b1:=cell_keep hb1 b1
 replace b2:=cell_keep hb1 b2
 replace b3:=cell_keep hb1 b3
 replace b4:=cell_keep hb1 b4
 replace b5:=cell_keep hb1 b5
 replace b6:=cell_keep hb1 b6
 replace b7:=cell_keep hb1 b7
 replace b8:=cell_keep hb1 b8
 replace b9:=cell_keep hb1 b9
 replace b10:=cell_keep hb1 b10
 replace b11:=cell_keep hb1 b11
 replace b12:=cell_keep hb1 b12
 clear hb1 HF HF2
 go_wp2_with fail
 have hS:=(And.intro a0 (And.intro a1 (And.intro a2 (And.intro a3 (And.intro a4 (And.intro a5 (And.intro a6 (And.intro a7 (And.intro a8 (And.intro a9 (And.intro a10 (And.intro a11 (And.intro a12 (And.intro b0 (And.intro b1 (And.intro b2 (And.intro b3 (And.intro b4 (And.intro b5 (And.intro b6 (And.intro b7 (And.intro b8 (And.intro b9 (And.intro b10 (And.intro b11 (And.intro b12 (TwoE.mk HLE.out HLF.out (HE.out.keep HBX.out) HBX.out)))))))))))))))))))))))))))
 clear a0 b0 a1 b1 a2 b2 a3 b3 a4 b4 a5 b5 a6 b6 a7 b7 a8 b8 a9 b9 a10 b10 a11 b11 a12 b12 HE HBX HLE HLF
 refine wp_region_held_drew (S:=(fun w' => w'.cell? ⟨w.heap.size,0,none⟩ = some (.string (str e.uid)) ∧ w'.cell? ⟨w.heap.size,1,none⟩ = some (.string (str e.text)) ∧ w'.cell? ⟨w.heap.size,2,none⟩ = some (.int .i64 e.st) ∧ w'.cell? ⟨w.heap.size,3,none⟩ = some (.int .i64 e.lg) ∧ w'.cell? ⟨w.heap.size,4,none⟩ = some (.slice m.O e.rooms.length m.oc) ∧ w'.cell? ⟨w.heap.size,5,none⟩ = some (.int .i64 e.r.fr) ∧ w'.cell? ⟨w.heap.size,6,none⟩ = some (.int .i64 e.r.ev) ∧ w'.cell? ⟨w.heap.size,7,none⟩ = some (.int .i64 e.r.ct) ∧ w'.cell? ⟨w.heap.size,8,none⟩ = some (.int .i64 e.r.un) ∧ w'.cell? ⟨w.heap.size,9,none⟩ = some (.slice m.D e.r.ds.length m.dc) ∧ w'.cell? ⟨w.heap.size,10,none⟩ = some (.slice m.M e.r.ms.length m.mc) ∧ w'.cell? ⟨w.heap.size,11,none⟩ = some (.slice m.Y e.r.ys.length m.yc) ∧ w'.cell? ⟨w.heap.size,12,none⟩ = some (.slice m.X e.ex.length m.xc) ∧ w'.cell? ⟨w.heap.size + 1,0,none⟩ = some (.string (str f.uid)) ∧ w'.cell? ⟨w.heap.size + 1,1,none⟩ = some (.string (str f.text)) ∧ w'.cell? ⟨w.heap.size + 1,2,none⟩ = some (.int .i64 f.st) ∧ w'.cell? ⟨w.heap.size + 1,3,none⟩ = some (.int .i64 f.lg) ∧ w'.cell? ⟨w.heap.size + 1,4,none⟩ = some (.slice n.O f.rooms.length n.oc) ∧ w'.cell? ⟨w.heap.size + 1,5,none⟩ = some (.int .i64 f.r.fr) ∧ w'.cell? ⟨w.heap.size + 1,6,none⟩ = some (.int .i64 f.r.ev) ∧ w'.cell? ⟨w.heap.size + 1,7,none⟩ = some (.int .i64 f.r.ct) ∧ w'.cell? ⟨w.heap.size + 1,8,none⟩ = some (.int .i64 f.r.un) ∧ w'.cell? ⟨w.heap.size + 1,9,none⟩ = some (.slice n.D f.r.ds.length n.dc) ∧ w'.cell? ⟨w.heap.size + 1,10,none⟩ = some (.slice n.M f.r.ms.length n.mc) ∧ w'.cell? ⟨w.heap.size + 1,11,none⟩ = some (.slice n.Y f.r.ys.length n.yc) ∧ w'.cell? ⟨w.heap.size + 1,12,none⟩ = some (.slice n.X f.ex.length n.xc) ∧ TwoE w e f m n w')) (by kernel_rfl) ?_ (fun hH0 => ?_)
 ·exact two_keep (Below.drew (start _)) hS
 refine' wpAnyH_take (i:=0) (oi:=_) (v:=?v0) rfl (by as_aux_lemma => kernel_rfl) (by as_aux_lemma => kernel_rfl) (by as_aux_lemma => kernel_rfl) (fun _ _ _ h => h) (Or.inl ⟨by rfl,?y0⟩) hH0 ?r0
 case y0 => (intro w hSw; (try dsimp only at hSw); go_simp; (try with_reducible rfl))
 try simp only [Act.put,List.getElem_toArray,List.getElem_cons_succ,List.getElem_cons_zero,List.setIfInBounds_toArray,List.set_cons_zero,List.set_cons_succ]
 refine' wpAnyH_take (i:=2) (oi:=_) (v:=?v1) rfl (by as_aux_lemma => kernel_rfl) (by as_aux_lemma => kernel_rfl) (by as_aux_lemma => kernel_rfl) (fun _ _ _ h => h) (Or.inl ⟨by rfl,?y1⟩) hH0 ?r1
 case y1 => (intro w hSw; (try dsimp only at hSw); go_simp; (try with_reducible rfl))
 try simp only [Act.put,List.getElem_toArray,List.getElem_cons_succ,List.getElem_cons_zero,List.setIfInBounds_toArray,List.set_cons_zero,List.set_cons_succ]
 refine wpAnyH_ready (rs:=[1]) (by as_aux_lemma => kernel_rfl) (by simp) ?_
 refine AllReadyH.cons (o:=_) rfl (fun K hK => ?_) AllReadyH.nil
 go_simp
 refine (eis_at e m b1 _ hH0.2.2.2.2.2.2.2.2.2.2.2.2.2.2.2.2.2.2.2.2.2.2.2.2.2.2.l HB1.out).mono ?_
 rintro _ wz ⟨rfl,hb⟩
 refine hK.out _ _ (two_keep hb hH0) (fun hN => ?_)
 clear hK K hH0
 have hH1:=hN
 clear hN
 try simp only [Act.put,List.getElem_toArray,List.getElem_cons_succ,List.getElem_cons_zero,List.setIfInBounds_toArray,List.set_cons_zero,List.set_cons_succ]
 refine wpAnyH_ready (rs:=[3]) (by as_aux_lemma => kernel_rfl) (by simp) ?_
 refine AllReadyH.cons (o:=_) rfl (fun K hK => ?_) AllReadyH.nil
 go_simp
 refine (ans_is (rIs_any e m _ hH1.2.2.2.2.2.2.2.2.2.2.2.2.2.2.2.2.2.2.2.2.2.2.2.2.2.2.l) HB1.out).mono ?_
 rintro _ wz ⟨rfl,hb⟩
 refine hK.out _ _ (two_keep hb hH1) (fun hN => ?_)
 clear hK K hH1
 have hH2:=hN
 clear hN
 try simp only [Act.put,List.getElem_toArray,List.getElem_cons_succ,List.getElem_cons_zero,List.setIfInBounds_toArray,List.set_cons_zero,List.set_cons_succ]
 refine' wpAnyH_take (i:=4) (oi:=_) (v:=?v2) rfl (by as_aux_lemma => kernel_rfl) (by as_aux_lemma => kernel_rfl) (by as_aux_lemma => kernel_rfl) (fun _ _ _ h => h) (Or.inl ⟨by rfl,?y2⟩) hH2 ?r2
 case y2 => (intro w hSw; (try dsimp only at hSw); go_simp; (try with_reducible rfl))
 try simp only [Act.put,List.getElem_toArray,List.getElem_cons_succ,List.getElem_cons_zero,List.setIfInBounds_toArray,List.set_cons_zero,List.set_cons_succ]
 refine' wpAnyH_take (i:=5) (oi:=_) (v:=?v3) rfl (by as_aux_lemma => kernel_rfl) (by as_aux_lemma => kernel_rfl) (by as_aux_lemma => kernel_rfl) (fun _ _ _ h => h) (Or.inl ⟨by rfl,?y3⟩) hH2 ?r3
 case y3 => (intro w hSw; (try dsimp only at hSw); go_simp; (try with_reducible rfl))
 try simp only [Act.put,List.getElem_toArray,List.getElem_cons_succ,List.getElem_cons_zero,List.setIfInBounds_toArray,List.set_cons_zero,List.set_cons_succ]
 refine' wpAnyH_take (i:=6) (oi:=_) (v:=?v4) rfl (by as_aux_lemma => kernel_rfl) (by as_aux_lemma => kernel_rfl) (by as_aux_lemma => kernel_rfl) (fun _ _ _ h => h) (Or.inl ⟨by rfl,?y4⟩) hH2 ?r4
 case y4 => (intro w hSw; (try dsimp only at hSw); go_simp; (try with_reducible rfl))
 try simp only [Act.put,List.getElem_toArray,List.getElem_cons_succ,List.getElem_cons_zero,List.setIfInBounds_toArray,List.set_cons_zero,List.set_cons_succ]
 refine' wpAnyH_take (i:=7) (oi:=_) (v:=?v5) rfl (by as_aux_lemma => kernel_rfl) (by as_aux_lemma => kernel_rfl) (by as_aux_lemma => kernel_rfl) (fun _ _ _ h => h) (Or.inl ⟨by rfl,?y5⟩) hH2 ?r5
 case y5 => (intro w hSw; (try dsimp only at hSw); go_simp; (try with_reducible rfl))
 try simp only [Act.put,List.getElem_toArray,List.getElem_cons_succ,List.getElem_cons_zero,List.setIfInBounds_toArray,List.set_cons_zero,List.set_cons_succ]
 refine' wpAnyH_take (i:=9) (oi:=_) (v:=?v6) rfl (by as_aux_lemma => kernel_rfl) (by as_aux_lemma => kernel_rfl) (by as_aux_lemma => kernel_rfl) (fun _ _ _ h => h) (Or.inl ⟨by rfl,?y6⟩) hH2 ?r6
 case y6 => (intro w hSw; (try dsimp only at hSw); go_simp; (try with_reducible rfl))
 try simp only [Act.put,List.getElem_toArray,List.getElem_cons_succ,List.getElem_cons_zero,List.setIfInBounds_toArray,List.set_cons_zero,List.set_cons_succ]
 refine' wpAnyH_take (i:=10) (oi:=_) (v:=?v7) rfl (by as_aux_lemma => kernel_rfl) (by as_aux_lemma => kernel_rfl) (by as_aux_lemma => kernel_rfl) (fun _ _ _ h => h) (Or.inl ⟨by rfl,?y7⟩) hH2 ?r7
 case y7 => (intro w hSw; (try dsimp only at hSw); go_simp; (try with_reducible rfl))
 try simp only [Act.put,List.getElem_toArray,List.getElem_cons_succ,List.getElem_cons_zero,List.setIfInBounds_toArray,List.set_cons_zero,List.set_cons_succ]
 refine wpAnyH_ready (rs:=[8]) (by as_aux_lemma => kernel_rfl) (by simp) ?_
 refine AllReadyH.cons (o:=_) rfl (fun K hK => ?_) AllReadyH.nil
 go_simp
 refine (esame_at e f m n b2 _ hH2.2.2.2.2.2.2.2.2.2.2.2.2.2.2.2.2.2.2.2.2.2.2.2.2.2.2.l hH2.2.2.2.2.2.2.2.2.2.2.2.2.2.2.2.2.2.2.2.2.2.2.2.2.2.2.k HB2.out).mono ?_
 rintro _ wz ⟨rfl,hb⟩
 refine hK.out _ _ (two_keep hb hH2) (fun hN => ?_)
 clear hK K hH2
 have hH3:=hN
 clear hN
 try simp only [Act.put,List.getElem_toArray,List.getElem_cons_succ,List.getElem_cons_zero,List.setIfInBounds_toArray,List.set_cons_zero,List.set_cons_succ]
 refine wpAnyH_ready (rs:=[11]) (by as_aux_lemma => kernel_rfl) (by simp) ?_
 refine AllReadyH.cons (o:=_) rfl (fun K hK => ?_) AllReadyH.nil
 go_simp
 refine (ans_is (rSame_any e f m n _ hH3.2.2.2.2.2.2.2.2.2.2.2.2.2.2.2.2.2.2.2.2.2.2.2.2.2.2.l hH3.2.2.2.2.2.2.2.2.2.2.2.2.2.2.2.2.2.2.2.2.2.2.2.2.2.2.k) HB2.out).mono ?_
 rintro _ wz ⟨rfl,hb⟩
 refine hK.out _ _ (two_keep hb hH3) (fun hN => ?_)
 clear hK K hH3
 have hH4:=hN
 clear hN
 try simp only [Act.put,List.getElem_toArray,List.getElem_cons_succ,List.getElem_cons_zero,List.setIfInBounds_toArray,List.set_cons_zero,List.set_cons_succ]
 refine' wpAnyH_take (i:=12) (oi:=_) (v:=?v8) rfl (by as_aux_lemma => kernel_rfl) (by as_aux_lemma => kernel_rfl) (by as_aux_lemma => kernel_rfl) (fun _ _ _ h => h) (Or.inl ⟨by rfl,?y8⟩) hH4 ?r8
 case y8 => (intro w hSw; (try dsimp only at hSw); go_simp; (try with_reducible rfl))
 try simp only [Act.put,List.getElem_toArray,List.getElem_cons_succ,List.getElem_cons_zero,List.setIfInBounds_toArray,List.set_cons_zero,List.set_cons_succ]
 refine' wpAnyH_take (i:=13) (oi:=_) (v:=?v9) rfl (by as_aux_lemma => kernel_rfl) (by as_aux_lemma => kernel_rfl) (by as_aux_lemma => kernel_rfl) (fun _ _ _ h => h) (Or.inl ⟨by rfl,?y9⟩) hH4 ?r9
 case y9 => (intro w hSw; (try dsimp only at hSw); go_simp; (try with_reducible rfl))
 try simp only [Act.put,List.getElem_toArray,List.getElem_cons_succ,List.getElem_cons_zero,List.setIfInBounds_toArray,List.set_cons_zero,List.set_cons_succ]
 refine' wpAnyH_take (i:=14) (oi:=_) (v:=?v10) rfl (by as_aux_lemma => kernel_rfl) (by as_aux_lemma => kernel_rfl) (by as_aux_lemma => kernel_rfl) (fun _ _ _ h => h) (Or.inl ⟨by rfl,?y10⟩) hH4 ?r10
 case y10 => (intro w hSw; (try dsimp only at hSw); go_simp; (try with_reducible rfl))
 try simp only [Act.put,List.getElem_toArray,List.getElem_cons_succ,List.getElem_cons_zero,List.setIfInBounds_toArray,List.set_cons_zero,List.set_cons_succ]
 refine' wpAnyH_take (i:=15) (oi:=_) (v:=?v11) rfl (by as_aux_lemma => kernel_rfl) (by as_aux_lemma => kernel_rfl) (by as_aux_lemma => kernel_rfl) (fun _ _ _ h => h) (Or.inl ⟨by rfl,?y11⟩) hH4 ?r11
 case y11 => (intro w hSw; (try dsimp only at hSw); go_simp; (try with_reducible rfl))
 try simp only [Act.put,List.getElem_toArray,List.getElem_cons_succ,List.getElem_cons_zero,List.setIfInBounds_toArray,List.set_cons_zero,List.set_cons_succ]
 refine' wpAnyH_take (i:=17) (oi:=_) (v:=?v12) rfl (by as_aux_lemma => kernel_rfl) (by as_aux_lemma => kernel_rfl) (by as_aux_lemma => kernel_rfl) (fun _ _ _ h => h) (Or.inl ⟨by rfl,?y12⟩) hH4 ?r12
 case y12 => (intro w hSw; (try dsimp only at hSw); go_simp; (try with_reducible rfl))
 try simp only [Act.put,List.getElem_toArray,List.getElem_cons_succ,List.getElem_cons_zero,List.setIfInBounds_toArray,List.set_cons_zero,List.set_cons_succ]
 refine wpAnyH_ready (rs:=[16]) (by as_aux_lemma => kernel_rfl) (by simp) ?_
 refine AllReadyH.cons (o:=_) rfl (fun K hK => ?_) AllReadyH.nil
 go_simp
 refine (lines_some e m _ hH4.2.2.2.2.2.2.2.2.2.2.2.2.2.2.2.2.2.2.2.2.2.2.2.2.2.2.l hH4.2.2.2.2.2.2.2.2.2.2.2.2.2.2.2.2.2.2.2.2.2.2.2.2.2.2.v L HL.out).mono ?_
 rintro _ wz ⟨A1,cap1,rfl,_,hr1,hb⟩
 first | replace hr2:=RowS.keep hr2 hb | skip
 refine hK.out _ _ (two_keep hb hH4) (fun hN => ?_)
 clear hK K hH4
 have hH5:=hN
 clear hN
 try simp only [Act.put,List.getElem_toArray,List.getElem_cons_succ,List.getElem_cons_zero,List.setIfInBounds_toArray,List.set_cons_zero,List.set_cons_succ]
 refine wpAnyH_ready (rs:=[18]) (by as_aux_lemma => kernel_rfl) (by simp) ?_
 refine AllReadyH.cons (o:=_) rfl (fun K hK => ?_) AllReadyH.nil
 go_simp
 refine (rlines_some e m _ hH5.2.2.2.2.2.2.2.2.2.2.2.2.2.2.2.2.2.2.2.2.2.2.2.2.2.2.l L HL.out).mono ?_
 rintro _ wz ⟨A2,cap2,rfl,_,hr2,hb⟩
 first | replace hr1:=RowS.keep hr1 hb | skip
 refine hK.out _ _ (two_keep hb hH5) (fun hN => ?_)
 clear hK K hH5
 have hH6:=hN
 clear hN
 try simp only [Act.put,List.getElem_toArray,List.getElem_cons_succ,List.getElem_cons_zero,List.setIfInBounds_toArray,List.set_cons_zero,List.set_cons_succ]
 refine wpAnyH_ready (rs:=[19]) (by as_aux_lemma => kernel_rfl) (by simp) ?_
 refine AllReadyH.cons (o:=_) rfl (fun K hK => ?_) AllReadyH.nil
 go_simp
 refine (ans_is (same10_any A1 A2 L.length L.length cap1 cap2 L L _ hr1 hr2 rfl rfl HLL.out) (decide_eq_true rfl)).mono ?_
 rintro _ wz ⟨rfl,hb⟩
 clear hr1 hr2
 refine hK.out _ _ (two_keep hb hH6) (fun hN => ?_)
 clear hK K hH6
 have hH7:=hN
 clear hN
 try simp only [Act.put,List.getElem_toArray,List.getElem_cons_succ,List.getElem_cons_zero,List.setIfInBounds_toArray,List.set_cons_zero,List.set_cons_succ]
 refine' wpAnyH_take (i:=20) (oi:=_) (v:=?v13) rfl (by as_aux_lemma => kernel_rfl) (by as_aux_lemma => kernel_rfl) (by as_aux_lemma => kernel_rfl) (fun _ _ _ h => h) (Or.inl ⟨by rfl,?y13⟩) hH7 ?r13
 case y13 => (intro w hSw; (try dsimp only at hSw); go_simp; (try with_reducible rfl))
 try simp only [Act.put,List.getElem_toArray,List.getElem_cons_succ,List.getElem_cons_zero,List.setIfInBounds_toArray,List.set_cons_zero,List.set_cons_succ]
 refine' wpAnyH_take (i:=21) (oi:=_) (v:=?v14) rfl (by as_aux_lemma => kernel_rfl) (by as_aux_lemma => kernel_rfl) (by as_aux_lemma => kernel_rfl) (fun _ _ _ h => h) (Or.inl ⟨by rfl,?y14⟩) hH7 ?r14
 case y14 => (intro w hSw; (try dsimp only at hSw); go_simp; (try with_reducible rfl))
 try simp only [Act.put,List.getElem_toArray,List.getElem_cons_succ,List.getElem_cons_zero,List.setIfInBounds_toArray,List.set_cons_zero,List.set_cons_succ]
 refine' wpAnyH_take (i:=22) (oi:=_) (v:=?v15) rfl (by as_aux_lemma => kernel_rfl) (by as_aux_lemma => kernel_rfl) (by as_aux_lemma => kernel_rfl) (fun _ _ _ h => h) (Or.inl ⟨by rfl,?y15⟩) hH7 ?r15
 case y15 => (intro w hSw; (try dsimp only at hSw); go_simp; (try with_reducible rfl))
 try simp only [Act.put,List.getElem_toArray,List.getElem_cons_succ,List.getElem_cons_zero,List.setIfInBounds_toArray,List.set_cons_zero,List.set_cons_succ]
 refine' wpAnyH_take (i:=24) (oi:=_) (v:=?v16) rfl (by as_aux_lemma => kernel_rfl) (by as_aux_lemma => kernel_rfl) (by as_aux_lemma => kernel_rfl) (fun _ _ _ h => h) (Or.inl ⟨by rfl,?y16⟩) hH7 ?r16
 case y16 => (intro w hSw; (try dsimp only at hSw); go_simp; (try with_reducible rfl))
 try simp only [Act.put,List.getElem_toArray,List.getElem_cons_succ,List.getElem_cons_zero,List.setIfInBounds_toArray,List.set_cons_zero,List.set_cons_succ]
 refine wpAnyH_ready (rs:=[23]) (by as_aux_lemma => kernel_rfl) (by simp) ?_
 refine AllReadyH.cons (o:=_) rfl (fun K hK => ?_) AllReadyH.nil
 go_simp
 refine (copy_any2 e m _ hH7.2.2.2.2.2.2.2.2.2.2.2.2.2.2.2.2.2.2.2.2.2.2.2.2.2.2.l).mono ?_
 rintro _ wz ⟨mc,rfl,hlc,hb⟩
 refine hK.out _ _ (two_keep hb hH7) (fun hN => ?_)
 clear hK K hH7
 have hH8:=hN
 clear hN
 try simp only [Act.put,List.getElem_toArray,List.getElem_cons_succ,List.getElem_cons_zero,List.setIfInBounds_toArray,List.set_cons_zero,List.set_cons_succ]
 refine wpAnyH_ready (rs:=[25]) (by as_aux_lemma => kernel_rfl) (by simp) ?_
 refine AllReadyH.cons (o:=_) rfl (fun K hK => ?_) AllReadyH.nil
 go_simp
 refine (ans_is (rSame_any e e mc m _ hlc hH8.2.2.2.2.2.2.2.2.2.2.2.2.2.2.2.2.2.2.2.2.2.2.2.2.2.2.l) (Ev.sameE_self e)).mono ?_
 rintro _ wz ⟨rfl,hb⟩
 clear hlc
 refine hK.out _ _ (two_keep hb hH8) (fun hN => ?_)
 clear hK K hH8
 have hH9:=hN
 clear hN
 try simp only [Act.put,List.getElem_toArray,List.getElem_cons_succ,List.getElem_cons_zero,List.setIfInBounds_toArray,List.set_cons_zero,List.set_cons_succ]
 refine' wpAnyH_take (i:=26) (oi:=_) (v:=?v17) rfl (by as_aux_lemma => kernel_rfl) (by as_aux_lemma => kernel_rfl) (by as_aux_lemma => kernel_rfl) (fun _ _ _ h => h) (Or.inl ⟨by rfl,?y17⟩) hH9 ?r17
 case y17 => (intro w hSw; (try dsimp only at hSw); go_simp; (try with_reducible rfl))
 try simp only [Act.put,List.getElem_toArray,List.getElem_cons_succ,List.getElem_cons_zero,List.setIfInBounds_toArray,List.set_cons_zero,List.set_cons_succ]
 refine' wpAnyH_take (i:=27) (oi:=_) (v:=?v18) rfl (by as_aux_lemma => kernel_rfl) (by as_aux_lemma => kernel_rfl) (by as_aux_lemma => kernel_rfl) (fun _ _ _ h => h) (Or.inl ⟨by rfl,?y18⟩) hH9 ?r18
 case y18 => (intro w hSw; (try dsimp only at hSw); go_simp; (try with_reducible rfl))
 try simp only [Act.put,List.getElem_toArray,List.getElem_cons_succ,List.getElem_cons_zero,List.setIfInBounds_toArray,List.set_cons_zero,List.set_cons_succ]
 refine wpAnyH_done (by as_aux_lemma => kernel_rfl) ?_ _
 have hfin:=hH9.2.2.2.2.2.2.2.2.2.2.2.2.2.2.2.2.2.2.2.2.2.2.2.2.2.2.b
 go_wp2_with fail
 go_ret
 exact ⟨rfl,hfin⟩

theorem tells_any (U T : ByteArray) (s l : Int) (O : Option Addr) (on oc : Nat) (fr ev ct un : Int) (D M Y X : Option Addr) (dn dc mn mc yn yc xn xc : Nat) (o : List Int) (ds : List Wd) (ms ys x : List Int) (U2 T2 : ByteArray) (s2 l2 : Int) (O2 : Option Addr) (on2 oc2 : Nat) (fr2 ev2 ct2 un2 : Int) (D2 M2 Y2 X2 : Option Addr) (dn2 dc2 mn2 mc2 yn2 yc2 xn2 xc2 : Nat) (o2 : List Int) (ds2 : List Wd) (ms2 ys2 x2 : List Int) (w : World) (he : EnvE w) (h : (on = o.length ∧ o.length ≤ maxLen ∧ RowI w O o) ∧ ((dn = ds.length ∧ ds.length ≤ maxLen ∧ RowD w D ds) ∧ (mn = ms.length ∧ ms.length ≤ maxLen ∧ RowI w M ms) ∧ (yn = ys.length ∧ ys.length ≤ maxLen ∧ RowI w Y ys)) ∧ (xn = x.length ∧ x.length ≤ maxLen ∧ RowI w X x) ∧ U.size ≤ maxLen ∧ T.size ≤ maxLen ∧ (X = none → xc = 0)) (h2 : (on2 = o2.length ∧ o2.length ≤ maxLen ∧ RowI w O2 o2) ∧ ((dn2 = ds2.length ∧ ds2.length ≤ maxLen ∧ RowD w D2 ds2) ∧ (mn2 = ms2.length ∧ ms2.length ≤ maxLen ∧ RowI w M2 ms2) ∧ (yn2 = ys2.length ∧ ys2.length ≤ maxLen ∧ RowI w Y2 ys2)) ∧ (xn2 = x2.length ∧ x2.length ≤ maxLen ∧ RowI w X2 x2) ∧ U2.size ≤ maxLen ∧ T2.size ≤ maxLen ∧ (X2 = none → xc2 = 0)) :
  Calls Tryz.prog 3 #[.agg #[.string U,.string T,.int .i64 s,.int .i64 l,.slice O on oc,.int .i64 fr,.int .i64 ev,.int .i64 ct,.int .i64 un,.slice D dn dc,.slice M mn mc,.slice Y yn yc,.slice X xn xc],.agg #[.string U2,.string T2,.int .i64 s2,.int .i64 l2,.slice O2 on2 oc2,.int .i64 fr2,.int .i64 ev2,.int .i64 ct2,.int .i64 un2,.slice D2 dn2 dc2,.slice M2 mn2 mc2,.slice Y2 yn2 yc2,.slice X2 xn2 xc2]] w (Ans w (.bool true)):=by
 obtain ⟨⟨rfl,_,ho⟩,⟨⟨rfl,_,hd⟩,⟨rfl,_,hm⟩,⟨rfl,_,hy⟩⟩,⟨rfl,_,hx⟩,_,_,_⟩:=h
 obtain ⟨⟨rfl,_,ho2⟩,⟨⟨rfl,_,hd2⟩,⟨rfl,_,hm2⟩,⟨rfl,_,hy2⟩⟩,⟨rfl,_,hx2⟩,_,_,_⟩:=h2
 cases hf : fewEB ds.length ms.length ys.length U.size T.size o.length x.length with
 | false => exact tells_few U T s l O o.length oc fr ev ct un D M Y X ds.length dc ms.length mc ys.length yc x.length xc U2 T2 s2 l2 O2 o2.length oc2 fr2 ev2 ct2 un2 D2 M2 Y2 X2 ds2.length dc2 ms2.length mc2 ys2.length yc2 x2.length xc2 w he (Or.inl hf)
 | true =>
  cases hf2 : fewEB ds2.length ms2.length ys2.length U2.size T2.size o2.length x2.length with
  | false => exact tells_few U T s l O o.length oc fr ev ct un D M Y X ds.length dc ms.length mc ys.length yc x.length xc U2 T2 s2 l2 O2 o2.length oc2 fr2 ev2 ct2 un2 D2 M2 Y2 X2 ds2.length dc2 ms2.length mc2 ys2.length yc2 x2.length xc2 w he (Or.inr ⟨hf,hf2⟩)
  | true =>
   have q:=(fewEB_iff _ _ _ _ _ _ _).1 hf
   have hU : str U.data.toList = U:=data_str U
   have hT : str T.data.toList = T:=data_str T
   have hul : U.data.toList.length ≤ 40000:=by rw [len_of]; omega
   have htl : T.data.toList.length ≤ 40000:=by rw [len_of]; omega
   generalize U.data.toList = u at *
   generalize T.data.toList = t at *
   subst hU hT
   have hl : EvL w ⟨u,t,s,l,o,⟨fr,ev,ct,un,ds,ms,ys⟩,x⟩ ⟨O,oc,D,dc,M,mc,Y,yc,X,xc⟩:=⟨ho,by show o.length ≤ 1000; omega,⟨hd,rfl,by show ds.length ≤ 1000; omega,hm,rfl,by show ms.length ≤ 1000; omega,hy,rfl,by show ys.length ≤ 1000; omega⟩,hx,by show x.length ≤ 1000; omega,hul,htl⟩
   have q2:=(fewEB_iff _ _ _ _ _ _ _).1 hf2
   have hU2 : str U2.data.toList = U2:=data_str U2
   have hT2 : str T2.data.toList = T2:=data_str T2
   have hul2 : U2.data.toList.length ≤ 40000:=by rw [len_of]; omega
   have htl2 : T2.data.toList.length ≤ 40000:=by rw [len_of]; omega
   generalize U2.data.toList = u2 at *
   generalize T2.data.toList = t2 at *
   subst hU2 hT2
   have hl2 : EvL w ⟨u2,t2,s2,l2,o2,⟨fr2,ev2,ct2,un2,ds2,ms2,ys2⟩,x2⟩ ⟨O2,oc2,D2,dc2,M2,mc2,Y2,yc2,X2,xc2⟩:=⟨ho2,by show o2.length ≤ 1000; omega,⟨hd2,rfl,by show ds2.length ≤ 1000; omega,hm2,rfl,by show ms2.length ≤ 1000; omega,hy2,rfl,by show ys2.length ≤ 1000; omega⟩,hx2,by show x2.length ≤ 1000; omega,hul2,htl2⟩
   exact tells_yes ⟨u,t,s,l,o,⟨fr,ev,ct,un,ds,ms,ys⟩,x⟩ ⟨u2,t2,s2,l2,o2,⟨fr2,ev2,ct2,un2,ds2,ms2,ys2⟩,x2⟩ ⟨O,oc,D,dc,M,mc,Y,yc,X,xc⟩ ⟨O2,oc2,D2,dc2,M2,mc2,Y2,yc2,X2,xc2⟩ w he hl hl2 hf hf2

end Go.Proofs.YtgdjeddelcfgeaaGreatDoor

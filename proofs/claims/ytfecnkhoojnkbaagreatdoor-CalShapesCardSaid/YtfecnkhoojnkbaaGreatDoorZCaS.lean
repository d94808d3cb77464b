/- CalShapes: ten texts that are no calendars, and one that is. -/
import Derived.Test.YtfecnkhoojnkbaaGreatDoorZCaK
set_option maxHeartbeats 8000000
set_option maxRecDepth 100000
namespace Go.Proofs.YtfecnkhoojnkbaaGreatDoor
open Go.RowKit Rul Rt Go.Sort
theorem cparse_arg (X : Value) (t : Tx) (es : List Ev.E) (k : Nat) (z : Int) (w : World) (hX : X = .string (str t)) (ht : t.length <= 90000) (he : EnvE w) (h : Ca.parseC unU t = (es,k,z)) :
  Calls Tryz.prog 12 #[X] w fun e w' => Below w.heap.size w w' /\ ∃ A c l,e = .returned (.tuple #[.slice A es.length c,.int .i64 k,.int .i64 z]) /\ l.map Prod.fst = es /\ RowE w' A l /\ EvsL w' l:=by
 subst hX; exact cparse_is t es k z w ht he h
theorem shapes_at (k : Nat) (hk : k < 10) : (#[.int .i64 0,.int .i64 0,.int .i64 1,.int .i64 7,.int .i64 2,.int .i64 12,.int .i64 1,.int .i64 1,.int .i64 1,.int .i64 2] : Array Value)[k]? = some (.int .i64 (Ca.badN k)):=by
 match k,hk with
 | 0,_ => rfl
 | 1,_ => rfl
 | 2,_ => rfl
 | 3,_ => rfl
 | 4,_ => rfl
 | 5,_ => rfl
 | 6,_ => rfl
 | 7,_ => rfl
 | 8,_ => rfl
 | 9,_ => rfl
theorem shapes_lits_true (k : Nat) (hk : k < 10) : ([.string ⟨#[]⟩,.string ⟨#[101,110,100,58,118,67,97,108,101,110,100,97,114,13,10]⟩,.string ⟨#[98,101,103,105,110,58,118,99,97,108,101,110,100,97,114,13,10]⟩,.string (⟨#[98,101,103,105,110,58,118,99,97,108,101,110,100,97,114,13,10]⟩ ++ ⟨#[66,69,71,73,78,58,86,69,86,69,78,84,13,10,85,73,68,58,97,13,10,68,84,83,84,65,82,84,58,50,48,48,48,48,49,48,49,84,48,48,48,48,48,48,13,10,68,85,82,65,84,73,79,78,58,80,84,53,77,13,10,88,45,82,79,79,77,83,58,49,13,10,69,78,68,58,86,69,86,69,78,84,13,10]⟩ : ByteArray),.string ((⟨#[98,101,103,105,110,58,118,99,97,108,101,110,100,97,114,13,10]⟩ ++ ⟨#[101,110,100,58,118,67,97,108,101,110,100,97,114,13,10]⟩ : ByteArray) ++ ⟨#[88,58,121,13,10]⟩ : ByteArray),.string (((⟨#[98,101,103,105,110,58,118,99,97,108,101,110,100,97,114,13,10]⟩ ++ ⟨#[66,69,71,73,78,58,86,69,86,69,78,84,13,10,85,73,68,58,97,13,10,68,84,83,84,65,82,84,58,50,48,48,48,48,49,48,49,84,48,48,48,48,48,48,13,10,68,85,82,65,84,73,79,78,58,80,84,53,77,13,10,88,45,82,79,79,77,83,58,49,13,10,69,78,68,58,86,69,86,69,78,84,13,10]⟩ : ByteArray) ++ ⟨#[66,69,71,73,78,58,86,69,86,69,78,84,13,10,85,73,68,58,97,13,10,68,84,83,84,65,82,84,58,50,48,48,48,48,49,48,49,84,48,48,48,48,48,48,13,10,68,85,82,65,84,73,79,78,58,80,84,53,77,13,10,88,45,82,79,79,77,83,58,49,13,10,69,78,68,58,86,69,86,69,78,84,13,10]⟩ : ByteArray) ++ ⟨#[101,110,100,58,118,67,97,108,101,110,100,97,114,13,10]⟩ : ByteArray),.string ((⟨#[98,101,103,105,110,58,118,99,97,108,101,110,100,97,114,13,10]⟩ ++ ⟨#[86,69,82,83,73,79,78,58,51,46,48,13,10]⟩ : ByteArray) ++ ⟨#[101,110,100,58,118,67,97,108,101,110,100,97,114,13,10]⟩ : ByteArray),.string ((⟨#[98,101,103,105,110,58,118,99,97,108,101,110,100,97,114,13,10]⟩ ++ ⟨#[66,69,71,73,78,58,86,84,79,68,79,13,10]⟩ : ByteArray) ++ ⟨#[101,110,100,58,118,67,97,108,101,110,100,97,114,13,10]⟩ : ByteArray),.string ((⟨#[98,101,103,105,110,58,118,99,97,108,101,110,100,97,114,13,10]⟩ ++ ⟨#[69,78,68,58,86,69,86,69,78,84,13,10]⟩ : ByteArray) ++ ⟨#[101,110,100,58,118,67,97,108,101,110,100,97,114,13,10]⟩ : ByteArray),.string ((⟨#[98,101,103,105,110,58,118,99,97,108,101,110,100,97,114,13,10]⟩ ++ ⟨#[86,69,82,83,73,79,78,58,50,46,48,13,10,86,69,82,83,73,79,78,58,50,46,48,13,10]⟩ : ByteArray) ++ ⟨#[101,110,100,58,118,67,97,108,101,110,100,97,114,13,10]⟩ : ByteArray)] : List Value)[k]? = some (.string (str (Ca.flatS (Ca.badL true k)))) :=
 match k,hk with
 | 0,_ => by kernel_rfl
 | 1,_ => by kernel_rfl
 | 2,_ => by kernel_rfl
 | 3,_ => by kernel_rfl
 | 4,_ => by kernel_rfl
 | 5,_ => by kernel_rfl
 | 6,_ => by kernel_rfl
 | 7,_ => by kernel_rfl
 | 8,_ => by kernel_rfl
 | 9,_ => by kernel_rfl
theorem shapes_good_true : (((((⟨#[98,101,103,105,110,58,118,99,97,108,101,110,100,97,114,13,10]⟩ ++ ⟨#[88,45,78,65,77,69,58,122,13,10]⟩ : ByteArray) ++ ⟨#[66,69,71,73,78,58,86,69,86,69,78,84,13,10,85,73,68,58,97,13,10,68,84,83,84,65,82,84,58,50,48,48,48,48,49,48,49,84,48,48,48,48,48,48,13,10,68,85,82,65,84,73,79,78,58,80,84,53,77,13,10,88,45,82,79,79,77,83,58,49,13,10,69,78,68,58,86,69,86,69,78,84,13,10]⟩ : ByteArray) ++ ⟨#[86,69,82,83,73,79,78,58,50,46,48,13,10]⟩ : ByteArray) ++ ⟨#[101,110,100,58,118,67,97,108,101,110,100,97,114,13,10]⟩ : ByteArray) : ByteArray) = str (Ca.flatS (Ca.goodL true)):=by kernel_rfl
theorem shapes_true (x : Int) (k : Nat) (w : World) (he : EnvE w) (hk : k < 10) (hx : x.tmod 10 = (k : Int)) :
  Calls Tryz.prog 6 #[.int .u8 x,.bool true] w (Ans w (.bool true)):=by
 have HE:=hide he
 clear he
 have hk0 : (0 : Int) <= (k : Int):=by omega
 have hk1 : (k : Int) < 10:=by omega
 have HBP:=hide (Ca.bad_parse true k hk)
 obtain ⟨ge,hge⟩:=(Ca.good_parse true).1
 have HGP:=hide (And.intro hge (Ca.good_parse true).2)
 have HKA:=hide (shapes_at k hk)
 have HKL:=hide (shapes_lits_true k hk)
 clear hge
 go_enter Tryz.func6,Tryz.ntmps6
 go_wp2_with fail
 refine (known11_any _ HE.out).mono ?_
 rintro _ w1 ⟨rfl,hb1⟩
 have HB1:=hide hb1
 clear hb1
 go_wp2_with fail
 obtain ⟨W2,hW2⟩ : ∃ W,w1.alloc (.cells #[.string ⟨#[]⟩,.string ⟨#[101,110,100,58,118,67,97,108,101,110,100,97,114,13,10]⟩,.string ⟨#[98,101,103,105,110,58,118,99,97,108,101,110,100,97,114,13,10]⟩,.string (⟨#[98,101,103,105,110,58,118,99,97,108,101,110,100,97,114,13,10]⟩ ++ ⟨#[66,69,71,73,78,58,86,69,86,69,78,84,13,10,85,73,68,58,97,13,10,68,84,83,84,65,82,84,58,50,48,48,48,48,49,48,49,84,48,48,48,48,48,48,13,10,68,85,82,65,84,73,79,78,58,80,84,53,77,13,10,88,45,82,79,79,77,83,58,49,13,10,69,78,68,58,86,69,86,69,78,84,13,10]⟩ : ByteArray),.string ((⟨#[98,101,103,105,110,58,118,99,97,108,101,110,100,97,114,13,10]⟩ ++ ⟨#[101,110,100,58,118,67,97,108,101,110,100,97,114,13,10]⟩ : ByteArray) ++ ⟨#[88,58,121,13,10]⟩ : ByteArray),.string (((⟨#[98,101,103,105,110,58,118,99,97,108,101,110,100,97,114,13,10]⟩ ++ ⟨#[66,69,71,73,78,58,86,69,86,69,78,84,13,10,85,73,68,58,97,13,10,68,84,83,84,65,82,84,58,50,48,48,48,48,49,48,49,84,48,48,48,48,48,48,13,10,68,85,82,65,84,73,79,78,58,80,84,53,77,13,10,88,45,82,79,79,77,83,58,49,13,10,69,78,68,58,86,69,86,69,78,84,13,10]⟩ : ByteArray) ++ ⟨#[66,69,71,73,78,58,86,69,86,69,78,84,13,10,85,73,68,58,97,13,10,68,84,83,84,65,82,84,58,50,48,48,48,48,49,48,49,84,48,48,48,48,48,48,13,10,68,85,82,65,84,73,79,78,58,80,84,53,77,13,10,88,45,82,79,79,77,83,58,49,13,10,69,78,68,58,86,69,86,69,78,84,13,10]⟩ : ByteArray) ++ ⟨#[101,110,100,58,118,67,97,108,101,110,100,97,114,13,10]⟩ : ByteArray),.string ((⟨#[98,101,103,105,110,58,118,99,97,108,101,110,100,97,114,13,10]⟩ ++ ⟨#[86,69,82,83,73,79,78,58,51,46,48,13,10]⟩ : ByteArray) ++ ⟨#[101,110,100,58,118,67,97,108,101,110,100,97,114,13,10]⟩ : ByteArray),.string ((⟨#[98,101,103,105,110,58,118,99,97,108,101,110,100,97,114,13,10]⟩ ++ ⟨#[66,69,71,73,78,58,86,84,79,68,79,13,10]⟩ : ByteArray) ++ ⟨#[101,110,100,58,118,67,97,108,101,110,100,97,114,13,10]⟩ : ByteArray),.string ((⟨#[98,101,103,105,110,58,118,99,97,108,101,110,100,97,114,13,10]⟩ ++ ⟨#[69,78,68,58,86,69,86,69,78,84,13,10]⟩ : ByteArray) ++ ⟨#[101,110,100,58,118,67,97,108,101,110,100,97,114,13,10]⟩ : ByteArray),.string ((⟨#[98,101,103,105,110,58,118,99,97,108,101,110,100,97,114,13,10]⟩ ++ ⟨#[86,69,82,83,73,79,78,58,50,46,48,13,10,86,69,82,83,73,79,78,58,50,46,48,13,10]⟩ : ByteArray) ++ ⟨#[101,110,100,58,118,67,97,108,101,110,100,97,114,13,10]⟩ : ByteArray)] 38) = W:=⟨_,rfl⟩
 have HB2 : Hid (Below w.heap.size w W2):=hide (by rw [<- hW2]; exact andthen HB1.out (more (start w1) _))
 have hs2 : W2.heap.size = w1.heap.size + 1:=by rw [<- hW2,World.size_alloc]
 rw [hW2]
 have hb3:=more (start W2) (.cells #[.int .i64 0,.int .i64 0,.int .i64 1,.int .i64 7,.int .i64 2,.int .i64 12,.int .i64 1,.int .i64 1,.int .i64 1,.int .i64 2] 39)
 have hk3:=cell_new W2 #[.int .i64 0,.int .i64 0,.int .i64 1,.int .i64 7,.int .i64 2,.int .i64 12,.int .i64 1,.int .i64 1,.int .i64 1,.int .i64 2] 39 k (.int .i64 (Ca.badN k)) HKA.out
 rw [hs2] at hk3
 have HB3:=hide (andthen HB2.out hb3)
 have HK3:=hide hk3
 have HS3 : Hid (w1.heap.size + 1 < (W2.alloc (.cells #[.int .i64 0,.int .i64 0,.int .i64 1,.int .i64 7,.int .i64 2,.int .i64 12,.int .i64 1,.int .i64 1,.int .i64 1,.int .i64 2] 39)).heap.size):=hide (by rw [World.size_alloc,hs2]; omega)
 clear hW2 hb3 hk3
 generalize W2.alloc (.cells #[.int .i64 0,.int .i64 0,.int .i64 1,.int .i64 7,.int .i64 2,.int .i64 12,.int .i64 1,.int .i64 1,.int .i64 1,.int .i64 2] 39) = W3 at *
 refine (cparse_arg _ (Ca.flatS (Ca.badL true k)) [] (Ca.badN k) 14 W3 (by have:=HKL.out; rw [List.getElem?_eq_getElem hk] at this; exact Option.some.inj this) (Nat.le_trans HBP.out.2 (by decide)) (HE.out.keep HB3.out) HBP.out.1).mono ?_
 rintro _ w4 ⟨hb4,A4,c4,l4,rfl,_,_,_⟩
 have HB4:=hide (andthen HB3.out hb4)
 have HK4 : Hid (w4.cell? ⟨w1.heap.size + 1,k,none⟩ = some (.int .i64 (Ca.badN k))):=hide ((hb4.cell (p:=⟨_,_,none⟩) HS3.out).trans HK3.out)
 have HS4 : Hid (w1.heap.size + 1 < w4.heap.size):=hide (Nat.lt_of_lt_of_le HS3.out hb4.size)
 clear hb4
 go_wp2_with fail
 refine (cparse_arg _ (Ca.flatS (Ca.goodL true)) [ge] 10 0 w4 (congrArg Value.string shapes_good_true) (Nat.le_trans HGP.out.2 (by decide)) (HE.out.keep HB4.out) HGP.out.1).mono ?_
 rintro _ w5 ⟨hb5,A5,c5,l5,rfl,_,_,_⟩
 have HB5:=hide (andthen HB4.out hb5)
 have k5 : w5.cell? ⟨w1.heap.size + 1,k,none⟩ = some (.int .i64 (Ca.badN k)):=(hb5.cell (p:=⟨_,_,none⟩) HS4.out).trans HK4.out
 clear hb5
 have q1 : (((Ca.badN k : Nat) : Int) == ((Ca.badN k : Nat) : Int)) = true:=beq_self_eq_true _
 go_wp2_with fail
 go_ret
 exact ⟨rfl,HB5.out⟩
theorem shapes_lits_false (k : Nat) (hk : k < 10) : ([.string ⟨#[]⟩,.string ⟨#[69,78,68,58,86,67,65,76,69,78,68,65,82,13,10]⟩,.string ⟨#[66,69,71,73,78,58,86,67,65,76,69,78,68,65,82,13,10]⟩,.string (⟨#[66,69,71,73,78,58,86,67,65,76,69,78,68,65,82,13,10]⟩ ++ ⟨#[66,69,71,73,78,58,86,69,86,69,78,84,13,10,85,73,68,58,97,13,10,68,84,83,84,65,82,84,58,50,48,48,48,48,49,48,49,84,48,48,48,48,48,48,13,10,68,85,82,65,84,73,79,78,58,80,84,53,77,13,10,88,45,82,79,79,77,83,58,49,13,10,69,78,68,58,86,69,86,69,78,84,13,10]⟩ : ByteArray),.string ((⟨#[66,69,71,73,78,58,86,67,65,76,69,78,68,65,82,13,10]⟩ ++ ⟨#[69,78,68,58,86,67,65,76,69,78,68,65,82,13,10]⟩ : ByteArray) ++ ⟨#[88,58,121,13,10]⟩ : ByteArray),.string (((⟨#[66,69,71,73,78,58,86,67,65,76,69,78,68,65,82,13,10]⟩ ++ ⟨#[66,69,71,73,78,58,86,69,86,69,78,84,13,10,85,73,68,58,97,13,10,68,84,83,84,65,82,84,58,50,48,48,48,48,49,48,49,84,48,48,48,48,48,48,13,10,68,85,82,65,84,73,79,78,58,80,84,53,77,13,10,88,45,82,79,79,77,83,58,49,13,10,69,78,68,58,86,69,86,69,78,84,13,10]⟩ : ByteArray) ++ ⟨#[66,69,71,73,78,58,86,69,86,69,78,84,13,10,85,73,68,58,97,13,10,68,84,83,84,65,82,84,58,50,48,48,48,48,49,48,49,84,48,48,48,48,48,48,13,10,68,85,82,65,84,73,79,78,58,80,84,53,77,13,10,88,45,82,79,79,77,83,58,49,13,10,69,78,68,58,86,69,86,69,78,84,13,10]⟩ : ByteArray) ++ ⟨#[69,78,68,58,86,67,65,76,69,78,68,65,82,13,10]⟩ : ByteArray),.string ((⟨#[66,69,71,73,78,58,86,67,65,76,69,78,68,65,82,13,10]⟩ ++ ⟨#[86,69,82,83,73,79,78,58,51,46,48,13,10]⟩ : ByteArray) ++ ⟨#[69,78,68,58,86,67,65,76,69,78,68,65,82,13,10]⟩ : ByteArray),.string ((⟨#[66,69,71,73,78,58,86,67,65,76,69,78,68,65,82,13,10]⟩ ++ ⟨#[66,69,71,73,78,58,86,84,79,68,79,13,10]⟩ : ByteArray) ++ ⟨#[69,78,68,58,86,67,65,76,69,78,68,65,82,13,10]⟩ : ByteArray),.string ((⟨#[66,69,71,73,78,58,86,67,65,76,69,78,68,65,82,13,10]⟩ ++ ⟨#[69,78,68,58,86,69,86,69,78,84,13,10]⟩ : ByteArray) ++ ⟨#[69,78,68,58,86,67,65,76,69,78,68,65,82,13,10]⟩ : ByteArray),.string ((⟨#[66,69,71,73,78,58,86,67,65,76,69,78,68,65,82,13,10]⟩ ++ ⟨#[86,69,82,83,73,79,78,58,50,46,48,13,10,86,69,82,83,73,79,78,58,50,46,48,13,10]⟩ : ByteArray) ++ ⟨#[69,78,68,58,86,67,65,76,69,78,68,65,82,13,10]⟩ : ByteArray)] : List Value)[k]? = some (.string (str (Ca.flatS (Ca.badL false k)))) :=
 match k,hk with
 | 0,_ => by kernel_rfl
 | 1,_ => by kernel_rfl
 | 2,_ => by kernel_rfl
 | 3,_ => by kernel_rfl
 | 4,_ => by kernel_rfl
 | 5,_ => by kernel_rfl
 | 6,_ => by kernel_rfl
 | 7,_ => by kernel_rfl
 | 8,_ => by kernel_rfl
 | 9,_ => by kernel_rfl
theorem shapes_good_false : (((((⟨#[66,69,71,73,78,58,86,67,65,76,69,78,68,65,82,13,10]⟩ ++ ⟨#[88,45,78,65,77,69,58,122,13,10]⟩ : ByteArray) ++ ⟨#[66,69,71,73,78,58,86,69,86,69,78,84,13,10,85,73,68,58,97,13,10,68,84,83,84,65,82,84,58,50,48,48,48,48,49,48,49,84,48,48,48,48,48,48,13,10,68,85,82,65,84,73,79,78,58,80,84,53,77,13,10,88,45,82,79,79,77,83,58,49,13,10,69,78,68,58,86,69,86,69,78,84,13,10]⟩ : ByteArray) ++ ⟨#[86,69,82,83,73,79,78,58,50,46,48,13,10]⟩ : ByteArray) ++ ⟨#[69,78,68,58,86,67,65,76,69,78,68,65,82,13,10]⟩ : ByteArray) : ByteArray) = str (Ca.flatS (Ca.goodL false)):=by kernel_rfl
theorem shapes_false (x : Int) (k : Nat) (w : World) (he : EnvE w) (hk : k < 10) (hx : x.tmod 10 = (k : Int)) :
  Calls Tryz.prog 6 #[.int .u8 x,.bool false] w (Ans w (.bool true)):=by
 have HE:=hide he
 clear he
 have hk0 : (0 : Int) <= (k : Int):=by omega
 have hk1 : (k : Int) < 10:=by omega
 have HBP:=hide (Ca.bad_parse false k hk)
 obtain ⟨ge,hge⟩:=(Ca.good_parse false).1
 have HGP:=hide (And.intro hge (Ca.good_parse false).2)
 have HKA:=hide (shapes_at k hk)
 have HKL:=hide (shapes_lits_false k hk)
 clear hge
 go_enter Tryz.func6,Tryz.ntmps6
 go_wp2_with fail
 refine (known11_any _ HE.out).mono ?_
 rintro _ w1 ⟨rfl,hb1⟩
 have HB1:=hide hb1
 clear hb1
 go_wp2_with fail
 obtain ⟨W2,hW2⟩ : ∃ W,w1.alloc (.cells #[.string ⟨#[]⟩,.string ⟨#[69,78,68,58,86,67,65,76,69,78,68,65,82,13,10]⟩,.string ⟨#[66,69,71,73,78,58,86,67,65,76,69,78,68,65,82,13,10]⟩,.string (⟨#[66,69,71,73,78,58,86,67,65,76,69,78,68,65,82,13,10]⟩ ++ ⟨#[66,69,71,73,78,58,86,69,86,69,78,84,13,10,85,73,68,58,97,13,10,68,84,83,84,65,82,84,58,50,48,48,48,48,49,48,49,84,48,48,48,48,48,48,13,10,68,85,82,65,84,73,79,78,58,80,84,53,77,13,10,88,45,82,79,79,77,83,58,49,13,10,69,78,68,58,86,69,86,69,78,84,13,10]⟩ : ByteArray),.string ((⟨#[66,69,71,73,78,58,86,67,65,76,69,78,68,65,82,13,10]⟩ ++ ⟨#[69,78,68,58,86,67,65,76,69,78,68,65,82,13,10]⟩ : ByteArray) ++ ⟨#[88,58,121,13,10]⟩ : ByteArray),.string (((⟨#[66,69,71,73,78,58,86,67,65,76,69,78,68,65,82,13,10]⟩ ++ ⟨#[66,69,71,73,78,58,86,69,86,69,78,84,13,10,85,73,68,58,97,13,10,68,84,83,84,65,82,84,58,50,48,48,48,48,49,48,49,84,48,48,48,48,48,48,13,10,68,85,82,65,84,73,79,78,58,80,84,53,77,13,10,88,45,82,79,79,77,83,58,49,13,10,69,78,68,58,86,69,86,69,78,84,13,10]⟩ : ByteArray) ++ ⟨#[66,69,71,73,78,58,86,69,86,69,78,84,13,10,85,73,68,58,97,13,10,68,84,83,84,65,82,84,58,50,48,48,48,48,49,48,49,84,48,48,48,48,48,48,13,10,68,85,82,65,84,73,79,78,58,80,84,53,77,13,10,88,45,82,79,79,77,83,58,49,13,10,69,78,68,58,86,69,86,69,78,84,13,10]⟩ : ByteArray) ++ ⟨#[69,78,68,58,86,67,65,76,69,78,68,65,82,13,10]⟩ : ByteArray),.string ((⟨#[66,69,71,73,78,58,86,67,65,76,69,78,68,65,82,13,10]⟩ ++ ⟨#[86,69,82,83,73,79,78,58,51,46,48,13,10]⟩ : ByteArray) ++ ⟨#[69,78,68,58,86,67,65,76,69,78,68,65,82,13,10]⟩ : ByteArray),.string ((⟨#[66,69,71,73,78,58,86,67,65,76,69,78,68,65,82,13,10]⟩ ++ ⟨#[66,69,71,73,78,58,86,84,79,68,79,13,10]⟩ : ByteArray) ++ ⟨#[69,78,68,58,86,67,65,76,69,78,68,65,82,13,10]⟩ : ByteArray),.string ((⟨#[66,69,71,73,78,58,86,67,65,76,69,78,68,65,82,13,10]⟩ ++ ⟨#[69,78,68,58,86,69,86,69,78,84,13,10]⟩ : ByteArray) ++ ⟨#[69,78,68,58,86,67,65,76,69,78,68,65,82,13,10]⟩ : ByteArray),.string ((⟨#[66,69,71,73,78,58,86,67,65,76,69,78,68,65,82,13,10]⟩ ++ ⟨#[86,69,82,83,73,79,78,58,50,46,48,13,10,86,69,82,83,73,79,78,58,50,46,48,13,10]⟩ : ByteArray) ++ ⟨#[69,78,68,58,86,67,65,76,69,78,68,65,82,13,10]⟩ : ByteArray)] 38) = W:=⟨_,rfl⟩
 have HB2 : Hid (Below w.heap.size w W2):=hide (by rw [<- hW2]; exact andthen HB1.out (more (start w1) _))
 have hs2 : W2.heap.size = w1.heap.size + 1:=by rw [<- hW2,World.size_alloc]
 rw [hW2]
 have hb3:=more (start W2) (.cells #[.int .i64 0,.int .i64 0,.int .i64 1,.int .i64 7,.int .i64 2,.int .i64 12,.int .i64 1,.int .i64 1,.int .i64 1,.int .i64 2] 39)
 have hk3:=cell_new W2 #[.int .i64 0,.int .i64 0,.int .i64 1,.int .i64 7,.int .i64 2,.int .i64 12,.int .i64 1,.int .i64 1,.int .i64 1,.int .i64 2] 39 k (.int .i64 (Ca.badN k)) HKA.out
 rw [hs2] at hk3
 have HB3:=hide (andthen HB2.out hb3)
 have HK3:=hide hk3
 have HS3 : Hid (w1.heap.size + 1 < (W2.alloc (.cells #[.int .i64 0,.int .i64 0,.int .i64 1,.int .i64 7,.int .i64 2,.int .i64 12,.int .i64 1,.int .i64 1,.int .i64 1,.int .i64 2] 39)).heap.size):=hide (by rw [World.size_alloc,hs2]; omega)
 clear hW2 hb3 hk3
 generalize W2.alloc (.cells #[.int .i64 0,.int .i64 0,.int .i64 1,.int .i64 7,.int .i64 2,.int .i64 12,.int .i64 1,.int .i64 1,.int .i64 1,.int .i64 2] 39) = W3 at *
 refine (cparse_arg _ (Ca.flatS (Ca.badL false k)) [] (Ca.badN k) 14 W3 (by have:=HKL.out; rw [List.getElem?_eq_getElem hk] at this; exact Option.some.inj this) (Nat.le_trans HBP.out.2 (by decide)) (HE.out.keep HB3.out) HBP.out.1).mono ?_
 rintro _ w4 ⟨hb4,A4,c4,l4,rfl,_,_,_⟩
 have HB4:=hide (andthen HB3.out hb4)
 have HK4 : Hid (w4.cell? ⟨w1.heap.size + 1,k,none⟩ = some (.int .i64 (Ca.badN k))):=hide ((hb4.cell (p:=⟨_,_,none⟩) HS3.out).trans HK3.out)
 have HS4 : Hid (w1.heap.size + 1 < w4.heap.size):=hide (Nat.lt_of_lt_of_le HS3.out hb4.size)
 clear hb4
 go_wp2_with fail
 refine (cparse_arg _ (Ca.flatS (Ca.goodL false)) [ge] 10 0 w4 (congrArg Value.string shapes_good_false) (Nat.le_trans HGP.out.2 (by decide)) (HE.out.keep HB4.out) HGP.out.1).mono ?_
 rintro _ w5 ⟨hb5,A5,c5,l5,rfl,_,_,_⟩
 have HB5:=hide (andthen HB4.out hb5)
 have k5 : w5.cell? ⟨w1.heap.size + 1,k,none⟩ = some (.int .i64 (Ca.badN k)):=(hb5.cell (p:=⟨_,_,none⟩) HS4.out).trans HK4.out
 clear hb5
 have q1 : (((Ca.badN k : Nat) : Int) == ((Ca.badN k : Nat) : Int)) = true:=beq_self_eq_true _
 go_wp2_with fail
 go_ret
 exact ⟨rfl,HB5.out⟩
theorem calshapes_any (x : Int) (s : Bool) (w : World) (he : EnvE w) (x0 : 0 <= x) (_ : x <= 255) :
  Calls Tryz.prog 6 #[.int .u8 x,.bool s] w (Ans w (.bool true)):=by
 obtain ⟨k,hx,hk⟩ : ∃ k : Nat,x.tmod 10 = (k : Int) /\ k < 10:=⟨(x % 10).toNat,by rw [Int.tmod_eq_emod_of_nonneg x0]; omega,by omega⟩
 cases s with
 | true => exact shapes_true x k w he hk hx
 | false => exact shapes_false x k w he hk hx
end Go.Proofs.YtfecnkhoojnkbaaGreatDoor

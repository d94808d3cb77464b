/- Put together: RefD RefE RefF. -/
import Derived.Laws.IdiomStrings
import Derived.Great.BuildSlice
import Derived.Test.YtfecnkhoojnkbaaGreatDoorZRefC
import Derived.Test.YtfecnkhoojnkbaaGreatDoorZW1
set_option maxHeartbeats 8000000
set_option maxRecDepth 100000
namespace Go.Proofs.YtfecnkhoojnkbaaGreatDoor
open Go.RowKit
theorem mem_getD (l : List UInt8) (k : Nat) (h : k < l.length) : l.getD k 0 = l[k]:=by
 rw [List.getD_eq_getElem?_getD,List.getElem?_eq_getElem h]; rfl
theorem getD_at (s : ByteArray) (k : Nat) (h : k < s.size) : s.data.toList.getD k 0 = s[k]:=by rw [mem_getD _ k (by simpa using h)]; rfl
theorem bs2 (p q : Int) (w : World) : (Instr.buildSlice 32 2 #[(0,.int .u8 p),(1,.int .u8 q)]).run Tryz.prog w = .ok (.slice (some ⟨w.heap.size,0,none⟩) 2 2) (w.alloc (.cells #[.int .u8 p,.int .u8 q] 5)):=by kernel_rfl
theorem cv2 (p q : Int) (w : World) (p1 : 0 <= p) (p2 : p <= 255) (q1 : 0 <= q) (q2 : q <= 255) :
  (convert 32 9 (.slice (some ⟨w.heap.size,0,none⟩) 2 2)).run Tryz.prog (w.alloc (.cells #[.int .u8 p,.int .u8 q] 5)) = .ok (.string (str [UInt8.ofNat p.toNat,UInt8.ofNat q.toNat])) (w.alloc (.cells #[.int .u8 p,.int .u8 q] 5)):=by
 refine run_convert_bytes_back (P:=Tryz.prog) (w.alloc (.cells #[.int .u8 p,.int .u8 q] 5)) 32 9 5 ⟨w.heap.size,0,none⟩ 2 [UInt8.ofNat p.toNat,UInt8.ofNat q.toNat] Tryz.underlying32 Tryz.underlying5 Tryz.underlying9 ?_
 intro j hj
 have hj2 : j = 0 ∨ j = 1:=by simp at hj; omega
 rcases hj2 with e | e
 ·subst e; simp [Addr.add]; omega
 ·subst e; simp [Addr.add]; omega
theorem two_go (n : Int) (_h1 : 0 <= n) : [UInt8.ofNat (48 + n / 10 % 10).toNat,UInt8.ofNat (48 + n % 10).toNat] = two (n % 100).toNat:=by
 unfold two dg
 have e1 : (48 + n / 10 % 10).toNat = 48 + (n % 100).toNat / 10:=by omega
 have e2 : (48 + n % 10).toNat = 48 + (n % 100).toNat % 10:=by omega
 rw [e1,e2]
theorem rtwo_any (n : Int) (w : World) (h1 : 0 <= n) (h2 : n < 10000) :
  Calls Tryz.prog 65 #[.int .i64 n] w fun e w' => e = .returned (.string (str (two (n % 100).toNat))) /\ Below w.heap.size w w':=by
 have hbs:=bs2
 have hcv:=cv2 (48 + n / 10 % 10) (48 + n % 10) w (by omega) (by omega) (by omega) (by omega)
 have HG:=hide (two_go n h1)
 go_enter Tryz.func65,Tryz.ntmps65
 go_wp2_with fail
 go_ret
 exact ⟨ret_str (by rw [HG.out]),(Below.refl _ _).alloc (Nat.le_refl _) _⟩
def tw2 (n : Int) : ByteArray:=str (two (n % 100).toNat)
theorem tw2_size (n : Int) : (tw2 n).size = 2:=by unfold tw2; rw [str_size]; rfl
theorem rtwo_tw (n : Int) (w : World) (h1 : 0 <= n) (h2 : n < 10000) :
  Calls Tryz.prog 65 #[.int .i64 n] w fun e w' => e = .returned (.string (tw2 n)) /\ Below w.heap.size w w':=rtwo_any n w h1 h2
theorem rtxt_go (y m d h mi : Int) (y1 : 2000 <= y) (y2 : y <= 2099) (m1 : 0 <= m) (m2 : m < 100) (d1 : 0 <= d) (d2 : d < 100) (h1 : 0 <= h) (h2 : h < 100) (i1 : 0 <= mi) (i2 : mi < 100) :
  tw2 (y / 100) ++ tw2 y ++ tw2 m ++ tw2 d ++ ⟨#[84]⟩ ++ tw2 h ++ tw2 mi ++ ⟨#[48,48]⟩ = str (txt y m d h mi):=by
 unfold tw2 txt
 have e1 : (y / 100 % 100).toNat = 20:=by omega
 have e2 : (y % 100).toNat = (y - 2000).toNat:=by omega
 have e3 : (m % 100).toNat = m.toNat:=by omega
 have e4 : (d % 100).toNat = d.toNat:=by omega
 have e5 : (h % 100).toNat = h.toNat:=by omega
 have e6 : (mi % 100).toNat = mi.toNat:=by omega
 have e20 : two 20 = [50,48]:=by decide
 rw [e1,e2,e3,e4,e5,e6,e20]
 simp only [T_str,Z_str,str_app]
theorem rdate_at (n y m d : Int) (w : World) (h1 : 0 <= n) (h2 : n < 36525) (h : Cal.yOf n = y /\ Cal.mOf n = m /\ Cal.dOf n = d) :
  Calls Tryz.prog 64 #[.int .i64 n] w fun e w' => e = .returned (.tuple #[.agg #[.int .i64 y,.int .i64 m,.int .i64 d],.int .i64 0]) /\ Below w.heap.size w w':=by
 obtain ⟨rfl,rfl,rfl⟩:=h
 exact rDate_walk n w h1 h2
theorem held_step3 {W w2 w1 : World} {y mo d : Value} (hb : Below W.heap.size W w2)
  (h : W.cell? ⟨w1.heap.size,0,none⟩ = some y /\ W.cell? ⟨w1.heap.size,1,none⟩ = some mo /\ W.cell? ⟨w1.heap.size,2,none⟩ = some d /\ w1.heap.size < W.heap.size /\ Below w1.heap.size w1 W) :
  w2.cell? ⟨w1.heap.size,0,none⟩ = some y /\ w2.cell? ⟨w1.heap.size,1,none⟩ = some mo /\ w2.cell? ⟨w1.heap.size,2,none⟩ = some d /\ w1.heap.size < w2.heap.size /\ Below w1.heap.size w1 w2:=by
 obtain ⟨a,b,c,l,k⟩:=h
 have hc:=(bcell hb).1
 exact ⟨by rw [hc _ _ l,a],by rw [hc _ _ l,b],by rw [hc _ _ l,c],Nat.lt_of_lt_of_le l hb.size,k.trans (hb.mono (by omega))⟩
theorem rText_no (n : Int) (w : World) (h : n < 0 ∨ 52596000 <= n) :
  Calls Tryz.prog 38 #[.int .i64 n] w fun e w' => e = .returned (.string (str [])) /\ Below w.heap.size w w':=by
 by_cases h0 : n < 0
 ·go_enter Tryz.func38,Tryz.ntmps38
  go_wp2_with fail
  go_ret
  exact ⟨rfl,Below.refl _ _⟩
 ·have h1 : 52596000 <= n:=by omega
  clear h
  go_enter Tryz.func38,Tryz.ntmps38
  go_wp2_with fail
  go_ret
  exact ⟨rfl,Below.refl _ _⟩
theorem rText_yes (n y mo d : Int) (w : World) (h1 : 0 <= n) (h2 : n < 52596000) (hd : Cal.yOf (n / 1440) = y /\ Cal.mOf (n / 1440) = mo /\ Cal.dOf (n / 1440) = d)
  (y1 : 2000 <= y) (y2 : y <= 2099) (mo1 : 0 <= mo) (mo2 : mo < 100) (d1 : 0 <= d) (d2 : d < 100) :
  Calls Tryz.prog 38 #[.int .i64 n] w fun e w' => e = .returned (.string (str (txt y mo d (n % 1440 / 60) (n % 60)))) /\ Below w.heap.size w w':=by
 have HD:=hide hd
 clear hd
 have tsz:=tw2_size
 have m1 : 0 <= n % 1440 / 60:=by omega
 have m2 : n % 1440 / 60 < 100:=by omega
 have i1 : 0 <= n % 60:=by omega
 have i2 : n % 60 < 100:=by omega
 go_enter Tryz.func38,Tryz.ntmps38
 go_wp2_with fail
 refine (rdate_at (n / 1440) y mo d _ (by omega) (by omega) HD.out).mono ?_
 rintro e w1 ⟨rfl,hb1⟩
 go_wp2_with fail
 have a1 : 0 <= y / 100:=by omega
 have a2 : y / 100 < 10000:=by omega
 have a3 : 0 <= y:=by omega
 have a4 : y < 10000:=by omega
 have a5 : mo < 10000:=by omega
 have a6 : d < 10000:=by omega
 have a7 : n % 1440 / 60 < 10000:=by omega
 have a8 : n % 60 < 10000:=by omega
 have w1b : w1.heap.size < (w1.alloc (.cells #[.int .i64 y,.int .i64 mo,.int .i64 d] 108)).heap.size:=by simp
 have E1 : IntKind.i64.wrap (y.tdiv 100) = y / 100:=by rw [Int.tdiv_eq_ediv_of_nonneg a3]; exact IntWalk.i64_in _ (by omega)
 have E2 : n.tmod 1440 = n % 1440:=Int.tmod_eq_emod_of_nonneg h1
 have E3 : IntKind.i64.wrap ((n % 1440).tdiv 60) = n % 1440 / 60:=by rw [Int.tdiv_eq_ediv_of_nonneg (by omega)]; exact IntWalk.i64_in _ (by omega)
 have E4 : n.tmod 60 = n % 60:=Int.tmod_eq_emod_of_nonneg h1
 go_region_held3 (fun w' => w'.cell? ⟨w1.heap.size,0,none⟩ = some (.int .i64 y) /\ w'.cell? ⟨w1.heap.size,1,none⟩ = some (.int .i64 mo) /\ w'.cell? ⟨w1.heap.size,2,none⟩ = some (.int .i64 d) /\ w1.heap.size < w'.heap.size /\ Below w1.heap.size w1 w')
  (first | exact ⟨by simp,by simp,by simp,by simp,((Below.refl _ _).alloc (Nat.le_refl _) _).drew⟩ | assumption | exact held_step3 (by assumption) (by assumption) | go_keep)
  (first | (go_at_call 65; with_reducible refine (rtwo_tw (y / 100) _ a1 a2).mono ?_; rintro e w2 ⟨rfl,hb2⟩) | (go_at_call 65; with_reducible refine (rtwo_tw y _ a3 a4).mono ?_; rintro e w2 ⟨rfl,hb2⟩) | (go_at_call 65; with_reducible refine (rtwo_tw mo _ mo1 a5).mono ?_; rintro e w2 ⟨rfl,hb2⟩) | (go_at_call 65; with_reducible refine (rtwo_tw d _ d1 a6).mono ?_; rintro e w2 ⟨rfl,hb2⟩) | (go_at_call 65; with_reducible refine (rtwo_tw (n % 1440 / 60) _ m1 a7).mono ?_; rintro e w2 ⟨rfl,hb2⟩) | (go_at_call 65; with_reducible refine (rtwo_tw (n % 60) _ i1 a8).mono ?_; rintro e w2 ⟨rfl,hb2⟩))
 obtain ⟨_,_,_,_,hbel⟩ : _ /\ _ /\ _ /\ _ /\ _:=by assumption
 go_wp2_with fail
 clear E1 E2 E3 E4
 go_ret
 exact ⟨ret_str (rtxt_go y mo d _ _ y1 y2 mo1 mo2 d1 d2 m1 m2 i1 i2),hb1.trans (hbel.mono hb1.size)⟩
theorem rText_any (n : Int) (w : World) :
  Calls Tryz.prog 38 #[.int .i64 n] w fun e w' => e = .returned (.string (str (textOf n))) /\ Below w.heap.size w w':=by
 by_cases h : 0 <= n /\ n < 52596000
 ·have e : textOf n = txt (Cal.yOf (n / 1440)) (Cal.mOf (n / 1440)) (Cal.dOf (n / 1440)) (n % 1440 / 60) (n % 60):=if_pos h
  have hy:=Cal.yOf_bd (n / 1440) (by omega) (by omega)
  have hm:=Cal.mOf_bd (n / 1440)
  have hd:=Cal.dOf_bd (n / 1440) (by omega) (by omega)
  rw [e]
  exact rText_yes n _ _ _ w h.1 h.2 ⟨rfl,rfl,rfl⟩ hy.1 hy.2 (by omega) (by omega) (by omega) (by omega)
 ·have e : textOf n = []:=if_neg h
  rw [e]
  exact rText_no n w (by omega)
end Go.Proofs.YtfecnkhoojnkbaaGreatDoor

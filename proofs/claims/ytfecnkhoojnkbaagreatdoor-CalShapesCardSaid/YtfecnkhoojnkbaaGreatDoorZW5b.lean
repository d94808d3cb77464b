/- RtG; RtH; RtI; RtJ of the recipes, what is needed of them. -/
import Derived.Deep.RegionHeld3
import Derived.Great.BuildSlice
import Derived.Lib.QuietBelow
import Derived.RegionTactic
import Derived.Test.YtfecnkhoojnkbaaGreatDoorZW5
set_option maxHeartbeats 8000000
set_option maxRecDepth 100000
namespace Go.Proofs.YtfecnkhoojnkbaaGreatDoor
open Go.RowKit Rul Rt Go.Sort
theorem str_tl2 (s : ByteArray) : s.toList = s.data.toList:=by rw [ByteArray.toList_eq]
abbrev Two2 (w : World) (p : Nat) (x0 x1 : Value) (W : World) : Prop:=W.cell? ⟨p,0,none⟩ = some x0 /\ W.cell? ⟨p,1,none⟩ = some x1 /\ Below w.heap.size w W
theorem two_set {w W : World} {x0 x1 y0 y1 : Value} (h : Two2 w w.heap.size x0 x1 W) : Two2 w w.heap.size y0 y1 ((W.setCell ⟨w.heap.size,0,none⟩ y0).setCell ⟨w.heap.size,1,none⟩ y1):=by
 obtain ⟨c0,c1,hb⟩:=h
 have st : ∀ {W : World} {i : Nat} {x y : Value},W.cell? ⟨w.heap.size,i,none⟩ = some x -> (W.setCell ⟨w.heap.size,i,none⟩ y).cell? ⟨w.heap.size,i,none⟩ = some y:=fun h => World.cell?_setCell_same _ _ _ h
 have ot : ∀ {W : World} {i j : Nat} {x y : Value},i ≠ j -> W.cell? ⟨w.heap.size,i,none⟩ = some x -> (W.setCell ⟨w.heap.size,j,none⟩ y).cell? ⟨w.heap.size,i,none⟩ = some x:=fun hn h =>
  (World.cell?_setCell_other _ _ _ _ (by intro hc; injection hc with _ hc1; omega)).trans h
 have be : ∀ {W : World} {j : Nat} {y : Value},Below w.heap.size w W -> Below w.heap.size w (W.setCell ⟨w.heap.size,j,none⟩ y):=fun h => h.setCell (Nat.le_refl _) _
 exact ⟨ot (by omega) (st c0),st (ot (by omega) c1),be (be hb)⟩
theorem Two2.keep {w W W1 : World} {p : Nat} {x0 x1 : Value} (h : Two2 w p x0 x1 W) (hb : Below W.heap.size W W1) : Two2 w p x0 x1 W1:=⟨cell_keep hb h.1,cell_keep hb h.2.1,andthen h.2.2 hb⟩
def optA (o : Option Int) : Value:=.tuple #[.int .i64 (o.getD 0),.bool o.isSome]
theorem optA_none {o : Option Int} (h : o = none) : optA o = .tuple #[.int .i64 0,.bool false]:=by rw [h]; rfl
theorem optA_some {o : Option Int} {n : Int} (h : o = some n) : optA o = .tuple #[.int .i64 n,.bool true]:=by rw [h]; rfl
theorem numT_any (t : ByteArray) (w : World) (he : Env w) (ht : t.size <= 100000) :
  Calls Tryz.prog 275 #[.string t] w (Ans w (optA (numC t.data.toList))):=by
 have HE:=hide he
 clear he
 have q2:=str_tl2 t
 go_enter Tryz.func275,Tryz.ntmps275
 go_wp2_with fail
 refine (atoi_all t _ HE.out ht).mono ?_
 rintro e w1 ⟨hb,⟨n,ha,hin,rfl⟩ | ⟨ha,n,te,pe,rfl⟩⟩
 ·have HB:=hide hb
  have HT:=hide ((HE.out.keep hb).tab)
  have q1:=str_tl (Lib.itoa n)
  by_cases hq : Lib.itoa n = t.data.toList
  ·have HN : Hid (optA (numC t.data.toList) = .tuple #[.int .i64 n,.bool true]):=hide (optA_some (by unfold numC; rw [ha]; simp only; rw [if_pos hq]))
   have q3 : (Lib.itoa n == t.data.toList) = true:=by rw [tx_eq,decide_eq_true hq]
   have HI:=hide (fun w ht => itoa_all n w hin ht)
   generalize Lib.itoa n = L at *
   clear hq ha hb hin
   go_wp2_with fail
   refine (HI.out _ HT.out).mono ?_
   rintro e w2 ⟨rfl,hb2⟩
   replace HB:=hide (andthen HB.out hb2)
   go_wp2_with fail
   go_ret2
   exact ⟨by rw [HN.out]; rfl,HB.out⟩
  ·have HN : Hid (optA (numC t.data.toList) = .tuple #[.int .i64 0,.bool false]):=hide (optA_none (by unfold numC; rw [ha]; simp only; rw [if_neg hq]))
   have q3 : (Lib.itoa n == t.data.toList) = false:=by rw [tx_eq,decide_eq_false hq]
   have HI:=hide (fun w ht => itoa_all n w hin ht)
   generalize Lib.itoa n = L at *
   clear hq ha hb hin
   go_wp2_with fail
   refine (HI.out _ HT.out).mono ?_
   rintro e w2 ⟨rfl,hb2⟩
   replace HB:=hide (andthen HB.out hb2)
   go_wp2_with fail
   go_ret2
   exact ⟨by rw [HN.out]; rfl,HB.out⟩
 ·have HB:=hide hb
  have HN : Hid (optA (numC t.data.toList) = .tuple #[.int .i64 0,.bool false]):=hide (optA_none (by
   unfold numC
   split
   ·rename_i v hv; exact absurd hv (ha v)
   ·rfl))
  clear ha hb
  go_wp2_with fail
  go_ret2
  exact ⟨by rw [HN.out]; rfl,HB.out⟩
theorem numT_is (t : ByteArray) (o : Option Int) (w : World) (he : Env w) (ht : t.size <= 100000) (h : numC t.data.toList = o) :
  Calls Tryz.prog 275 #[.string t] w (Ans w (optA o)):=by subst h; exact numT_any t w he ht
def MayI (w : World) (o : Option Int) (e : Ending) (w' : World) : Prop:=∃ n : Int,(∀ m,o = some m -> n = m) /\ e = .returned (.tuple #[.int .i64 n,.bool o.isSome]) /\ Below w.heap.size w w'
theorem positive_any (t : ByteArray) (w : World) (he : Env w) (ht : t.size <= 100000) :
  Calls Tryz.prog 272 #[.string t] w (MayI w (posOf numC t.data.toList)):=by
 have HE:=hide he
 clear he
 cases ho : numC t.data.toList with
 | none =>
  have HP : Hid (posOf numC t.data.toList = none):=hide (by unfold posOf; rw [ho])
  have HO:=hide ho
  clear ho
  go_enter Tryz.func272,Tryz.ntmps272
  go_wp2_with fail
  refine (numT_is t none _ HE.out ht HO.out).mono ?_
  rintro e w1 ⟨rfl,hb⟩
  unfold optA
  go_wp2_with fail
  go_ret2
  exact ⟨0,fun m hm => (by rw [HP.out] at hm; cases hm),by rw [HP.out]; rfl,hb⟩
 | some n =>
  have HO:=hide ho
  by_cases hn : 0 < n
  ·have HP : Hid (posOf numC t.data.toList = some n):=hide (by unfold posOf; rw [ho]; simp only; rw [if_pos hn])
   clear ho
   go_enter Tryz.func272,Tryz.ntmps272
   go_wp2_with fail
   refine (numT_is t (some n) _ HE.out ht HO.out).mono ?_
   rintro e w1 ⟨rfl,hb⟩
   unfold optA
   go_wp2_with fail
   go_ret2
   exact ⟨n,fun m hm => (by rw [HP.out] at hm; injection hm),by rw [HP.out]; rfl,hb⟩
  ·have HP : Hid (posOf numC t.data.toList = none):=hide (by unfold posOf; rw [ho]; simp only; rw [if_neg hn])
   have hd : decide (0 < n) = false:=decide_eq_false hn
   clear ho
   go_enter Tryz.func272,Tryz.ntmps272
   go_wp2_with fail
   refine (numT_is t (some n) _ HE.out ht HO.out).mono ?_
   rintro e w1 ⟨rfl,hb⟩
   unfold optA
   go_wp2_with fail
   go_ret2
   exact ⟨n,fun m hm => (by rw [HP.out] at hm; cases hm),by rw [HP.out]; rfl,hb⟩
def unE (t : Tx) : Option Int:=if (parseE t).2 = 0 then some (parseE t).1 else none
theorem parse_at (t : ByteArray) (n e : Int) (w : World) (h : parseE t.data.toList = (n,e)) :
  Calls Tryz.prog 226 #[.string t] w (Ans w (.tuple #[.int .i64 n,.int .i64 e])):=by
 have:=Parse_any t w
 rw [h] at this
 exact this
theorem minute_any (t : ByteArray) (w : World) :
  Calls Tryz.prog 273 #[.string t] w (MayI w (unE t.data.toList)):=by
 obtain ⟨n,e,h⟩ : ∃ n e,parseE t.data.toList = (n,e):=⟨_,_,rfl⟩
 have H:=hide h
 have HU : Hid (unE t.data.toList = if e = 0 then some n else none):=hide (by unfold unE; rw [h])
 clear h
 go_enter Tryz.func273,Tryz.ntmps273
 go_wp2_with fail
 refine (parse_at t n e _ H.out).mono ?_
 rintro e1 w1 ⟨rfl,hb⟩
 go_wp2_with fail
 go_ret2
 refine ⟨n,fun m hm => ?_,?_,hb⟩
 ·rw [HU.out] at hm; split at hm; injection hm; cases hm
 ·rw [HU.out]
  by_cases h0 : e = 0
  ·subst h0; rfl
  ·rw [if_neg h0,beq_eq_false_iff_ne.2 h0]; rfl
def posW (t : Tx) : Option Int:=if t = [] then some 0 else match numC t with
 | none => none
 | some n => if n = 0 then none else some n
theorem position_any (t : ByteArray) (w : World) (he : Env w) (ht : t.size <= 100000) :
  Calls Tryz.prog 294 #[.string t] w (MayI w (posW t.data.toList)):=by
 have HE:=hide he
 clear he
 have q2:=str_tl2 t
 by_cases h0 : t.data.toList = []
 ·have HP : Hid (posW t.data.toList = some 0):=hide (by unfold posW; rw [if_pos h0])
  have q3 : t.data.toList.isEmpty = true:=by rw [h0]; rfl
  clear h0
  go_enter Tryz.func294,Tryz.ntmps294
  go_wp2_with fail
  go_ret2
  exact ⟨0,fun m hm => (by rw [HP.out] at hm; injection hm),by rw [HP.out]; rfl,start _⟩
 ·have q3 : t.data.toList.isEmpty = false:=by cases h : t.data.toList with | nil => exact absurd h h0 | cons _ _ => rfl
  cases ho : numC t.data.toList with
  | none =>
   have HP : Hid (posW t.data.toList = none):=hide (by unfold posW; rw [if_neg h0,ho])
   have HO:=hide ho
   clear ho h0
   go_enter Tryz.func294,Tryz.ntmps294
   go_wp2_with fail
   refine (numT_is t none _ HE.out ht HO.out).mono ?_
   rintro e w1 ⟨rfl,hb⟩
   unfold optA
   go_wp2_with fail
   go_ret2
   exact ⟨0,fun m hm => (by rw [HP.out] at hm; cases hm),by rw [HP.out]; rfl,hb⟩
  | some n =>
   have HO:=hide ho
   by_cases hn : n = 0
   ·have HP : Hid (posW t.data.toList = none):=hide (by unfold posW; rw [if_neg h0,ho]; simp only; rw [if_pos hn])
    have hd : (n != 0) = false:=by rw [hn]; rfl
    clear ho h0 hn
    go_enter Tryz.func294,Tryz.ntmps294
    go_wp2_with fail
    refine (numT_is t (some n) _ HE.out ht HO.out).mono ?_
    rintro e w1 ⟨rfl,hb⟩
    unfold optA
    go_wp2_with fail
    go_ret2
    exact ⟨n,fun m hm => (by rw [HP.out] at hm; cases hm),by rw [HP.out]; rfl,hb⟩
   ·have HP : Hid (posW t.data.toList = some n):=hide (by unfold posW; rw [if_neg h0,ho]; simp only; rw [if_neg hn])
    have hd : (n != 0) = true:=by rw [bne_iff_ne]; exact hn
    clear ho h0 hn
    go_enter Tryz.func294,Tryz.ntmps294
    go_wp2_with fail
    refine (numT_is t (some n) _ HE.out ht HO.out).mono ?_
    rintro e w1 ⟨rfl,hb⟩
    unfold optA
    go_wp2_with fail
    go_ret2
    exact ⟨n,fun m hm => (by rw [HP.out] at hm; injection hm),by rw [HP.out]; rfl,hb⟩
theorem bsDays (w : World) : (Instr.buildSlice 52 7 #[(0,.string ⟨#[77,79]⟩),(1,.string ⟨#[84,85]⟩),(2,.string ⟨#[87,69]⟩),(3,.string ⟨#[84,72]⟩),(4,.string ⟨#[70,82]⟩),(5,.string ⟨#[83,65]⟩),(6,.string ⟨#[83,85]⟩)]).run Tryz.prog w = .ok (.slice (some ⟨w.heap.size,0,none⟩) 7 7) (w.alloc (.cells #[.string ⟨#[77,79]⟩,.string ⟨#[84,85]⟩,.string ⟨#[87,69]⟩,.string ⟨#[84,72]⟩,.string ⟨#[70,82]⟩,.string ⟨#[83,65]⟩,.string ⟨#[83,85]⟩] 9)):=by kernel_rfl
theorem bsFreqs (w : World) : (Instr.buildSlice 52 4 #[(0,.string ⟨#[68,65,73,76,89]⟩),(1,.string ⟨#[87,69,69,75,76,89]⟩),(2,.string ⟨#[77,79,78,84,72,76,89]⟩),(3,.string ⟨#[89,69,65,82,76,89]⟩)]).run Tryz.prog w = .ok (.slice (some ⟨w.heap.size,0,none⟩) 4 4) (w.alloc (.cells #[.string ⟨#[68,65,73,76,89]⟩,.string ⟨#[87,69,69,75,76,89]⟩,.string ⟨#[77,79,78,84,72,76,89]⟩,.string ⟨#[89,69,65,82,76,89]⟩] 9)):=by kernel_rfl
def RowA (w : World) (l : List Tx) (e : Ending) (w' : World) : Prop:=∃ b,e = .returned (.slice (some ⟨b,0,none⟩) l.length l.length) /\ RowS w' (some ⟨b,0,none⟩) l /\ Below w.heap.size w w'
theorem dayWs_any (w : World) : Calls Tryz.prog 129 #[] w (RowA w dayWs):=by
 have hbs:=bsDays
 go_enter Tryz.func129,Tryz.ntmps129
 go_wp2_with fail
 go_ret
 refine ⟨w.heap.size,rfl,fun _ => ⟨w.heap.size,0,rfl,by simp,fun i hi => ?_⟩,more (start _) _⟩
 have hi7 : i < 7:=hi
 rw [World.cell?_alloc_at _ _ _ _ rfl]
 rcases (by omega : i = 0 ∨ i = 1 ∨ i = 2 ∨ i = 3 ∨ i = 4 ∨ i = 5 ∨ i = 6) with rfl | rfl | rfl | rfl | rfl | rfl | rfl <;> rfl
theorem freqWs_any (w : World) : Calls Tryz.prog 128 #[] w (RowA w freqWs):=by
 have hbs:=bsFreqs
 go_enter Tryz.func128,Tryz.ntmps128
 go_wp2_with fail
 go_ret
 refine ⟨w.heap.size,rfl,fun _ => ⟨w.heap.size,0,rfl,by simp,fun i hi => ?_⟩,more (start _) _⟩
 have hi4 : i < 4:=hi
 rw [World.cell?_alloc_at _ _ _ _ rfl]
 rcases (by omega : i = 0 ∨ i = 1 ∨ i = 2 ∨ i = 3) with rfl | rfl | rfl | rfl <;> rfl
theorem rowS_at {w : World} {b : Nat} {l : List Tx} (h : RowS w (some ⟨b,0,none⟩) l) (i : Nat) (hi : i < l.length) : w.cell? ⟨b,i,none⟩ = some (.string (str l[i])):=by
 obtain ⟨b2,o2,e,_,hc⟩:=h (by intro e; rw [e] at hi; simp at hi)
 injection e with e
 injection e with e1 e2
 subst e1 e2
 have:=hc i hi
 rwa [Nat.zero_add] at this
theorem freqT_any (n : Int) (w : World) (h1 : 1 <= n) (h2 : n <= 4) : Calls Tryz.prog 92 #[.int .i64 n] w (Ans w (.string (str (freqT n)))):=by
 obtain ⟨k,rfl⟩ : ∃ k : Nat,n = (k : Int) + 1:=⟨(n - 1).toNat,by omega⟩
 have hk : k < 4:=by omega
 have hT : Hid (freqT ((k : Int) + 1) = freqWs[k]'hk):=hide (by
  unfold freqT
  rw [show ((k : Int) + 1).toNat - 1 = k by omega,List.getD_eq_getElem?_getD,List.getElem?_eq_getElem (show k < freqWs.length from hk)]; rfl)
 have hk0 : (0 : Int) <= (k : Int):=by omega
 have hk4 : (k : Int) < 4:=by omega
 go_enter Tryz.func92,Tryz.ntmps92
 go_wp2_with fail
 refine (freqWs_any _).mono ?_
 rintro e w1 ⟨b,rfl,hr,hb⟩
 have c:=rowS_at hr k hk
 have hlen : freqWs.length = 4:=rfl
 rw [hlen]
 generalize freqWs[k]'hk = F at *
 go_wp2_with fail
 go_ret
 exact ⟨ret_str (by rw [hT.out]),hb⟩
theorem freqOf_any (t : ByteArray) (w : World) : Calls Tryz.prog 271 #[.string t] w (MayI w ((ixOf freqWs t.data.toList).map fun k => ((k + 1 : Nat) : Int))):=by
 obtain ⟨T,hT⟩ : ∃ T,t.data.toList = T:=⟨_,rfl⟩
 have ht : t = str T:=by rw [<- hT]; exact str_of t
 subst ht
 rw [hT]
 cases ho : ixOf freqWs T with
 | none =>
  have HX : Hid (ixE freqWs T = -1):=hide (by unfold ixE; rw [ho])
  clear ho
  go_enter Tryz.func271,Tryz.ntmps271
  go_wp2_with fail
  refine (freqWs_any _).mono ?_
  rintro e w1 ⟨b,rfl,hr,hb⟩
  go_wp2_with fail
  refine (ixS_any T _ _ _ freqWs _ hr rfl (by decide)).mono ?_
  rintro e w2 ⟨rfl,hb2⟩
  rw [HX.out]
  go_wp2_with fail
  go_ret2
  exact ⟨0,fun m hm => (by cases hm),rfl,andthen hb hb2⟩
 | some k =>
  have HX : Hid (ixE freqWs T = k):=hide (by unfold ixE; rw [ho])
  have hk : k < 4:=by
   have:=ixOf_some ho
   rw [List.getElem?_eq_some_iff] at this
   exact this.1
  have hk0 : (0 : Int) <= (k : Int):=by omega
  have hk4 : (k : Int) < 4:=by omega
  clear ho
  go_enter Tryz.func271,Tryz.ntmps271
  go_wp2_with fail
  refine (freqWs_any _).mono ?_
  rintro e w1 ⟨b,rfl,hr,hb⟩
  go_wp2_with fail
  refine (ixS_any T _ _ _ freqWs _ hr rfl (by decide)).mono ?_
  rintro e w2 ⟨rfl,hb2⟩
  rw [HX.out]
  go_wp2_with fail
  go_ret2
  exact ⟨1 + (k : Int),fun m hm => (by have e:=Option.some.inj hm; rw [<- e]; show 1 + (k : Int) = ((k + 1 : Nat) : Int); omega),rfl,andthen hb hb2⟩
theorem unless_any (a n : Int) (w : World) (h : in64 n) (ht : Tab w) : Calls Tryz.prog 93 #[.int .i64 a,.int .i64 n] w (Ans w (.string (str (unlessT a n)))):=by
 have HT:=hide ht
 clear ht
 by_cases hq : n = a
 ·have q : (n == a) = true:=by rw [beq_iff_eq]; exact hq
  have HU : Hid (unlessT a n = []):=hide (if_pos hq)
  clear hq
  go_enter Tryz.func93,Tryz.ntmps93
  go_wp2_with fail
  go_ret
  exact ⟨by rw [HU.out]; rfl,start _⟩
 ·have q : (n == a) = false:=beq_eq_false_iff_ne.2 hq
  have HU : Hid (unlessT a n = Lib.itoa n):=hide (if_neg hq)
  clear hq
  go_enter Tryz.func93,Tryz.ntmps93
  go_wp2_with fail
  refine (itoa_all n _ h HT.out).mono ?_
  rintro e w1 ⟨rfl,hb⟩
  go_wp2_with fail
  go_ret
  exact ⟨ret_str (by rw [HU.out]),hb⟩
def lastW (t : Tx) : Tx:=t.drop (t.length - 2)
theorem suf_iff (t W : Tx) (hW : W.length = 2) : Lib.hasSuffix t W = decide (lastW t = W):=by
 unfold Lib.hasSuffix lastW
 rw [Bool.eq_iff_iff,List.isSuffixOf_iff_suffix,List.suffix_iff_eq_drop,decide_eq_true_eq,hW]
 exact ⟨fun h => h.symm,fun h => h.symm⟩
theorem day_len (k : Nat) (hk : k < 7) : (dayWs[k]'hk).length = 2:=by
 have : ∀ k : Nat,k < 7 -> (dayWs.getD k []).length = 2:=by decide
 have h:=this k hk
 rw [List.getD_eq_getElem?_getD,List.getElem?_eq_getElem (show k < dayWs.length from hk)] at h
 exact h
theorem wd_none (t : Tx) (h : ixOf dayWs (lastW t) = none) : wdWith numC t = none:=by
 unfold wdWith; unfold lastW at h; rw [h]
theorem wd_some (t : Tx) (k : Nat) (h : ixOf dayWs (lastW t) = some k) : wdWith numC t = (posW (t.take (t.length - 2))).map fun n => (n,(k : Int)):=by
 have hm : lastW t ∈ dayWs:=List.mem_of_getElem? (ixOf_some h)
 have hl : (lastW t).length = 2:=by
  have : ∀ w ∈ dayWs,w.length = 2:=by decide
  exact this _ hm
 have h2 : 2 <= t.length:=by unfold lastW at hl; rw [List.length_drop] at hl; omega
 unfold wdWith
 unfold lastW at h
 rw [h]
 simp only
 unfold posW
 by_cases e : t.length = 2
 ·rw [if_pos e,if_pos (by rw [e]; rfl)]; rfl
 ·rw [if_neg e,if_neg (by intro g; have:=congrArg List.length g; rw [List.length_take,List.length_nil] at this; omega)]
  cases numC (t.take (t.length - 2)) with
  | none => rfl
  | some n =>
   simp only
   split <;> rfl
def MayW (w : World) (o : Option Wd) (e : Ending) (w' : World) : Prop:=∃ n d : Int,(∀ m,o = some m -> (n,d) = m) /\ e = .returned (.tuple #[.agg #[.int .i64 n,.int .i64 d],.bool o.isSome]) /\ Below w.heap.size w w'
theorem two_new (w : World) (x0 x1 : Value) (t : TypeId) : Two2 w w.heap.size x0 x1 (w.alloc (.cells #[x0,x1] t)):=by
 refine ⟨?_,?_,more (start _) _⟩
 all_goals (rw [World.cell?_alloc_at _ _ _ _ rfl]; rfl)
theorem wday_any (t : ByteArray) (w : World) (he : Env w) (ht : t.size <= 100000) :
  Calls Tryz.prog 278 #[.string t] w (MayW w (wdWith numC t.data.toList)):=by
 have HE:=hide he
 clear he
 have HW0:=hide (two_new w (.int .i64 0) (.int .i64 0) 114)
 go_enter Tryz.func278,Tryz.ntmps278
 go_wp2_with fail
 refine (dayWs_any _).mono ?_
 rintro e w1 ⟨b,rfl,hr,hb⟩
 have HT1:=hide (HW0.out.keep hb)
 have HR:=hide hr
 have hz : w.heap.size < w1.heap.size:=by have:=hb.size; simp only [World.size_alloc] at this; omega
 have hf0 : w1.frozen? ⟨w.heap.size,0,none⟩ = false:=(hb.frozen (p:=⟨w.heap.size,0,none⟩) (by simp)).trans (by simp)
 have hf1 : w1.frozen? ⟨w.heap.size,1,none⟩ = false:=(hb.frozen (p:=⟨w.heap.size,1,none⟩) (by simp)).trans (by simp)
 have HF:=hide (And.intro hf0 hf1)
 have hlen : dayWs.length = 7:=rfl
 rw [hlen]
 clear hr hf0 hf1 hb HW0
 go_wp2_with fail
 go_loopw [11] (fun i wr => ∃ j : Nat,j <= 7 /\ i = .int .i64 j /\ Hid (∀ i (hi : i < dayWs.length),i < j -> dayWs[i] ≠ lastW t.data.toList) /\ Below w1.heap.size w1 wr) (fun i _ => 7 - (intOf i).toNat)
 case atStart => exact ⟨0,Nat.zero_le _,rfl,hide fun i hi h => absurd h (Nat.not_lt_zero _),start _⟩
 case round =>
  obtain ⟨j,hj,rfl,HN0,hbw⟩:=hrel
  have HBR:=hide hbw
  by_cases hlt : j < 7
  ·have c:=cell_keep hbw (rowS_at HR.out j hlt)
   have hi0 : (0 : Int) <= (j : Int):=by omega
   have hi1 : (j : Int) < 7:=by omega
   have hS:=suf_iff t.data.toList (dayWs[j]'hlt) (day_len j hlt)
   replace HBR:=hide (andthen (Two2.keep HT1.out hbw).2.2 (start wr))
   have HTr:=hide (Two2.keep HT1.out hbw)
   have hfr0 : wr.frozen? ⟨w.heap.size,0,none⟩ = false:=(hbw.frozen (p:=⟨w.heap.size,0,none⟩) hz).trans HF.out.1
   have hfr1 : wr.frozen? ⟨w.heap.size,1,none⟩ = false:=(hbw.frozen (p:=⟨w.heap.size,1,none⟩) hz).trans HF.out.2
   have hzr : w.heap.size < wr.heap.size:=Nat.lt_of_lt_of_le hz hbw.size
   have HEr:=hide (HE.out.keep HTr.out.2.2)
   by_cases hq : lastW t.data.toList = dayWs[j]'hlt
   ·have HX : Hid (wdWith numC t.data.toList = (posW (t.data.toList.take (t.data.toList.length - 2))).map fun n => (n,(j : Int))):=hide (wd_some _ j (ixOf_at dayWs j hlt HN0.out hq.symm))
    rw [decide_eq_true hq] at hS
    have hTr : Lib.trimSuffix t.data.toList (dayWs[j]'hlt) = t.data.toList.take (t.data.toList.length - 2):=by unfold Lib.trimSuffix; rw [hS,if_pos rfl,day_len j hlt]
    have HC:=hide (fun w => suffix_all (dayWs[j]'hlt) (str (dayWs[j]'hlt)) rfl t w ht)
    rw [hS,hTr] at HC
    have hP : (str (t.data.toList.take (t.data.toList.length - 2))).size <= 100000:=by rw [str_size,List.length_take,len_of]; omega
    have hD : (str (t.data.toList.take (t.data.toList.length - 2))).data.toList = t.data.toList.take (t.data.toList.length - 2):=str_list _
    generalize dayWs[j]'hlt = D at *
    generalize t.data.toList.take (t.data.toList.length - 2) = P at *
    clear hS hTr hq hbw
    go_wp2_with fail
    refine (HC.out _).mono ?_
    rintro e v1 ⟨rfl,hb1⟩
    go_wp2_with fail
    refine (position_any (str P) _ (HEr.out.keep hb1) hP).mono ?_
    rintro e v2 ⟨n,hn,rfl,hb2⟩
    rw [hD] at hn ⊢
    have hb12:=andthen hb1 hb2
    have HV:=hide (Two2.keep HTr.out hb12)
    have f0 : v2.frozen? ⟨w.heap.size,0,none⟩ = false:=(hb12.frozen (p:=⟨w.heap.size,0,none⟩) hzr).trans hfr0
    have f1 : v2.frozen? ⟨w.heap.size,1,none⟩ = false:=(hb12.frozen (p:=⟨w.heap.size,1,none⟩) hzr).trans hfr1
    have z2 : w.heap.size < v2.heap.size:=Nat.lt_of_lt_of_le hzr hb12.size
    have x0:=HV.out.1
    have x1:=HV.out.2.1
    have HNN:=hide hn
    obtain ⟨B,hB⟩ : ∃ B,(posW P).isSome = B:=⟨_,rfl⟩
    rw [hB]
    clear hn hb1 hb2 hb12 hfr0 hfr1 c
    go_wp2_with fail
    refine ret_gen (Two2 w w.heap.size (.int .i64 n) (.int .i64 j)) (two_set HV.out) ?_
    rintro WF ⟨c0,c1,hb⟩
    refine bodyPost_ret (v:=.tuple #[.agg #[.int .i64 n,.int .i64 j],.bool B]) (by simp [results,Tryz.results278,go_sem,c0,c1]) rfl ⟨n,(j : Int),fun m hm => ?_,?_,hb⟩
    ·rw [HX.out,Option.map_eq_some_iff] at hm
     obtain ⟨y,hy,rfl⟩:=hm
     rw [HNN.out y hy]
    ·rw [HX.out,<- hB,Option.isSome_map]
   ·have HN : Hid (∀ i (hi : i < dayWs.length),i < j + 1 -> dayWs[i] ≠ lastW t.data.toList):=hide (fun i hi hij => by
     rcases Nat.lt_or_ge i j with g | g
     ·exact HN0.out i hi g
     ·obtain rfl : i = j:=by omega
      exact fun e => hq e.symm)
    rw [decide_eq_false hq] at hS
    have HC:=hide (fun w => suffix_all (dayWs[j]'hlt) (str (dayWs[j]'hlt)) rfl t w ht)
    rw [hS] at HC
    generalize Lib.trimSuffix t.data.toList (dayWs[j]'hlt) = Z at *
    generalize dayWs[j]'hlt = D at *
    have HBW:=hide hbw
    clear hS hq hbw
    go_wp2_with fail
    refine (HC.out _).mono ?_
    rintro e v1 ⟨rfl,hb1⟩
    replace HBW:=hide (andthen HBW.out hb1)
    clear hb1
    go_wp2_with fail
    go_roundw
    case rel => exact ⟨j + 1,by omega,by go_num,HN,HBW.out⟩
    case measure => simp [intOf]; omega
  ·obtain rfl : j = 7:=by omega
   have HX:=hide (wd_none _ (ixOf_nowhere dayWs fun i hi => HN0.out i hi hi))
   have HV:=hide (Two2.keep HT1.out hbw)
   have f0 : wr.frozen? ⟨w.heap.size,0,none⟩ = false:=(hbw.frozen (p:=⟨w.heap.size,0,none⟩) hz).trans HF.out.1
   have f1 : wr.frozen? ⟨w.heap.size,1,none⟩ = false:=(hbw.frozen (p:=⟨w.heap.size,1,none⟩) hz).trans HF.out.2
   have z2 : w.heap.size < wr.heap.size:=Nat.lt_of_lt_of_le hz hbw.size
   have x0:=HV.out.1
   have x1:=HV.out.2.1
   clear hbw HBR
   go_wp2_with fail
   refine ret_gen (Two2 w w.heap.size (.int .i64 0) (.int .i64 0)) (two_set HV.out) ?_
   rintro WF ⟨c0,c1,hb⟩
   exact bodyPost_ret (v:=.tuple #[.agg #[.int .i64 0,.int .i64 0],.bool false]) (by simp [results,Tryz.results278,go_sem,c0,c1]) rfl ⟨0,0,fun m hm => (by rw [HX.out] at hm; cases hm),by rw [HX.out]; rfl,hb⟩
theorem Day_no (n d : Int) (w : World) (h : d < 0 ∨ 7 <= d) : Calls Tryz.prog 96 #[.agg #[.int .i64 n,.int .i64 d]] w (Ans w (.string (str (dayT (n,d))))):=by
 have hd : Hid (dayT (n,d) = []):=hide (by unfold dayT; rw [if_neg (by simp only; omega)])
 have hlen : dayWs.length = 7:=rfl
 by_cases hl : d < 0
 ·clear h
  go_enter Tryz.func96,Tryz.ntmps96
  go_wp2_with fail
  refine (dayWs_any _).mono ?_
  rintro e w1 ⟨b,rfl,hr,hb⟩
  have s1 : w1.cell? ⟨w.heap.size,1,none⟩ = some (.int .i64 d):=cell_keep hb (by rw [World.cell?_alloc_at _ _ _ _ rfl]; rfl)
  rw [hlen]
  go_wp2_with fail
  go_ret
  exact ⟨by rw [hd.out]; rfl,andthen (more (start w) _) hb⟩
 ·have h7 : 7 <= d:=by omega
  have hl2 : decide (d < 0) = false:=decide_eq_false hl
  clear h
  go_enter Tryz.func96,Tryz.ntmps96
  go_wp2_with fail
  refine (dayWs_any _).mono ?_
  rintro e w1 ⟨b,rfl,hr,hb⟩
  have s1 : w1.cell? ⟨w.heap.size,1,none⟩ = some (.int .i64 d):=cell_keep hb (by rw [World.cell?_alloc_at _ _ _ _ rfl]; rfl)
  rw [hlen]
  go_wp2_with fail
  go_ret
  exact ⟨by rw [hd.out]; rfl,andthen (more (start w) _) hb⟩
theorem Day_yes (n : Int) (k : Nat) (w : World) (hn : in64 n) (hk : k < 7) (ht : Tab w) : Calls Tryz.prog 96 #[.agg #[.int .i64 n,.int .i64 k]] w (Ans w (.string (str (dayT (n,(k : Int)))))):=by
 have hlen : dayWs.length = 7:=rfl
 have hd : Hid (dayT (n,(k : Int)) = unlessT 0 n ++ dayWs[k]'hk):=hide (by
  unfold dayT
  rw [if_pos (by simp only; omega)]
  simp only [Int.toNat_natCast]
  rw [List.getD_eq_getElem?_getD,List.getElem?_eq_getElem (show k < dayWs.length from hk)]; rfl)
 have HT:=hide ht
 have hsU : (str (unlessT 0 n)).size <= 30:=by
  rw [str_size]; unfold unlessT; split
  ·simp
  ·exact Nat.le_trans (Lib.itoa_length_le n hn.1 hn.2) (by omega)
 have HU:=hide (fun w ht => unless_any 0 n w hn ht)
 have hsD : (str (dayWs[k]'hk)).size = 2:=by rw [str_size]; exact day_len k hk
 have k0 : (0 : Int) <= (k : Int):=by omega
 have k7 : (k : Int) < 7:=by omega
 generalize unlessT 0 n = U at *
 clear ht hn
 go_enter Tryz.func96,Tryz.ntmps96
 go_wp2_with fail
 refine (dayWs_any _).mono ?_
 rintro e w1 ⟨b,rfl,hr,hb⟩
 have s0 : w1.cell? ⟨w.heap.size,0,none⟩ = some (.int .i64 n):=cell_keep hb (by rw [World.cell?_alloc_at _ _ _ _ rfl]; rfl)
 have s1 : w1.cell? ⟨w.heap.size,1,none⟩ = some (.int .i64 k):=cell_keep hb (by rw [World.cell?_alloc_at _ _ _ _ rfl]; rfl)
 have c:=rowS_at hr k hk
 have HB:=hide (andthen (more (start w) _) hb)
 have HT1:=hide (HT.out.below HB.out (Nat.le_refl _))
 generalize dayWs[k]'hk = F at *
 rw [hlen]
 clear hr hb
 go_wp2_with fail
 have f0:=fun d os => cell_regrown s0 d os
 have f1:=fun d os => cell_regrown s1 d os
 have fc:=fun d os => cell_regrown c d os
 have T1:=hide (fun d os => HT1.out.below (below_regrown w1 d os) (Nat.le_refl _))
 refine wp_region_quiet_below (by kernel_rfl) (by kernel_rfl) ?_
 repeat (first | go_big_quiet_step ((first | (go_at_call 93; exact Calls.regrown_of (HU.out _ (T1.out _ _))))) | quiet_step ((first | (go_at_call 93; exact Calls.regrown_of (HU.out _ (T1.out _ _))))))
 refine wpQuiet_nil ?_
 intro _ hw'
 obtain ⟨⟨nq,osq⟩,hw''⟩:=hw'
 subst hw''
 go_wp2_with fail
 go_ret
 exact ⟨ret_str (by rw [hd.out,<- str_app]),andthen HB.out (below_regrown w1 nq osq)⟩
theorem Day_any (n d : Int) (w : World) (hn : in64 n) (ht : Tab w) : Calls Tryz.prog 96 #[.agg #[.int .i64 n,.int .i64 d]] w (Ans w (.string (str (dayT (n,d))))):=by
 by_cases h : d < 0 ∨ 7 <= d
 ·exact Day_no n d w h
 ·obtain ⟨k,rfl⟩ : ∃ k : Nat,d = (k : Int):=⟨d.toNat,by omega⟩
  exact Day_yes n k w hn (by omega) ht
theorem dayT_len (w : Wd) (h : in64 w.1) : (dayT w).length <= 40:=by
 unfold dayT
 split
 ·rename_i hr
  have : ∀ k : Nat,k < 7 -> (dayWs.getD k []).length <= 2:=by decide
  have h2:=this w.2.toNat (by omega)
  rw [List.length_append]
  split
  ·simp only [List.length_nil]; omega
  ·have:=Lib.itoa_length_le w.1 h.1 h.2
   omega
 ·simp
theorem listI_any (A : Option Addr) (n c : Nat) (l : List Int) (w : World) (hl : RowI w A l) (hn : n = l.length) (hsz : l.length <= 1000) (hb : ∀ x ∈ l,in64 x) (ht : Tab w) :
  Calls Tryz.prog 94 #[.func (.func 58) #[] #[],.slice A n c] w (Ans w (.string (str (listT Lib.itoa l)))):=by
 subst hn
 have HR:=hide hl
 have HT:=hide ht
 have HB:=hide hb
 have HLEN : Hid (∀ p ∈ l.map Lib.itoa,p.length <= 100000):=hide (fun p hp => by
  obtain ⟨x,hx,rfl⟩:=List.mem_map.1 hp
  exact Nat.le_trans (Lib.itoa_length_le x (hb x hx).1 (hb x hx).2) (by omega))
 clear hl ht hb
 go_enter Tryz.func94,Tryz.ntmps94
 go_wp2_with (refine wp_makeS rfl _ _ rfl rfl (n:=l.length) rfl rfl (by omega) ?_; intro v0 w0 hown0 hb0)
 have HO0:=hide hown0
 have HB0:=hide hb0
 clear hown0 hb0
 go_wp2_with fail
 go_loopw [5,7,13] (fun v _ i wr => ∃ j : Nat,j <= l.length /\ i = .int .i64 j /\ OwnS wr w.heap.size v ((l.take j).map Lib.itoa) /\ Below w.heap.size w wr) (fun _ _ i _ => l.length - (intOf i).toNat)
 case atStart => exact ⟨0,Nat.zero_le _,rfl,HO0.out,HB0.out⟩
 case round =>
  obtain ⟨j,hj,rfl,hown,hbw⟩:=hrel
  have HO:=hide hown
  have HBR:=hide hbw
  clear hown hbw
  by_cases hlt : j < l.length
  ·obtain ⟨b1,o1,rfl,hb1,hc1⟩:=HR.out (by intro h0; rw [h0] at hlt; exact absurd hlt (Nat.not_lt_zero _))
   obtain ⟨m,hm⟩ : ∃ m,l[j] = m:=⟨_,rfl⟩
   have hmr:=HB.out l[j] (List.getElem_mem _)
   rw [hm] at hmr
   have p1 : wr.cell? ⟨b1,o1 + j,none⟩ = some (.int .i64 m):=by rw [<- hm]; exact (HBR.out.cell (p:=⟨b1,_,none⟩) hb1).trans (hc1 j hlt)
   have hi0 : (0 : Int) <= (j : Int):=by omega
   have hi1 : (j : Int) < (l.length : Int):=by omega
   have HTK : Hid ((l.take (j + 1)).map Lib.itoa = (l.take j).map Lib.itoa ++ [Lib.itoa m]):=hide (by rw [List.take_succ_eq_append_getElem hlt,hm,List.map_append]; rfl)
   have HC:=hide (fun w ht => itoa_all m w hmr ht)
   have hln0 : ((l.take j).map Lib.itoa).length <= 1000000:=by rw [List.length_map]; exact Nat.le_trans (List.length_take_le _ _) (by omega)
   generalize (l.take j).map Lib.itoa = S at *
   obtain ⟨M,hM⟩ : ∃ M,Lib.itoa m = M:=⟨_,rfl⟩
   rw [hM] at HTK HC
   clear hc1 hm hM
   go_wp2_with fail
   refine (HC.out _ (HT.out.below HBR.out (Nat.le_refl _))).mono ?_
   rintro e v1 ⟨rfl,hbv⟩
   replace HO:=hide (HO.out.keep hbv)
   replace HBR:=hide (andthen HBR.out hbv)
   have hz:=HBR.out.size
   have hown:=HO.out
   have hln:=hln0
   clear hbv
   go_wp2_with (at_builtin; refine wp_oneS (l:=S) (p:=M) rfl _ _ rfl rfl rfl rfl hown hz hln ?_; intro v3 w3 hown3 hb3)
   have HO3:=hide hown3
   have HB3:=hide (HBR.out.trans hb3)
   clear hown hown3 hb3 hz hln
   go_wp2_with fail
   go_roundw
   case rel => exact ⟨j + 1,by omega,by go_num,by rw [HTK.out]; exact HO3.out,HB3.out⟩
   case measure => simp [intOf]; omega
  ·obtain rfl : j = l.length:=by omega
   rw [List.take_length] at HO
   obtain ⟨A2,cap2,rfl,hrow,hcap⟩:=OwnS.row HO.out
   have HRW:=hide hrow
   have HCAP:=hide hcap
   have HLM : Hid ((l.map Lib.itoa).length <= 1000):=hide (by rw [List.length_map]; exact hsz)
   obtain ⟨L,hL⟩ : ∃ L,l.map Lib.itoa = L:=⟨_,rfl⟩
   have HLT : Hid (listT Lib.itoa l = joinAt 44 L):=hide (by unfold listT; rw [hL])
   rw [hL] at HO HRW HCAP HLM HLEN ⊢
   clear hrow hcap hL
   go_wp2_with fail
   refine (join_all 44 _ rfl A2 _ cap2 L _ HRW.out rfl HCAP.out HLM.out HLEN.out).mono ?_
   rintro e v1 ⟨rfl,hbv⟩
   go_wp2_with fail
   go_ret
   exact ⟨ret_str (by rw [HLT.out]),andthen HBR.out hbv⟩
theorem listD_any (A : Option Addr) (n c : Nat) (l : List Wd) (w : World) (hl : RowD w A l) (hn : n = l.length) (hsz : l.length <= 1000) (hb : ∀ x ∈ l,in64 x.1) (ht : Tab w) :
  Calls Tryz.prog 95 #[.func (.func 96) #[] #[],.slice A n c] w (Ans w (.string (str (listT dayT l)))):=by
 subst hn
 have HR:=hide hl
 have HT:=hide ht
 have HB:=hide hb
 have HLEN : Hid (∀ p ∈ l.map dayT,p.length <= 100000):=hide (fun p hp => by
  obtain ⟨x,hx,rfl⟩:=List.mem_map.1 hp
  exact Nat.le_trans (dayT_len x (hb x hx)) (by omega))
 clear hl ht hb
 go_enter Tryz.func95,Tryz.ntmps95
 go_wp2_with (refine wp_makeS rfl _ _ rfl rfl (n:=l.length) rfl rfl (by omega) ?_; intro v0 w0 hown0 hb0)
 have HO0:=hide hown0
 have HB0:=hide hb0
 clear hown0 hb0
 go_wp2_with fail
 go_loopw [5,7,13] (fun v _ i wr => ∃ j : Nat,j <= l.length /\ i = .int .i64 j /\ OwnS wr w.heap.size v ((l.take j).map dayT) /\ Below w.heap.size w wr) (fun _ _ i _ => l.length - (intOf i).toNat)
 case atStart => exact ⟨0,Nat.zero_le _,rfl,HO0.out,HB0.out⟩
 case round =>
  obtain ⟨j,hj,rfl,hown,hbw⟩:=hrel
  have HO:=hide hown
  have HBR:=hide hbw
  clear hown hbw
  by_cases hlt : j < l.length
  ·obtain ⟨b1,o1,rfl,hb1,hc1⟩:=HR.out (by intro h0; rw [h0] at hlt; exact absurd hlt (Nat.not_lt_zero _))
   obtain ⟨m,hm⟩ : ∃ m,l[j] = m:=⟨_,rfl⟩
   have hmr:=HB.out l[j] (List.getElem_mem _)
   rw [hm] at hmr
   have p1 : wr.cell? ⟨b1,o1 + j * 2,none⟩ = some (.int .i64 m.1):=by rw [<- hm]; exact (HBR.out.cell (p:=⟨b1,_,none⟩) hb1).trans (hc1 j hlt).1
   have p2 : wr.cell? ⟨b1,o1 + j * 2 + 1,none⟩ = some (.int .i64 m.2):=by rw [<- hm]; exact (HBR.out.cell (p:=⟨b1,_,none⟩) hb1).trans (hc1 j hlt).2
   have hi0 : (0 : Int) <= (j : Int):=by omega
   have hi1 : (j : Int) < (l.length : Int):=by omega
   have HTK : Hid ((l.take (j + 1)).map dayT = (l.take j).map dayT ++ [dayT m]):=hide (by rw [List.take_succ_eq_append_getElem hlt,hm,List.map_append]; rfl)
   have HC : Hid (∀ w,Tab w -> Calls Tryz.prog 96 #[.agg #[.int .i64 m.1,.int .i64 m.2]] w (Ans w (.string (str (dayT m))))):=hide (fun w ht => Day_any m.1 m.2 w hmr ht)
   have hln0 : ((l.take j).map dayT).length <= 1000000:=by rw [List.length_map]; exact Nat.le_trans (List.length_take_le _ _) (by omega)
   generalize (l.take j).map dayT = S at *
   obtain ⟨M,hM⟩ : ∃ M,dayT m = M:=⟨_,rfl⟩
   rw [hM] at HTK HC
   clear hc1 hm hM
   have hbV:=more (start wr) (.cells #[.int .i64 m.1,.int .i64 m.2] 114)
   replace HO:=hide (HO.out.keep hbV)
   replace HBR:=hide (andthen HBR.out hbV)
   clear hbV
   go_wp2_with fail
   refine (HC.out _ (HT.out.below HBR.out (Nat.le_refl _))).mono ?_
   rintro e v1 ⟨rfl,hbv⟩
   replace HO:=hide (HO.out.keep hbv)
   replace HBR:=hide (andthen HBR.out hbv)
   have hz:=HBR.out.size
   have hown:=HO.out
   have hln:=hln0
   clear hbv
   go_wp2_with (at_builtin; refine wp_oneS (l:=S) (p:=M) rfl _ _ rfl rfl rfl rfl hown hz hln ?_; intro v3 w3 hown3 hb3)
   have HO3:=hide hown3
   have HB3:=hide (HBR.out.trans hb3)
   clear hown hown3 hb3 hz hln
   go_wp2_with fail
   go_roundw
   case rel => exact ⟨j + 1,by omega,by go_num,by rw [HTK.out]; exact HO3.out,HB3.out⟩
   case measure => simp [intOf]; omega
  ·obtain rfl : j = l.length:=by omega
   rw [List.take_length] at HO
   obtain ⟨A2,cap2,rfl,hrow,hcap⟩:=OwnS.row HO.out
   have HRW:=hide hrow
   have HCAP:=hide hcap
   have HLM : Hid ((l.map dayT).length <= 1000):=hide (by rw [List.length_map]; exact hsz)
   obtain ⟨L,hL⟩ : ∃ L,l.map dayT = L:=⟨_,rfl⟩
   have HLT : Hid (listT dayT l = joinAt 44 L):=hide (by unfold listT; rw [hL])
   rw [hL] at HO HRW HCAP HLM HLEN ⊢
   clear hrow hcap hL
   go_wp2_with fail
   refine (join_all 44 _ rfl A2 _ cap2 L _ HRW.out rfl HCAP.out HLM.out HLEN.out).mono ?_
   rintro e v1 ⟨rfl,hbv⟩
   go_wp2_with fail
   go_ret
   exact ⟨ret_str (by rw [HLT.out]),andthen HBR.out hbv⟩
theorem form_chars (v : Tx) (h : formB v = true) : ∀ c ∈ v,digit c = true ∨ c = 84:=by
 have hp:=form_parts v h
 have h84 : v.getD 8 0 = 84:=by
  unfold formB at h
  simp only [Bool.and_eq_true,beq_iff_eq] at h
  exact h.1.1.1.2
 intro c hc
 have e : v = v.take 8 ++ (v.getD 8 0 :: v.drop 9):=by
  have : v.drop 8 = v.getD 8 0 :: v.drop 9:=by
   rw [List.drop_eq_getElem_cons (by omega),List.getD_eq_getElem?_getD,List.getElem?_eq_getElem (by omega)]; rfl
  rw [<- this,List.take_append_drop]
 rw [e] at hc
 have hd : ∀ l : Tx,digitsB l = true -> ∀ c ∈ l,digit c = true:=fun l hl c hc => List.all_eq_true.1 hl c hc
 rcases List.mem_append.1 hc with g | g
 ·exact Or.inl (hd _ hp.2.1 c g)
 ·rcases List.mem_cons.1 g with g | g
  ·exact Or.inr (g.trans h84)
  ·exact Or.inl (hd _ hp.2.2 c g)
theorem form_free (v : Tx) (h : formB v = true) (c : UInt8) (h1 : digit c = false) (h2 : c ≠ 84) : c ∉ v:=fun g => by
 rcases form_chars v h c g with e | e
 ·rw [h1] at e; cases e
 ·exact h2 e
theorem un_form (v : Tx) (n : Int) (h : unE v = some n) : formB v = true:=by
 unfold unE parseE at h
 cases hf : formB v with
 | true => rfl
 | false => rw [hf] at h; simp at h
theorem text_form (n : Int) (h1 : 0 <= n) (h2 : n < 52596000) : formB (textOf n) = true:=by rw [textOf_in n h1 h2]; exact txt_form _ _ _ _ _ (fields_of n h1 h2)
def unU : Un where
 f:=unE
 text:=textOf
 noeq v n h:=form_free v (un_form v n h) 61 (by decide) (by decide)
 back n h1 h2:=by unfold unE; rw [parse_text n h1 h2]; rfl
 free n:=by
  by_cases h : 0 <= n /\ n < 52596000
  ·have hf:=text_form n h.1 h.2
   exact ⟨form_free _ hf 59 (by decide) (by decide),form_free _ hf 61 (by decide) (by decide)⟩
  ·have : textOf n = []:=if_neg h
   rw [this]; simp
 nil:=if_neg (by omega)
 some n h1 h2:=by rw [textOf_in n h1 h2]; unfold txt; simp
theorem text_len (n : Int) : (textOf n).length <= 15:=by
 unfold textOf
 split
 ·exact Nat.le_refl 15
 ·simp
def RowP (w : World) (A : Option Addr) (l : List (Tx × Tx)) : Prop :=
 l ≠ [] -> ∃ b off,A = some ⟨b,off,none⟩ /\ b < w.heap.size /\ ∀ i (h : i < l.length),w.cell? ⟨b,off + i * 2,none⟩ = some (.string (str l[i].1)) /\ w.cell? ⟨b,off + i * 2 + 1,none⟩ = some (.string (str l[i].2))
def partT (p : Tx × Tx) : Tx:=p.1 ++ 61 :: p.2
def keepP (p : Tx × Tx) : Bool:=decide (p.2 ≠ [])
def writtenT (l : List (Tx × Tx)) : Tx:=joinAt 59 ((l.filter keepP).map partT)
theorem keep_yes {l : List (Tx × Tx)} {j : Nat} (hlt : j < l.length) {p : Tx × Tx} (hp : l[j] = p) (h : keepP p = true) : ((l.take (j + 1)).filter keepP).map partT = ((l.take j).filter keepP).map partT ++ [partT p]:=by
 rw [List.take_succ_eq_append_getElem hlt,hp,List.filter_append,List.map_append]
 simp [h]
theorem keep_no {l : List (Tx × Tx)} {j : Nat} (hlt : j < l.length) {p : Tx × Tx} (hp : l[j] = p) (h : keepP p = false) : ((l.take (j + 1)).filter keepP).map partT = ((l.take j).filter keepP).map partT:=by
 rw [List.take_succ_eq_append_getElem hlt,hp,List.filter_append,List.map_append]
 simp [h]
theorem written_any (A : Option Addr) (n c : Nat) (l : List (Tx × Tx)) (w : World) (hl : RowP w A l) (hn : n = l.length) (hsz : l.length <= 1000) (hb : ∀ p ∈ l,p.1.length <= 1000 /\ p.2.length <= 90000) :
  Calls Tryz.prog 91 #[.slice A n c] w (Ans w (.string (str (writtenT l)))):=by
 subst hn
 have HR:=hide hl
 have HB:=hide hb
 have HLEN : Hid (∀ p ∈ (l.filter keepP).map partT,p.length <= 100000):=hide (fun p hp => by
  obtain ⟨x,hx,rfl⟩:=List.mem_map.1 hp
  have:=hb x (List.mem_filter.1 hx).1
  unfold partT
  rw [List.length_append,List.length_cons]; omega)
 clear hl hb
 go_enter Tryz.func91,Tryz.ntmps91
 go_wp2_with fail
 go_loopw [3,5,8] (fun v _ i wr => ∃ j : Nat,j <= l.length /\ i = .int .i64 j /\ OwnS wr w.heap.size v (((l.take j).filter keepP).map partT) /\ Below w.heap.size w wr) (fun _ _ i _ => l.length - (intOf i).toNat)
 case atStart => exact ⟨0,Nat.zero_le _,rfl,ownS_nil _ _,start _⟩
 case round =>
  obtain ⟨j,hj,rfl,hown,hbw⟩:=hrel
  have HO:=hide hown
  have HBR:=hide hbw
  clear hown hbw
  by_cases hlt : j < l.length
  ·obtain ⟨b1,o1,rfl,hb1,hc1⟩:=HR.out (by intro h0; rw [h0] at hlt; exact absurd hlt (Nat.not_lt_zero _))
   obtain ⟨m,hm⟩ : ∃ m,l[j] = m:=⟨_,rfl⟩
   obtain ⟨nm,vl⟩:=m
   have hmr:=HB.out l[j] (List.getElem_mem _)
   rw [hm] at hmr
   have p1 : wr.cell? ⟨b1,o1 + j * 2,none⟩ = some (.string (str nm)):=(HBR.out.cell (p:=⟨b1,_,none⟩) hb1).trans (by have:=(hc1 j hlt).1; rwa [hm] at this)
   have p2 : wr.cell? ⟨b1,o1 + j * 2 + 1,none⟩ = some (.string (str vl)):=(HBR.out.cell (p:=⟨b1,_,none⟩) hb1).trans (by have:=(hc1 j hlt).2; rwa [hm] at this)
   have hi0 : (0 : Int) <= (j : Int):=by omega
   have hi1 : (j : Int) < (l.length : Int):=by omega
   have hbV:=more (start wr) (.cells #[.string (str nm),.string (str vl)] 131)
   replace HO:=hide (HO.out.keep hbV)
   replace HBR:=hide (andthen HBR.out hbV)
   have q1:=str_tl vl
   have z1 : (str nm).size <= 1000:=by rw [str_size]; exact hmr.1
   have z2 : (str vl).size <= 90000:=by rw [str_size]; exact hmr.2
   have hln0 : (((l.take j).filter keepP).map partT).length <= 1000000:=by rw [List.length_map]; exact Nat.le_trans (List.length_filter_le _ _) (Nat.le_trans (List.length_take_le _ _) (by omega))
   clear hc1 hbV hmr
   by_cases hv : vl = []
   ·have HN:=hide (keep_no hlt hm (by unfold keepP; rw [hv]; rfl))
    have q2 : vl.isEmpty = true:=by rw [hv]; rfl
    generalize ((l.take j).filter keepP).map partT = S at *
    clear hm hv
    go_wp2_with fail
    go_roundw
    case rel => exact ⟨j + 1,by omega,by go_num,by rw [HN.out]; exact HO.out,HBR.out⟩
    case measure => simp [intOf]; omega
   ·have HN:=hide (keep_yes hlt hm (by unfold keepP; simpa using hv))
    have q2 : vl.isEmpty = false:=by cases vl with | nil => exact absurd rfl hv | cons _ _ => rfl
    have HE : Hid ((str nm ++ (⟨#[61]⟩ : ByteArray)) ++ str vl = str (partT (nm,vl))):=hide (by unfold partT; rw [show (⟨#[61]⟩ : ByteArray) = str [61] from rfl,str_app,str_app]; simp)
    have z3 : (str nm ++ (⟨#[61]⟩ : ByteArray)).size <= 1001:=by rw [show (⟨#[61]⟩ : ByteArray) = str [61] from rfl,str_app,str_size,List.length_append]; rw [str_size] at z1; simp only [List.length_cons,List.length_nil]; omega
    obtain ⟨Z,hZ⟩ : ∃ Z,(str nm ++ (⟨#[61]⟩ : ByteArray)) ++ str vl = Z:=⟨_,rfl⟩
    have HZ : Hid (Z = str (partT (nm,vl))):=hide (hZ ▸ HE.out)
    generalize ((l.take j).filter keepP).map partT = S at *
    have hz:=HBR.out.size
    have hown:=HO.out
    have hln:=hln0
    clear hm hv
    go_wp2_with (at_builtin; rw [HZ.out]; refine wp_oneS (l:=S) (p:=partT (nm,vl)) rfl _ _ rfl rfl (World.size_alloc _ _) rfl hown hz hln ?_; intro v3 w3 hown3 hb3)
    have HO3:=hide hown3
    have HB3:=hide (HBR.out.trans hb3)
    clear hown hown3 hb3 hz hln
    go_wp2_with fail
    go_roundw
    case rel => exact ⟨j + 1,by omega,by go_num,by rw [HN.out]; exact HO3.out,HB3.out⟩
    case measure => simp [intOf]; omega
  ·obtain rfl : j = l.length:=by omega
   rw [List.take_length] at HO
   obtain ⟨A2,cap2,rfl,hrow,hcap⟩:=OwnS.row HO.out
   have HRW:=hide hrow
   have HCAP:=hide hcap
   have HLM : Hid (((l.filter keepP).map partT).length <= 1000):=hide (by rw [List.length_map]; exact Nat.le_trans (List.length_filter_le _ _) hsz)
   obtain ⟨L,hL⟩ : ∃ L,(l.filter keepP).map partT = L:=⟨_,rfl⟩
   have HLT : Hid (writtenT l = joinAt 59 L):=hide (by unfold writtenT; rw [hL])
   rw [hL] at HO HRW HCAP HLM HLEN ⊢
   clear hrow hcap hL
   go_wp2_with fail
   refine (join_all 59 _ rfl A2 _ cap2 L _ HRW.out rfl HCAP.out HLM.out HLEN.out).mono ?_
   rintro e v1 ⟨rfl,hbv⟩
   go_wp2_with fail
   go_ret
   exact ⟨ret_str (by rw [HLT.out]),andthen HBR.out hbv⟩
theorem bsParts (T0 T1 T2 T3 T4 T5 T6 : Tx) (w : World) : (Instr.buildSlice 169 7 #[(0,.agg #[.string ⟨#[70,82,69,81]⟩,.string (str T0)]),(1,.agg #[.string ⟨#[73,78,84,69,82,86,65,76]⟩,.string (str T1)]),(2,.agg #[.string ⟨#[67,79,85,78,84]⟩,.string (str T2)]),(3,.agg #[.string ⟨#[85,78,84,73,76]⟩,.string (str T3)]),(4,.agg #[.string ⟨#[66,89,77,79,78,84,72]⟩,.string (str T4)]),(5,.agg #[.string ⟨#[66,89,77,79,78,84,72,68,65,89]⟩,.string (str T5)]),(6,.agg #[.string ⟨#[66,89,68,65,89]⟩,.string (str T6)])]).run Tryz.prog w = .ok (.slice (some ⟨w.heap.size,0,none⟩) 7 7) (w.alloc (.cells #[.string ⟨#[70,82,69,81]⟩,.string (str T0),.string ⟨#[73,78,84,69,82,86,65,76]⟩,.string (str T1),.string ⟨#[67,79,85,78,84]⟩,.string (str T2),.string ⟨#[85,78,84,73,76]⟩,.string (str T3),.string ⟨#[66,89,77,79,78,84,72]⟩,.string (str T4),.string ⟨#[66,89,77,79,78,84,72,68,65,89]⟩,.string (str T5),.string ⟨#[66,89,68,65,89]⟩,.string (str T6)] 131)):=by kernel_rfl
theorem rowP7 (T0 T1 T2 T3 T4 T5 T6 : Tx) (w : World) (t : TypeId) : RowP (w.alloc (.cells #[.string ⟨#[70,82,69,81]⟩,.string (str T0),.string ⟨#[73,78,84,69,82,86,65,76]⟩,.string (str T1),.string ⟨#[67,79,85,78,84]⟩,.string (str T2),.string ⟨#[85,78,84,73,76]⟩,.string (str T3),.string ⟨#[66,89,77,79,78,84,72]⟩,.string (str T4),.string ⟨#[66,89,77,79,78,84,72,68,65,89]⟩,.string (str T5),.string ⟨#[66,89,68,65,89]⟩,.string (str T6)] t)) (some ⟨w.heap.size,0,none⟩) [(nFREQ,T0),(nINTERVAL,T1),(nCOUNT,T2),(nUNTIL,T3),(nBYMONTH,T4),(nBYMONTHDAY,T5),(nBYDAY,T6)]:=fun _ => by
 refine ⟨w.heap.size,0,rfl,by simp,fun i hi => ?_⟩
 have hi7 : i < 7:=hi
 rw [World.cell?_alloc_at _ _ _ _ rfl,World.cell?_alloc_at _ _ _ _ rfl]
 rcases (by omega : i = 0 ∨ i = 1 ∨ i = 2 ∨ i = 3 ∨ i = 4 ∨ i = 5 ∨ i = 6) with rfl | rfl | rfl | rfl | rfl | rfl | rfl <;> exact ⟨rfl,rfl⟩
theorem written_parts (U : Un) (r : T) : writtenT ((allP r).map fun p => (nameOf p,valT U p)) = joinAt 59 ((fieldsP U r).map (textP U)):=by
 unfold writtenT fieldsP
 rw [List.filter_map,List.map_map]
 rfl
theorem print_yes (U : Un) (r : T) (h1 : isB r = true) (h2 : sameB r once = false) : printE U r = joinAt 59 ((fieldsP U r).map (textP U)):=by
 unfold printE; rw [h1,h2]; rfl
theorem print_no (U : Un) (r : T) (h : isB r = false ∨ sameB r once = true) : printE U r = []:=by
 unfold printE
 rw [if_neg]
 rcases h with h | h <;> rw [h] <;> simp
structure PrintC (w : World) (D : Option Addr) (dn : Nat) (M : Option Addr) (mn : Nat) (Y : Option Addr) (yn : Nat) (ds : List Wd) (ms ys : List Int) (W : World) : Prop where
 tab : Tab W
 lies : Lies W D dn M mn Y yn ds ms ys
 below : Below w.heap.size w W
theorem print_keep {w W W1 : World} {fr ev ct un : Int} {D M Y : Option Addr} {dn dc mn mc yn yc : Nat} {ds : List Wd} {ms ys : List Int} (hb : Below W.heap.size W W1) (h : W.cell? ⟨w.heap.size,0,none⟩ = some (.int .i64 fr) /\ W.cell? ⟨w.heap.size,1,none⟩ = some (.int .i64 ev) /\ W.cell? ⟨w.heap.size,2,none⟩ = some (.int .i64 ct) /\ W.cell? ⟨w.heap.size,3,none⟩ = some (.int .i64 un) /\ W.cell? ⟨w.heap.size,4,none⟩ = some (.slice D dn dc) /\ W.cell? ⟨w.heap.size,5,none⟩ = some (.slice M mn mc) /\ W.cell? ⟨w.heap.size,6,none⟩ = some (.slice Y yn yc) /\ PrintC w D dn M mn Y yn ds ms ys W) : W1.cell? ⟨w.heap.size,0,none⟩ = some (.int .i64 fr) /\ W1.cell? ⟨w.heap.size,1,none⟩ = some (.int .i64 ev) /\ W1.cell? ⟨w.heap.size,2,none⟩ = some (.int .i64 ct) /\ W1.cell? ⟨w.heap.size,3,none⟩ = some (.int .i64 un) /\ W1.cell? ⟨w.heap.size,4,none⟩ = some (.slice D dn dc) /\ W1.cell? ⟨w.heap.size,5,none⟩ = some (.slice M mn mc) /\ W1.cell? ⟨w.heap.size,6,none⟩ = some (.slice Y yn yc) /\ PrintC w D dn M mn Y yn ds ms ys W1:=by
 obtain ⟨c0,c1,c2,c3,c4,c5,c6,h1,h2,h3⟩:=h
 exact ⟨cell_keep hb c0,cell_keep hb c1,cell_keep hb c2,cell_keep hb c3,cell_keep hb c4,cell_keep hb c5,cell_keep hb c6,h1.below hb (Nat.le_refl _),h2.keep hb,andthen h3 hb⟩
theorem Print_no (fr ev ct un : Int) (D M Y : Option Addr) (dn dc mn mc yn yc : Nat) (ds : List Wd) (ms ys : List Int) (w : World) (hl : Lies w D dn M mn Y yn ds ms ys) (ht : Tab w) (hi : isB ⟨fr,ev,ct,un,ds,ms,ys⟩ = false) :
  Calls Tryz.prog 59 #[.agg #[.int .i64 fr,.int .i64 ev,.int .i64 ct,.int .i64 un,.slice D dn dc,.slice M mn mc,.slice Y yn yc]] w (Ans w (.string (str []))):=by
 have HI:=hide hi
 clear hi
 have hbox:=more (start w) (.cells #[.int .i64 fr,.int .i64 ev,.int .i64 ct,.int .i64 un,.slice D dn dc,.slice M mn mc,.slice Y yn yc] 44)
 have HLB:=hide (hl.keep hbox)
 have HTB:=hide (ht.below hbox (Nat.le_refl _))
 have HBX:=hide hbox
 have hAC : ∀ i v,(#[.int .i64 fr,.int .i64 ev,.int .i64 ct,.int .i64 un,.slice D dn dc,.slice M mn mc,.slice Y yn yc] : Array Value)[i]? = some v -> (w.alloc (.cells #[.int .i64 fr,.int .i64 ev,.int .i64 ct,.int .i64 un,.slice D dn dc,.slice M mn mc,.slice Y yn yc] 44)).cell? ⟨w.heap.size,i,none⟩ = some v:=fun i v h => by rw [World.cell?_alloc_at _ _ _ _ rfl]; exact h
 have s0:=hAC 0 _ rfl
 have s1:=hAC 1 _ rfl
 have s2:=hAC 2 _ rfl
 have s3:=hAC 3 _ rfl
 have s4:=hAC 4 _ rfl
 have s5:=hAC 5 _ rfl
 have s6:=hAC 6 _ rfl
 clear hAC
 clear hl ht hbox
 go_enter Tryz.func59,Tryz.ntmps59
 go_wp2_with fail
 have f0:=fun d os => cell_regrown s0 d os
 have f1:=fun d os => cell_regrown s1 d os
 have f2:=fun d os => cell_regrown s2 d os
 have f3:=fun d os => cell_regrown s3 d os
 have f4:=fun d os => cell_regrown s4 d os
 have f5:=fun d os => cell_regrown s5 d os
 have f6:=fun d os => cell_regrown s6 d os
 have L1:=hide (fun d os => Lies.keep HLB.out (below_regrown (w.alloc (.cells #[.int .i64 fr,.int .i64 ev,.int .i64 ct,.int .i64 un,.slice D dn dc,.slice M mn mc,.slice Y yn yc] 44)) d os))
 refine wp_region_quiet_below (by kernel_rfl) (by kernel_rfl) ?_
 repeat (first | go_big_quiet_step ((first | (go_at_call 88; exact Calls.regrown_of (ans_is (ruleIs_any fr ev ct un D M Y dn dc mn mc yn yc ds ms ys _ (L1.out _ _)) HI.out)) | (go_at_call 90; exact Calls.regrown_of (once_any _)))) | quiet_step ((first | (go_at_call 88; exact Calls.regrown_of (ans_is (ruleIs_any fr ev ct un D M Y dn dc mn mc yn yc ds ms ys _ (L1.out _ _)) HI.out)) | (go_at_call 90; exact Calls.regrown_of (once_any _)))))
 refine wpQuiet_nil ?_
 intro _ hw'
 obtain ⟨⟨nq,osq⟩,hw''⟩:=hw'
 subst hw''
 replace HBX:=hide (andthen HBX.out (below_regrown (w.alloc (.cells #[.int .i64 fr,.int .i64 ev,.int .i64 ct,.int .i64 un,.slice D dn dc,.slice M mn mc,.slice Y yn yc] 44)) nq osq))
 go_wp2_with fail
 go_ret
 exact ⟨rfl,HBX.out⟩
theorem Print_once (fr ev ct un : Int) (D M Y : Option Addr) (dn dc mn mc yn yc : Nat) (ds : List Wd) (ms ys : List Int) (w : World) (hl : Lies w D dn M mn Y yn ds ms ys) (ht : Tab w) (hi : isB ⟨fr,ev,ct,un,ds,ms,ys⟩ = true) (hs : sameB ⟨fr,ev,ct,un,ds,ms,ys⟩ once = true) :
  Calls Tryz.prog 59 #[.agg #[.int .i64 fr,.int .i64 ev,.int .i64 ct,.int .i64 un,.slice D dn dc,.slice M mn mc,.slice Y yn yc]] w (Ans w (.string (str []))):=by
 have HI:=hide hi
 have HS : Hid (sameB ⟨fr,ev,ct,un,ds,ms,ys⟩ ⟨0,0,0,-1,[],[],[]⟩ = true):=hide hs
 clear hi hs
 have hbox:=more (start w) (.cells #[.int .i64 fr,.int .i64 ev,.int .i64 ct,.int .i64 un,.slice D dn dc,.slice M mn mc,.slice Y yn yc] 44)
 have HLB:=hide (hl.keep hbox)
 have HTB:=hide (ht.below hbox (Nat.le_refl _))
 have HBX:=hide hbox
 have hAC : ∀ i v,(#[.int .i64 fr,.int .i64 ev,.int .i64 ct,.int .i64 un,.slice D dn dc,.slice M mn mc,.slice Y yn yc] : Array Value)[i]? = some v -> (w.alloc (.cells #[.int .i64 fr,.int .i64 ev,.int .i64 ct,.int .i64 un,.slice D dn dc,.slice M mn mc,.slice Y yn yc] 44)).cell? ⟨w.heap.size,i,none⟩ = some v:=fun i v h => by rw [World.cell?_alloc_at _ _ _ _ rfl]; exact h
 have s0:=hAC 0 _ rfl
 have s1:=hAC 1 _ rfl
 have s2:=hAC 2 _ rfl
 have s3:=hAC 3 _ rfl
 have s4:=hAC 4 _ rfl
 have s5:=hAC 5 _ rfl
 have s6:=hAC 6 _ rfl
 clear hAC
 clear hl ht hbox
 go_enter Tryz.func59,Tryz.ntmps59
 go_wp2_with fail
 have f0:=fun d os => cell_regrown s0 d os
 have f1:=fun d os => cell_regrown s1 d os
 have f2:=fun d os => cell_regrown s2 d os
 have f3:=fun d os => cell_regrown s3 d os
 have f4:=fun d os => cell_regrown s4 d os
 have f5:=fun d os => cell_regrown s5 d os
 have f6:=fun d os => cell_regrown s6 d os
 have L1:=hide (fun d os => Lies.keep HLB.out (below_regrown (w.alloc (.cells #[.int .i64 fr,.int .i64 ev,.int .i64 ct,.int .i64 un,.slice D dn dc,.slice M mn mc,.slice Y yn yc] 44)) d os))
 refine wp_region_quiet_below (by kernel_rfl) (by kernel_rfl) ?_
 repeat (first | go_big_quiet_step ((first | (go_at_call 88; exact Calls.regrown_of (ans_is (ruleIs_any fr ev ct un D M Y dn dc mn mc yn yc ds ms ys _ (L1.out _ _)) HI.out)) | (go_at_call 90; exact Calls.regrown_of (once_any _)) | (go_at_call 89; exact Calls.regrown_of (ans_is (same_any fr ev ct un D M Y dn dc mn mc yn yc 0 0 0 (-1) none none none 0 0 0 0 0 0 ds ms ys [] [] [] _ (L1.out _ _) (lies_once _)) HS.out)))) | quiet_step ((first | (go_at_call 88; exact Calls.regrown_of (ans_is (ruleIs_any fr ev ct un D M Y dn dc mn mc yn yc ds ms ys _ (L1.out _ _)) HI.out)) | (go_at_call 90; exact Calls.regrown_of (once_any _)) | (go_at_call 89; exact Calls.regrown_of (ans_is (same_any fr ev ct un D M Y dn dc mn mc yn yc 0 0 0 (-1) none none none 0 0 0 0 0 0 ds ms ys [] [] [] _ (L1.out _ _) (lies_once _)) HS.out)))))
 refine wpQuiet_nil ?_
 intro _ hw'
 obtain ⟨⟨nq,osq⟩,hw''⟩:=hw'
 subst hw''
 replace HBX:=hide (andthen HBX.out (below_regrown (w.alloc (.cells #[.int .i64 fr,.int .i64 ev,.int .i64 ct,.int .i64 un,.slice D dn dc,.slice M mn mc,.slice Y yn yc] 44)) nq osq))
 go_wp2_with fail
 go_ret
 exact ⟨rfl,HBX.out⟩
theorem in64_of {p : Int -> Bool} {l : List Int} (h : listB p inLt 0 l = true) (hp : ∀ x,p x = true -> -31 <= x /\ x <= 31) : ∀ x ∈ l,in64 x:=fun x hx => by
 have:=hp x (((listB_iff ordI 0 l).1 h).2.1 x hx)
 unfold in64; omega
set_option linter.unusedSimpArgs false in
theorem Print_core (fr ev ct un : Int) (D M Y : Option Addr) (dn dc mn mc yn yc : Nat) (ds : List Wd) (ms ys : List Int) (w : World) (hl : Lies w D dn M mn Y yn ds ms ys) (ht : Tab w) (hi : isB ⟨fr,ev,ct,un,ds,ms,ys⟩ = true) (hs : sameB ⟨fr,ev,ct,un,ds,ms,ys⟩ once = false) (T0 T1 T2 T3 T4 T5 T6 PR : Tx)
  (hc0 : ∀ w,Calls Tryz.prog 92 #[.int .i64 fr] w (Ans w (.string (str T0))))
  (hc1 : ∀ w,Tab w -> Calls Tryz.prog 93 #[.int .i64 1,.int .i64 ev] w (Ans w (.string (str T1))))
  (hc2 : ∀ w,Tab w -> Calls Tryz.prog 93 #[.int .i64 0,.int .i64 ct] w (Ans w (.string (str T2))))
  (hc3 : ∀ w,Tab w -> Calls Tryz.prog 57 #[.int .i64 un] w (Ans w (.string (str T3))))
  (hc4 : ∀ w,RowI w Y ys -> yn = ys.length -> Tab w -> Calls Tryz.prog 94 #[.func (.func 58) #[] #[],.slice Y yn yc] w (Ans w (.string (str T4))))
  (hc5 : ∀ w,RowI w M ms -> mn = ms.length -> Tab w -> Calls Tryz.prog 94 #[.func (.func 58) #[] #[],.slice M mn mc] w (Ans w (.string (str T5))))
  (hc6 : ∀ w,RowD w D ds -> dn = ds.length -> Tab w -> Calls Tryz.prog 95 #[.func (.func 96) #[] #[],.slice D dn dc] w (Ans w (.string (str T6))))
  (hbd : ∀ p ∈ [(nFREQ,T0),(nINTERVAL,T1),(nCOUNT,T2),(nUNTIL,T3),(nBYMONTH,T4),(nBYMONTHDAY,T5),(nBYDAY,T6)],p.1.length <= 1000 /\ p.2.length <= 90000) (hp : writtenT [(nFREQ,T0),(nINTERVAL,T1),(nCOUNT,T2),(nUNTIL,T3),(nBYMONTH,T4),(nBYMONTHDAY,T5),(nBYDAY,T6)] = PR) :
  Calls Tryz.prog 59 #[.agg #[.int .i64 fr,.int .i64 ev,.int .i64 ct,.int .i64 un,.slice D dn dc,.slice M mn mc,.slice Y yn yc]] w (Ans w (.string (str PR))):=by
 have HI:=hide hi
 have HS : Hid (sameB ⟨fr,ev,ct,un,ds,ms,ys⟩ ⟨0,0,0,-1,[],[],[]⟩ = false):=hide hs
 have HC0:=hide hc0
 have HC1:=hide hc1
 have HC2:=hide hc2
 have HC3:=hide hc3
 have HC4:=hide hc4
 have HC5:=hide hc5
 have HC6:=hide hc6
 have HBD:=hide hbd
 have HP:=hide hp
 have hbs:=bsParts T0 T1 T2 T3 T4 T5 T6
 clear hi hs hc0 hc1 hc2 hc3 hc4 hc5 hc6 hbd hp
 have hbox:=more (start w) (.cells #[.int .i64 fr,.int .i64 ev,.int .i64 ct,.int .i64 un,.slice D dn dc,.slice M mn mc,.slice Y yn yc] 44)
 have HLB:=hide (hl.keep hbox)
 have HTB:=hide (ht.below hbox (Nat.le_refl _))
 have HBX:=hide hbox
 have hAC : ∀ i v,(#[.int .i64 fr,.int .i64 ev,.int .i64 ct,.int .i64 un,.slice D dn dc,.slice M mn mc,.slice Y yn yc] : Array Value)[i]? = some v -> (w.alloc (.cells #[.int .i64 fr,.int .i64 ev,.int .i64 ct,.int .i64 un,.slice D dn dc,.slice M mn mc,.slice Y yn yc] 44)).cell? ⟨w.heap.size,i,none⟩ = some v:=fun i v h => by rw [World.cell?_alloc_at _ _ _ _ rfl]; exact h
 have s0:=hAC 0 _ rfl
 have s1:=hAC 1 _ rfl
 have s2:=hAC 2 _ rfl
 have s3:=hAC 3 _ rfl
 have s4:=hAC 4 _ rfl
 have s5:=hAC 5 _ rfl
 have s6:=hAC 6 _ rfl
 clear hAC
 clear hl ht hbox
 go_enter Tryz.func59,Tryz.ntmps59
 go_wp2_with fail
 have f0:=fun d os => cell_regrown s0 d os
 have f1:=fun d os => cell_regrown s1 d os
 have f2:=fun d os => cell_regrown s2 d os
 have f3:=fun d os => cell_regrown s3 d os
 have f4:=fun d os => cell_regrown s4 d os
 have f5:=fun d os => cell_regrown s5 d os
 have f6:=fun d os => cell_regrown s6 d os
 have L1:=hide (fun d os => Lies.keep HLB.out (below_regrown (w.alloc (.cells #[.int .i64 fr,.int .i64 ev,.int .i64 ct,.int .i64 un,.slice D dn dc,.slice M mn mc,.slice Y yn yc] 44)) d os))
 refine wp_region_quiet_below (by kernel_rfl) (by kernel_rfl) ?_
 repeat (first | go_big_quiet_step ((first | (go_at_call 88; exact Calls.regrown_of (ans_is (ruleIs_any fr ev ct un D M Y dn dc mn mc yn yc ds ms ys _ (L1.out _ _)) HI.out)) | (go_at_call 90; exact Calls.regrown_of (once_any _)) | (go_at_call 89; exact Calls.regrown_of (ans_is (same_any fr ev ct un D M Y dn dc mn mc yn yc 0 0 0 (-1) none none none 0 0 0 0 0 0 ds ms ys [] [] [] _ (L1.out _ _) (lies_once _)) HS.out)))) | quiet_step ((first | (go_at_call 88; exact Calls.regrown_of (ans_is (ruleIs_any fr ev ct un D M Y dn dc mn mc yn yc ds ms ys _ (L1.out _ _)) HI.out)) | (go_at_call 90; exact Calls.regrown_of (once_any _)) | (go_at_call 89; exact Calls.regrown_of (ans_is (same_any fr ev ct un D M Y dn dc mn mc yn yc 0 0 0 (-1) none none none 0 0 0 0 0 0 ds ms ys [] [] [] _ (L1.out _ _) (lies_once _)) HS.out)))))
 refine wpQuiet_nil ?_
 intro _ hw'
 obtain ⟨⟨nq,osq⟩,hw''⟩:=hw'
 subst hw''
 have hbq:=below_regrown (w.alloc (.cells #[.int .i64 fr,.int .i64 ev,.int .i64 ct,.int .i64 un,.slice D dn dc,.slice M mn mc,.slice Y yn yc] 44)) nq osq
 replace HBX:=hide (andthen HBX.out hbq)
 replace HLB:=hide (HLB.out.keep hbq)
 replace HTB:=hide (HTB.out.below hbq (Nat.le_refl _))
 replace s0:=f0 nq osq
 replace s1:=f1 nq osq
 replace s2:=f2 nq osq
 replace s3:=f3 nq osq
 replace s4:=f4 nq osq
 replace s5:=f5 nq osq
 replace s6:=f6 nq osq
 clear hbq L1 f0 f1 f2 f3 f4 f5 f6
 generalize (grow (redrawn (w.alloc (.cells #[.int .i64 fr,.int .i64 ev,.int .i64 ct,.int .i64 un,.slice D dn dc,.slice M mn mc,.slice Y yn yc] 44)) nq) osq) = V at *
 go_wp2_with fail
 have hS : V.cell? ⟨w.heap.size,0,none⟩ = some (.int .i64 fr) /\ V.cell? ⟨w.heap.size,1,none⟩ = some (.int .i64 ev) /\ V.cell? ⟨w.heap.size,2,none⟩ = some (.int .i64 ct) /\ V.cell? ⟨w.heap.size,3,none⟩ = some (.int .i64 un) /\ V.cell? ⟨w.heap.size,4,none⟩ = some (.slice D dn dc) /\ V.cell? ⟨w.heap.size,5,none⟩ = some (.slice M mn mc) /\ V.cell? ⟨w.heap.size,6,none⟩ = some (.slice Y yn yc) /\ PrintC w D dn M mn Y yn ds ms ys V:=⟨s0,s1,s2,s3,s4,s5,s6,HTB.out,HLB.out,HBX.out⟩
 refine wp_region_held_drew (S:=(fun w' => w'.cell? ⟨w.heap.size,0,none⟩ = some (.int .i64 fr) /\ w'.cell? ⟨w.heap.size,1,none⟩ = some (.int .i64 ev) /\ w'.cell? ⟨w.heap.size,2,none⟩ = some (.int .i64 ct) /\ w'.cell? ⟨w.heap.size,3,none⟩ = some (.int .i64 un) /\ w'.cell? ⟨w.heap.size,4,none⟩ = some (.slice D dn dc) /\ w'.cell? ⟨w.heap.size,5,none⟩ = some (.slice M mn mc) /\ w'.cell? ⟨w.heap.size,6,none⟩ = some (.slice Y yn yc) /\ PrintC w D dn M mn Y yn ds ms ys w')) (by kernel_rfl) ?_ (fun hH0 => ?_)
 ·exact print_keep (Below.drew (start _)) hS
 refine' wpAnyH_take (i:=0) (oi:=_) (v:=?v0) rfl (by as_aux_lemma => kernel_rfl) (by as_aux_lemma => kernel_rfl) (by as_aux_lemma => kernel_rfl) (fun _ _ _ h => h) (Or.inl ⟨by rfl,?y0⟩) hH0 ?r0
 case y0 => (intro w hSw; (try dsimp only at hSw); go_simp; (try with_reducible rfl))
 try simp only [Act.put,List.getElem_toArray,List.getElem_cons_succ,List.getElem_cons_zero,List.setIfInBounds_toArray,List.set_cons_zero,List.set_cons_succ]
 refine' wpAnyH_take (i:=1) (oi:=_) (v:=?v1) rfl (by as_aux_lemma => kernel_rfl) (by as_aux_lemma => kernel_rfl) (by as_aux_lemma => kernel_rfl) (fun _ _ _ h => h) (Or.inl ⟨by rfl,?y1⟩) hH0 ?r1
 case y1 => (intro w hSw; (try dsimp only at hSw); go_simp; (try with_reducible rfl))
 try simp only [Act.put,List.getElem_toArray,List.getElem_cons_succ,List.getElem_cons_zero,List.setIfInBounds_toArray,List.set_cons_zero,List.set_cons_succ]
 refine' wpAnyH_take (i:=4) (oi:=_) (v:=?v2) rfl (by as_aux_lemma => kernel_rfl) (by as_aux_lemma => kernel_rfl) (by as_aux_lemma => kernel_rfl) (fun _ _ _ h => h) (Or.inl ⟨by rfl,?y2⟩) hH0 ?r2
 case y2 => (intro w hSw; (try dsimp only at hSw); go_simp; (try with_reducible rfl))
 try simp only [Act.put,List.getElem_toArray,List.getElem_cons_succ,List.getElem_cons_zero,List.setIfInBounds_toArray,List.set_cons_zero,List.set_cons_succ]
 refine' wpAnyH_take (i:=5) (oi:=_) (v:=?v3) rfl (by as_aux_lemma => kernel_rfl) (by as_aux_lemma => kernel_rfl) (by as_aux_lemma => kernel_rfl) (fun _ _ _ h => h) (Or.inl ⟨by rfl,?y3⟩) hH0 ?r3
 case y3 => (intro w hSw; (try dsimp only at hSw); go_simp; (try with_reducible rfl))
 try simp only [Act.put,List.getElem_toArray,List.getElem_cons_succ,List.getElem_cons_zero,List.setIfInBounds_toArray,List.set_cons_zero,List.set_cons_succ]
 refine' wpAnyH_take (i:=8) (oi:=_) (v:=?v4) rfl (by as_aux_lemma => kernel_rfl) (by as_aux_lemma => kernel_rfl) (by as_aux_lemma => kernel_rfl) (fun _ _ _ h => h) (Or.inl ⟨by rfl,?y4⟩) hH0 ?r4
 case y4 => (intro w hSw; (try dsimp only at hSw); go_simp; (try with_reducible rfl))
 try simp only [Act.put,List.getElem_toArray,List.getElem_cons_succ,List.getElem_cons_zero,List.setIfInBounds_toArray,List.set_cons_zero,List.set_cons_succ]
 refine' wpAnyH_take (i:=9) (oi:=_) (v:=?v5) rfl (by as_aux_lemma => kernel_rfl) (by as_aux_lemma => kernel_rfl) (by as_aux_lemma => kernel_rfl) (fun _ _ _ h => h) (Or.inl ⟨by rfl,?y5⟩) hH0 ?r5
 case y5 => (intro w hSw; (try dsimp only at hSw); go_simp; (try with_reducible rfl))
 try simp only [Act.put,List.getElem_toArray,List.getElem_cons_succ,List.getElem_cons_zero,List.setIfInBounds_toArray,List.set_cons_zero,List.set_cons_succ]
 refine' wpAnyH_take (i:=12) (oi:=_) (v:=?v6) rfl (by as_aux_lemma => kernel_rfl) (by as_aux_lemma => kernel_rfl) (by as_aux_lemma => kernel_rfl) (fun _ _ _ h => h) (Or.inl ⟨by rfl,?y6⟩) hH0 ?r6
 case y6 => (intro w hSw; (try dsimp only at hSw); go_simp; (try with_reducible rfl))
 try simp only [Act.put,List.getElem_toArray,List.getElem_cons_succ,List.getElem_cons_zero,List.setIfInBounds_toArray,List.set_cons_zero,List.set_cons_succ]
 refine' wpAnyH_take (i:=13) (oi:=_) (v:=?v7) rfl (by as_aux_lemma => kernel_rfl) (by as_aux_lemma => kernel_rfl) (by as_aux_lemma => kernel_rfl) (fun _ _ _ h => h) (Or.inl ⟨by rfl,?y7⟩) hH0 ?r7
 case y7 => (intro w hSw; (try dsimp only at hSw); go_simp; (try with_reducible rfl))
 try simp only [Act.put,List.getElem_toArray,List.getElem_cons_succ,List.getElem_cons_zero,List.setIfInBounds_toArray,List.set_cons_zero,List.set_cons_succ]
 refine' wpAnyH_take (i:=16) (oi:=_) (v:=?v8) rfl (by as_aux_lemma => kernel_rfl) (by as_aux_lemma => kernel_rfl) (by as_aux_lemma => kernel_rfl) (fun _ _ _ h => h) (Or.inl ⟨by rfl,?y8⟩) hH0 ?r8
 case y8 => (intro w hSw; (try dsimp only at hSw); go_simp; (try with_reducible rfl))
 try simp only [Act.put,List.getElem_toArray,List.getElem_cons_succ,List.getElem_cons_zero,List.setIfInBounds_toArray,List.set_cons_zero,List.set_cons_succ]
 refine' wpAnyH_take (i:=17) (oi:=_) (v:=?v9) rfl (by as_aux_lemma => kernel_rfl) (by as_aux_lemma => kernel_rfl) (by as_aux_lemma => kernel_rfl) (fun _ _ _ h => h) (Or.inl ⟨by rfl,?y9⟩) hH0 ?r9
 case y9 => (intro w hSw; (try dsimp only at hSw); go_simp; (try with_reducible rfl))
 try simp only [Act.put,List.getElem_toArray,List.getElem_cons_succ,List.getElem_cons_zero,List.setIfInBounds_toArray,List.set_cons_zero,List.set_cons_succ]
 refine' wpAnyH_take (i:=20) (oi:=_) (v:=?v10) rfl (by as_aux_lemma => kernel_rfl) (by as_aux_lemma => kernel_rfl) (by as_aux_lemma => kernel_rfl) (fun _ _ _ h => h) (Or.inl ⟨by rfl,?y10⟩) hH0 ?r10
 case y10 => (intro w hSw; (try dsimp only at hSw); go_simp; (try with_reducible rfl))
 try simp only [Act.put,List.getElem_toArray,List.getElem_cons_succ,List.getElem_cons_zero,List.setIfInBounds_toArray,List.set_cons_zero,List.set_cons_succ]
 refine' wpAnyH_take (i:=21) (oi:=_) (v:=?v11) rfl (by as_aux_lemma => kernel_rfl) (by as_aux_lemma => kernel_rfl) (by as_aux_lemma => kernel_rfl) (fun _ _ _ h => h) (Or.inl ⟨by rfl,?y11⟩) hH0 ?r11
 case y11 => (intro w hSw; (try dsimp only at hSw); go_simp; (try with_reducible rfl))
 try simp only [Act.put,List.getElem_toArray,List.getElem_cons_succ,List.getElem_cons_zero,List.setIfInBounds_toArray,List.set_cons_zero,List.set_cons_succ]
 refine' wpAnyH_take (i:=24) (oi:=_) (v:=?v12) rfl (by as_aux_lemma => kernel_rfl) (by as_aux_lemma => kernel_rfl) (by as_aux_lemma => kernel_rfl) (fun _ _ _ h => h) (Or.inl ⟨by rfl,?y12⟩) hH0 ?r12
 case y12 => (intro w hSw; (try dsimp only at hSw); go_simp; (try with_reducible rfl))
 try simp only [Act.put,List.getElem_toArray,List.getElem_cons_succ,List.getElem_cons_zero,List.setIfInBounds_toArray,List.set_cons_zero,List.set_cons_succ]
 refine' wpAnyH_take (i:=25) (oi:=_) (v:=?v13) rfl (by as_aux_lemma => kernel_rfl) (by as_aux_lemma => kernel_rfl) (by as_aux_lemma => kernel_rfl) (fun _ _ _ h => h) (Or.inl ⟨by rfl,?y13⟩) hH0 ?r13
 case y13 => (intro w hSw; (try dsimp only at hSw); go_simp; (try with_reducible rfl))
 try simp only [Act.put,List.getElem_toArray,List.getElem_cons_succ,List.getElem_cons_zero,List.setIfInBounds_toArray,List.set_cons_zero,List.set_cons_succ]
 refine wpAnyH_ready (rs:=[2]) (by as_aux_lemma => kernel_rfl) (by simp) ?_
 refine AllReadyH.cons (o:=_) rfl (fun K hK => ?_) AllReadyH.nil
 go_simp
 refine (HC0.out _).mono ?_
 rintro e w2 ⟨rfl,hb⟩
 refine hK.out _ _ (print_keep hb hH0) (fun hN => ?_)
 clear hK K hH0
 have hH1:=hN
 clear hN
 try simp only [Act.put,List.getElem_toArray,List.getElem_cons_succ,List.getElem_cons_zero,List.setIfInBounds_toArray,List.set_cons_zero,List.set_cons_succ]
 refine' wpAnyH_take (i:=3) (oi:=_) (v:=?v14) rfl (by as_aux_lemma => kernel_rfl) (by as_aux_lemma => kernel_rfl) (by as_aux_lemma => kernel_rfl) (fun _ _ _ h => h) (Or.inl ⟨by rfl,?y14⟩) hH1 ?r14
 case y14 => (intro w hSw; (try dsimp only at hSw); go_simp; (try with_reducible rfl))
 try simp only [Act.put,List.getElem_toArray,List.getElem_cons_succ,List.getElem_cons_zero,List.setIfInBounds_toArray,List.set_cons_zero,List.set_cons_succ]
 refine wpAnyH_ready (rs:=[6]) (by as_aux_lemma => kernel_rfl) (by simp) ?_
 refine AllReadyH.cons (o:=_) rfl (fun K hK => ?_) AllReadyH.nil
 go_simp
 refine (HC1.out _ hH1.2.2.2.2.2.2.2.tab).mono ?_
 rintro e w2 ⟨rfl,hb⟩
 refine hK.out _ _ (print_keep hb hH1) (fun hN => ?_)
 clear hK K hH1
 have hH2:=hN
 clear hN
 try simp only [Act.put,List.getElem_toArray,List.getElem_cons_succ,List.getElem_cons_zero,List.setIfInBounds_toArray,List.set_cons_zero,List.set_cons_succ]
 refine' wpAnyH_take (i:=7) (oi:=_) (v:=?v15) rfl (by as_aux_lemma => kernel_rfl) (by as_aux_lemma => kernel_rfl) (by as_aux_lemma => kernel_rfl) (fun _ _ _ h => h) (Or.inl ⟨by rfl,?y15⟩) hH2 ?r15
 case y15 => (intro w hSw; (try dsimp only at hSw); go_simp; (try with_reducible rfl))
 try simp only [Act.put,List.getElem_toArray,List.getElem_cons_succ,List.getElem_cons_zero,List.setIfInBounds_toArray,List.set_cons_zero,List.set_cons_succ]
 refine wpAnyH_ready (rs:=[10]) (by as_aux_lemma => kernel_rfl) (by simp) ?_
 refine AllReadyH.cons (o:=_) rfl (fun K hK => ?_) AllReadyH.nil
 go_simp
 refine (HC2.out _ hH2.2.2.2.2.2.2.2.tab).mono ?_
 rintro e w2 ⟨rfl,hb⟩
 refine hK.out _ _ (print_keep hb hH2) (fun hN => ?_)
 clear hK K hH2
 have hH3:=hN
 clear hN
 try simp only [Act.put,List.getElem_toArray,List.getElem_cons_succ,List.getElem_cons_zero,List.setIfInBounds_toArray,List.set_cons_zero,List.set_cons_succ]
 refine' wpAnyH_take (i:=11) (oi:=_) (v:=?v16) rfl (by as_aux_lemma => kernel_rfl) (by as_aux_lemma => kernel_rfl) (by as_aux_lemma => kernel_rfl) (fun _ _ _ h => h) (Or.inl ⟨by rfl,?y16⟩) hH3 ?r16
 case y16 => (intro w hSw; (try dsimp only at hSw); go_simp; (try with_reducible rfl))
 try simp only [Act.put,List.getElem_toArray,List.getElem_cons_succ,List.getElem_cons_zero,List.setIfInBounds_toArray,List.set_cons_zero,List.set_cons_succ]
 refine wpAnyH_ready (rs:=[14]) (by as_aux_lemma => kernel_rfl) (by simp) ?_
 refine AllReadyH.cons (o:=_) rfl (fun K hK => ?_) AllReadyH.nil
 go_simp
 refine (HC3.out _ hH3.2.2.2.2.2.2.2.tab).mono ?_
 rintro e w2 ⟨rfl,hb⟩
 refine hK.out _ _ (print_keep hb hH3) (fun hN => ?_)
 clear hK K hH3
 have hH4:=hN
 clear hN
 try simp only [Act.put,List.getElem_toArray,List.getElem_cons_succ,List.getElem_cons_zero,List.setIfInBounds_toArray,List.set_cons_zero,List.set_cons_succ]
 refine' wpAnyH_take (i:=15) (oi:=_) (v:=?v17) rfl (by as_aux_lemma => kernel_rfl) (by as_aux_lemma => kernel_rfl) (by as_aux_lemma => kernel_rfl) (fun _ _ _ h => h) (Or.inl ⟨by rfl,?y17⟩) hH4 ?r17
 case y17 => (intro w hSw; (try dsimp only at hSw); go_simp; (try with_reducible rfl))
 try simp only [Act.put,List.getElem_toArray,List.getElem_cons_succ,List.getElem_cons_zero,List.setIfInBounds_toArray,List.set_cons_zero,List.set_cons_succ]
 refine wpAnyH_ready (rs:=[18]) (by as_aux_lemma => kernel_rfl) (by simp) ?_
 refine AllReadyH.cons (o:=_) rfl (fun K hK => ?_) AllReadyH.nil
 go_simp
 refine (HC4.out _ hH4.2.2.2.2.2.2.2.lies.y hH4.2.2.2.2.2.2.2.lies.yn hH4.2.2.2.2.2.2.2.tab).mono ?_
 rintro e w2 ⟨rfl,hb⟩
 refine hK.out _ _ (print_keep hb hH4) (fun hN => ?_)
 clear hK K hH4
 have hH5:=hN
 clear hN
 try simp only [Act.put,List.getElem_toArray,List.getElem_cons_succ,List.getElem_cons_zero,List.setIfInBounds_toArray,List.set_cons_zero,List.set_cons_succ]
 refine' wpAnyH_take (i:=19) (oi:=_) (v:=?v18) rfl (by as_aux_lemma => kernel_rfl) (by as_aux_lemma => kernel_rfl) (by as_aux_lemma => kernel_rfl) (fun _ _ _ h => h) (Or.inl ⟨by rfl,?y18⟩) hH5 ?r18
 case y18 => (intro w hSw; (try dsimp only at hSw); go_simp; (try with_reducible rfl))
 try simp only [Act.put,List.getElem_toArray,List.getElem_cons_succ,List.getElem_cons_zero,List.setIfInBounds_toArray,List.set_cons_zero,List.set_cons_succ]
 refine wpAnyH_ready (rs:=[22]) (by as_aux_lemma => kernel_rfl) (by simp) ?_
 refine AllReadyH.cons (o:=_) rfl (fun K hK => ?_) AllReadyH.nil
 go_simp
 refine (HC5.out _ hH5.2.2.2.2.2.2.2.lies.m hH5.2.2.2.2.2.2.2.lies.mn hH5.2.2.2.2.2.2.2.tab).mono ?_
 rintro e w2 ⟨rfl,hb⟩
 refine hK.out _ _ (print_keep hb hH5) (fun hN => ?_)
 clear hK K hH5
 have hH6:=hN
 clear hN
 try simp only [Act.put,List.getElem_toArray,List.getElem_cons_succ,List.getElem_cons_zero,List.setIfInBounds_toArray,List.set_cons_zero,List.set_cons_succ]
 refine' wpAnyH_take (i:=23) (oi:=_) (v:=?v19) rfl (by as_aux_lemma => kernel_rfl) (by as_aux_lemma => kernel_rfl) (by as_aux_lemma => kernel_rfl) (fun _ _ _ h => h) (Or.inl ⟨by rfl,?y19⟩) hH6 ?r19
 case y19 => (intro w hSw; (try dsimp only at hSw); go_simp; (try with_reducible rfl))
 try simp only [Act.put,List.getElem_toArray,List.getElem_cons_succ,List.getElem_cons_zero,List.setIfInBounds_toArray,List.set_cons_zero,List.set_cons_succ]
 refine wpAnyH_ready (rs:=[26]) (by as_aux_lemma => kernel_rfl) (by simp) ?_
 refine AllReadyH.cons (o:=_) rfl (fun K hK => ?_) AllReadyH.nil
 go_simp
 refine (HC6.out _ hH6.2.2.2.2.2.2.2.lies.d hH6.2.2.2.2.2.2.2.lies.dn hH6.2.2.2.2.2.2.2.tab).mono ?_
 rintro e w2 ⟨rfl,hb⟩
 refine hK.out _ _ (print_keep hb hH6) (fun hN => ?_)
 clear hK K hH6
 have hH7:=hN
 clear hN
 try simp only [Act.put,List.getElem_toArray,List.getElem_cons_succ,List.getElem_cons_zero,List.setIfInBounds_toArray,List.set_cons_zero,List.set_cons_succ]
 refine' wpAnyH_take (i:=27) (oi:=_) (v:=?v20) rfl (by as_aux_lemma => kernel_rfl) (by as_aux_lemma => kernel_rfl) (by as_aux_lemma => kernel_rfl) (fun _ _ _ h => h) (Or.inl ⟨by rfl,?y20⟩) hH7 ?r20
 case y20 => (intro w hSw; (try dsimp only at hSw); go_simp; (try with_reducible rfl))
 try simp only [Act.put,List.getElem_toArray,List.getElem_cons_succ,List.getElem_cons_zero,List.setIfInBounds_toArray,List.set_cons_zero,List.set_cons_succ]
 refine wpAnyH_ready (rs:=[28]) (by as_aux_lemma => kernel_rfl) (by simp) ?_
 refine AllReadyH.cons (o:=_) rfl (fun K hK => ?_) AllReadyH.nil
 go_simp
 refine hK.out _ _ (print_keep (more (start _) _) hH7) (fun hN => ?_)
 clear hK K hH7
 have hH8:=hN
 clear hN
 try simp only [Act.put,List.getElem_toArray,List.getElem_cons_succ,List.getElem_cons_zero,List.setIfInBounds_toArray,List.set_cons_zero,List.set_cons_succ]
 refine wpAnyH_ready (rs:=[29]) (by as_aux_lemma => kernel_rfl) (by simp) ?_
 refine AllReadyH.cons (o:=_) rfl (fun K hK => ?_) AllReadyH.nil
 go_simp
 refine (written_any (some ⟨_,0,none⟩) 7 7 [(nFREQ,T0),(nINTERVAL,T1),(nCOUNT,T2),(nUNTIL,T3),(nBYMONTH,T4),(nBYMONTHDAY,T5),(nBYDAY,T6)] _ (rowP7 T0 T1 T2 T3 T4 T5 T6 _ _) rfl (by show 7 <= 1000; omega) HBD.out).mono ?_
 rintro e w2 ⟨rfl,hb⟩
 refine hK.out _ _ (print_keep hb hH8) (fun hN => ?_)
 clear hK K hH8
 have hH9:=hN
 clear hN
 try simp only [Act.put,List.getElem_toArray,List.getElem_cons_succ,List.getElem_cons_zero,List.setIfInBounds_toArray,List.set_cons_zero,List.set_cons_succ]
 refine' wpAnyH_take (i:=30) (oi:=_) (v:=?v21) rfl (by as_aux_lemma => kernel_rfl) (by as_aux_lemma => kernel_rfl) (by as_aux_lemma => kernel_rfl) (fun _ _ _ h => h) (Or.inl ⟨by rfl,?y21⟩) hH9 ?r21
 case y21 => (intro w hSw; (try dsimp only at hSw); go_simp; (try with_reducible rfl))
 try simp only [Act.put,List.getElem_toArray,List.getElem_cons_succ,List.getElem_cons_zero,List.setIfInBounds_toArray,List.set_cons_zero,List.set_cons_succ]
 refine wpAnyH_done (by as_aux_lemma => kernel_rfl) ?_ _
 obtain ⟨_,_,_,_,_,_,_,hpc⟩:=hH9
 go_wp2_with fail
 go_ret
 exact ⟨ret_str (by rw [HP.out]),hpc.below⟩
theorem Print_any (fr ev ct un : Int) (D M Y : Option Addr) (dn dc mn mc yn yc : Nat) (ds : List Wd) (ms ys : List Int) (w : World) (hl : Lies w D dn M mn Y yn ds ms ys) (ht : Tab w) :
  Calls Tryz.prog 59 #[.agg #[.int .i64 fr,.int .i64 ev,.int .i64 ct,.int .i64 un,.slice D dn dc,.slice M mn mc,.slice Y yn yc]] w (Ans w (.string (str (printE unU ⟨fr,ev,ct,un,ds,ms,ys⟩)))):=by
 cases hi : isB ⟨fr,ev,ct,un,ds,ms,ys⟩
 ·rw [print_no _ _ (Or.inl hi)]
  exact Print_no fr ev ct un D M Y dn dc mn mc yn yc ds ms ys w hl ht hi
 cases hs : sameB ⟨fr,ev,ct,un,ds,ms,ys⟩ once
 ·have k:=rec_facts (rec_of hi (fun e => by rw [(sameB_iff _ _).2 e] at hs; cases hs))
  have hyl : ys.length <= 1000:=by have:=((listB_iff ordI 0 ys).1 k.ys).1; omega
  have hml : ms.length <= 1000:=by have:=((listB_iff ordI 0 ms).1 k.ms).1; omega
  have hdl : ds.length <= 1000:=by have:=((listB_iff ordW (0,0) ds).1 k.ds).1; omega
  have hy:=in64_of k.ys fun x hx => by rw [moOk,btw_iff] at hx; omega
  have hm:=in64_of k.ms fun x hx => by rw [mdOk,Bool.and_eq_true,btw_iff] at hx; omega
  have hd : ∀ x ∈ ds,in64 x.1:=fun x hx => by
   have:=((listB_iff ordW (0,0) ds).1 k.ds).2.1 x hx
   rw [wdOk,Bool.and_eq_true,btw_iff] at this
   unfold in64; omega
  have k1:=k.f1
  have k2:=k.f2
  have k3:=k.e1
  have k4:=k.e2
  have k5:=k.c1
  have k6:=k.c2
  simp only at k1 k2 k3 k4 k5 k6
  rw [print_yes _ _ hi hs]
  have hul : ∀ a n,in64 n -> (unlessT a n).length <= 30:=fun a n h => by
   unfold unlessT; split
   ·simp
   ·exact Nat.le_trans (Lib.itoa_length_le n h.1 h.2) (by omega)
  have hll : ∀ l : List Int,l.length <= 1000 -> (∀ x ∈ l,in64 x) -> (listT Lib.itoa l).length <= 90000:=fun l h1 h2 => by
   have:=listT_len Lib.itoa 30 l fun x hx => Nat.le_trans (Lib.itoa_length_le x (h2 x hx).1 (h2 x hx).2) (by omega)
   omega
  have hld : (listT dayT ds).length <= 90000:=by
   have:=listT_len dayT 40 ds fun x hx => dayT_len x (hd x hx)
   omega
  have hfl : (freqT fr).length <= 100:=by
   have : ∀ n : Nat,n < 4 -> (freqWs.getD n []).length <= 100:=by decide
   exact this (fr.toNat - 1) (by omega)
  have htl:=text_len un
  have i1 : in64 ev:=by unfold in64; omega
  have i2 : in64 ct:=by unfold in64; omega
  refine Print_core fr ev ct un D M Y dn dc mn mc yn yc ds ms ys w hl ht hi hs (freqT fr) (unlessT 1 ev) (unlessT 0 ct) (textOf un) (listT Lib.itoa ys) (listT Lib.itoa ms) (listT dayT ds) _
   (fun w => freqT_any fr w k1 k2) (fun w h => unless_any 1 ev w i1 h) (fun w h => unless_any 0 ct w i2 h) (fun w h => Text_any un w h)
   (fun w h1 h2 h3 => listI_any Y yn yc ys w h1 h2 hyl hy h3) (fun w h1 h2 h3 => listI_any M mn mc ms w h1 h2 hml hm h3) (fun w h1 h2 h3 => listD_any D dn dc ds w h1 h2 hdl hd h3) ?_ (written_parts unU ⟨fr,ev,ct,un,ds,ms,ys⟩)
  intro p hp
  have u1:=hul 1 ev i1
  have u2:=hul 0 ct i2
  have l1:=hll ys hyl hy
  have l2:=hll ms hml hm
  simp only [List.mem_cons,List.not_mem_nil,or_false] at hp
  rcases hp with rfl | rfl | rfl | rfl | rfl | rfl | rfl <;> refine ⟨by simp only; decide,?_⟩ <;> simp only <;> omega
 ·rw [print_no _ _ (Or.inr hs)]
  exact Print_once fr ev ct un D M Y dn dc mn mc yn yc ds ms ys w hl ht hi hs
end Go.Proofs.YtfecnkhoojnkbaaGreatDoor

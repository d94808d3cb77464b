/- EvB; EvH of the recipes, what is needed of them. -/
import Derived.Laws.RangeAny
import Derived.Laws.Runes
import Derived.Laws.Strings3
import Derived.Deep.LoopGhost
import Derived.Lib.Walk
import Derived.Lib.Strings
import Derived.Lib.FieldsLaws
import Derived.WalkMore
import Derived.ScopeJumps
import Derived.IntWalk
import Derived.Test.YtfecnkhoojnkbaaGreatDoorZEvA
import Derived.Test.YtfecnkhoojnkbaaGreatDoorZW6
import Derived.Test.YtfecnkhoojnkbaaGreatDoorZW7
set_option maxHeartbeats 8000000
set_option maxRecDepth 1000000
namespace Go.Proofs.YtfecnkhoojnkbaaGreatDoor
open Go.RowKit Rul Rt Fo Go.Sort Go.Shelf
theorem enum_any (t : ByteArray) (w : World) (he : Env w) (ht : t.size <= 100000) :
  Calls Tryz.prog 222 #[.string t] w (MayI w (numC t.data.toList)):=by
 have HE:=hide he
 clear he
 have q2:=str_tl2 t
 go_enter Tryz.func222,Tryz.ntmps222
 go_wp2_with fail
 refine (atoi_all t _ HE.out ht).mono ?_
 rintro e w1 ⟨hb,⟨n,ha,hin,rfl⟩ | ⟨ha,n,te,pe,rfl⟩⟩
 ·have HB:=hide hb
  have HT:=hide ((HE.out.keep hb).tab)
  have q1:=str_tl (Lib.itoa n)
  by_cases hq : Lib.itoa n = t.data.toList
  ·have HN : Hid (numC t.data.toList = some n):=hide (by unfold numC; rw [ha]; simp only; rw [if_pos hq])
   have q3 : (Lib.itoa n == t.data.toList) = true:=by rw [tx_eq,decide_eq_true hq]
   have HI:=hide (fun w ht => itoa_all n w hin ht)
   generalize Lib.itoa n = L at *
   clear hq ha hb hin
   go_wp2_with fail
   refine (HI.out _ HT.out).mono ?_
   rintro e w2 ⟨rfl,hb2⟩
   replace HB:=hide (andthen HB.out hb2)
   clear hb2
   go_wp2_with fail
   go_ret2
   exact ⟨n,fun m hm => (by rw [HN.out] at hm; injection hm),by rw [HN.out]; rfl,HB.out⟩
  ·have HN : Hid (numC t.data.toList = none):=hide (by unfold numC; rw [ha]; simp only; rw [if_neg hq])
   have q3 : (Lib.itoa n == t.data.toList) = false:=by rw [tx_eq,decide_eq_false hq]
   have HI:=hide (fun w ht => itoa_all n w hin ht)
   generalize Lib.itoa n = L at *
   clear hq ha hb hin
   go_wp2_with fail
   refine (HI.out _ HT.out).mono ?_
   rintro e w2 ⟨rfl,hb2⟩
   replace HB:=hide (andthen HB.out hb2)
   clear hb2
   go_wp2_with fail
   go_ret2
   exact ⟨n,fun m hm => (by rw [HN.out] at hm; cases hm),by rw [HN.out]; rfl,HB.out⟩
 ·have HB:=hide hb
  have HN : Hid (numC t.data.toList = none):=hide (by
   unfold numC
   split
   ·rename_i v hv; exact absurd hv (ha v)
   ·rfl)
  clear ha hb
  go_wp2_with fail
  go_ret2
  exact ⟨n,fun m hm => (by rw [HN.out] at hm; cases hm),by rw [HN.out]; rfl,HB.out⟩
theorem enum_at (t : Tx) (o : Option Int) (w : World) (he : Env w) (ht : t.length <= 100000) (h : numC t = o) :
  Calls Tryz.prog 222 #[.string (str t)] w (MayI w o):=by
 have:=enum_any (str t) w he (by rw [str_size]; exact ht)
 rw [str_list,h] at this
 exact this
theorem emin_any (t : ByteArray) (w : World) :
  Calls Tryz.prog 217 #[.string t] w (MayI w (unU.f t.data.toList)):=by
 obtain ⟨n,e,h⟩ : ∃ n e,parseE t.data.toList = (n,e):=⟨_,_,rfl⟩
 have H:=hide h
 have HU : Hid (unU.f t.data.toList = if e = 0 then some n else none):=hide (by show unE _ = _; unfold unE; rw [h])
 clear h
 go_enter Tryz.func217,Tryz.ntmps217
 go_wp2_with fail
 refine (parse_at t n e _ H.out).mono ?_
 rintro e1 w1 ⟨rfl,hb⟩
 go_wp2_with fail
 go_ret2
 refine ⟨n,fun m hm => ?_,?_,hb⟩
 ·rw [HU.out] at hm; split at hm; injection hm; cases hm
 ·rw [HU.out]
  by_cases h0 : e = 0
  ·subst h0; rfl
  ·rw [if_neg h0,beq_eq_false_iff_ne.2 h0]; rfl
theorem emin_at (t : Tx) (o : Option Int) (w : World) (h : unU.f t = o) :
  Calls Tryz.prog 217 #[.string (str t)] w (MayI w o):=by
 have:=emin_any (str t) w
 rw [str_list,h] at this
 exact this
theorem prefix_all (t : ByteArray) (l : Tx) (w : World) :
  Calls Tryz.prog 227 #[.string t,.string (str l)] w (Ans w (.tuple #[.string (str (Lib.trimPrefix t.data.toList l)),.bool (Lib.hasPrefix t.data.toList l)])):=by
 refine (Tryz.strings_CutPrefix t (str l) w).mono ?_
 rintro e w' ⟨rfl,rfl⟩
 exact ⟨by rw [str_list]; rfl,start _⟩
theorem pre_take (v : Tx) : Lib.hasPrefix v Ev.wPT = decide (v.take 2 = Ev.wPT):=by
 unfold Lib.hasPrefix
 rw [Bool.eq_iff_iff,decide_eq_true_eq,List.isPrefixOf_iff_prefix,List.prefix_iff_eq_take]
 exact ⟨fun h => h.symm,fun h => h.symm⟩
theorem suf_last (u : Tx) (h : u ≠ []) : Lib.hasSuffix u [77] = decide (u.getLast? = some 77):=by
 have e:=List.dropLast_concat_getLast h
 rw [Bool.eq_iff_iff,decide_eq_true_eq,List.getLast?_eq_some_getLast h]
 unfold Lib.hasSuffix
 rw [List.isSuffixOf_iff_suffix]
 constructor
 ·rintro ⟨p,hp⟩
  have : u.getLast h = 77:=by
   have : u.getLast? = some 77:=by rw [<- hp]; simp
   rw [List.getLast?_eq_some_getLast h] at this
   injection this
  rw [this]
 ·intro g
  injection g with g
  rw [g] at e
  exact ⟨_,e⟩
theorem long_cut (v : Tx) (h : Ev.longForm v = true) : Lib.hasPrefix v Ev.wPT = true /\ Lib.trimPrefix v Ev.wPT = v.drop 2 /\ Lib.hasSuffix (v.drop 2) [77] = true /\ Lib.trimSuffix (v.drop 2) [77] = Ev.within v:=by
 unfold Ev.longForm at h
 simp only [Bool.and_eq_true,decide_eq_true_eq] at h
 obtain ⟨h1,h2,h3⟩:=h
 have hp : Lib.hasPrefix v Ev.wPT = true:=by rw [pre_take,decide_eq_true h1]
 have hne : v.drop 2 ≠ []:=fun g => by
  have:=congrArg List.length g
  rw [List.length_drop,List.length_nil] at this
  omega
 have hl : (v.drop 2).getLast? = some 77:=by rw [List.getLast?_drop,if_neg (by omega)]; exact h3
 have hs : Lib.hasSuffix (v.drop 2) [77] = true:=by rw [suf_last _ hne,decide_eq_true hl]
 refine ⟨hp,?_,hs,?_⟩
 ·unfold Lib.trimPrefix; rw [if_pos hp]; rfl
 ·unfold Lib.trimSuffix; rw [if_pos hs]
  unfold Ev.within
  rw [List.dropLast_eq_take]; rfl
theorem long_uncut (v : Tx) (h : Ev.longForm v = false) : Lib.hasPrefix v Ev.wPT = false ∨ (Lib.hasPrefix v Ev.wPT = true /\ Lib.trimPrefix v Ev.wPT = v.drop 2 /\ Lib.hasSuffix (v.drop 2) [77] = false):=by
 cases hp : Lib.hasPrefix v Ev.wPT with
 | false => exact Or.inl rfl
 | true =>
  refine Or.inr ⟨rfl,by unfold Lib.trimPrefix; rw [if_pos hp]; rfl,?_⟩
  rw [pre_take,decide_eq_true_eq] at hp
  rw [Bool.eq_false_iff]
  intro hs
  have hne : v.drop 2 ≠ []:=fun g => by rw [g] at hs; revert hs; decide
  rw [suf_last _ hne,decide_eq_true_eq] at hs
  have h3 : 3 <= v.length:=Nat.lt_of_not_le fun g => hne (List.drop_eq_nil_of_le g)
  have hl : v.getLast? = some 77:=by rw [List.getLast?_drop,if_neg (by omega)] at hs; exact hs
  rw [Bool.eq_false_iff] at h
  apply h
  unfold Ev.longForm
  rw [decide_eq_true hp,decide_eq_true h3,decide_eq_true hl]; rfl
theorem esuf_at (u : Tx) (p : Tx) (b : Bool) (w : World) (ht : u.length <= 100000) (h1 : Lib.trimSuffix u [77] = p) (h2 : Lib.hasSuffix u [77] = b) :
  Calls Tryz.prog 228 #[.string (str u),.string (str [77])] w (Ans w (.tuple #[.string (str p),.bool b])):=by
 have:=suffix_all [77] (str [77]) rfl (str u) w (by rw [str_size]; exact ht)
 rw [str_list,h1,h2] at this
 exact this
theorem epre_at (t : ByteArray) (l p : Tx) (b : Bool) (w : World) (h1 : Lib.trimPrefix t.data.toList l = p) (h2 : Lib.hasPrefix t.data.toList l = b) :
  Calls Tryz.prog 227 #[.string t,.string (str l)] w (Ans w (.tuple #[.string (str p),.bool b])):=by
 subst h1 h2; exact prefix_all t l w
theorem dur_any (t : ByteArray) (w : World) (he : Env w) (ht : t.size <= 100000) :
    Calls Tryz.prog 218 #[.string t] w (MayI w (Ev.longE t.data.toList)):=by
  have HE:=hide he
  clear he
  have hlen : t.data.toList.length <= 100000:=by rw [len_of]; exact ht
  have hN : ∀ (p q : Tx) (b1 b2 : Bool),Lib.trimPrefix t.data.toList Ev.wPT = p -> Lib.hasPrefix t.data.toList Ev.wPT = b1 -> Lib.trimSuffix p [77] = q -> Lib.hasSuffix p [77] = b2 -> p.length <= 100000 -> q.length <= 100000 -> (b1 && b2) = false -> Ev.longE t.data.toList = none →
      Calls Tryz.prog 218 #[.string t] w (MayI w (Ev.longE t.data.toList)):=by
    intro p q b1 b2 h1 h2 h3 h4 hp hq hb hL
    have H1:=hide (fun w => epre_at t Ev.wPT p b1 w h1 h2)
    have H2:=hide (fun w => esuf_at p q b2 w hp h3 h4)
    have HL:=hide hL
    obtain ⟨o,ho⟩ : ∃ o,numC q = o:=⟨_,rfl⟩
    have H3:=hide (fun w he => enum_at q o w he hq ho)
    clear h1 h2 h3 h4 ho hL
    cases b1 <;> cases b2
    all_goals first
      | (exfalso; revert hb; decide)
      | (go_enter Tryz.func218,Tryz.ntmps218
         go_wp2_with fail
         refine (H1.out _).mono ?_
         rintro e w1 ⟨rfl,hb1⟩
         have HB:=hide hb1
         clear hb1
         go_wp2_with fail
         refine (H2.out _).mono ?_
         rintro e w2 ⟨rfl,hb1⟩
         replace HB:=hide (andthen HB.out hb1)
         clear hb1
         go_wp2_with fail
         refine (H3.out _ (HE.out.keep HB.out)).mono ?_
         rintro e w3 ⟨n,_,rfl,hb1⟩
         replace HB:=hide (andthen HB.out hb1)
         clear hb1
         go_wp2_with fail
         go_ret2
         exact ⟨n,fun m hm => (by rw [HL.out] at hm; cases hm),by rw [HL.out]; rfl,HB.out⟩)
  have hsub : ∀ v : Tx,(Lib.trimPrefix v Ev.wPT).length <= v.length:=fun v => by
    unfold Lib.trimPrefix; split
    · rw [List.length_drop]; omega
    · exact Nat.le_refl _
  have hsub2 : ∀ v : Tx,(Lib.trimSuffix v [77]).length <= v.length:=fun v => by
    unfold Lib.trimSuffix; split
    · rw [List.length_take]; omega
    · exact Nat.le_refl _
  cases hf : Ev.longForm t.data.toList with
  | false =>
    have hL : Ev.longE t.data.toList = none:=by unfold Ev.longE; rw [hf]; rfl
    rcases long_uncut _ hf with h1 | ⟨h1,h2,h3⟩
    · exact hN _ _ false _ rfl h1 rfl rfl (Nat.le_trans (hsub _) hlen) (Nat.le_trans (hsub2 _) (Nat.le_trans (hsub _) hlen)) rfl hL
    · exact hN _ _ true false h2 h1 rfl h3 (by rw [List.length_drop]; omega) (Nat.le_trans (hsub2 _) (by rw [List.length_drop]; omega)) rfl hL
  | true =>
    obtain ⟨h1,h2,h3,h4⟩:=long_cut _ hf
    have hw : (Ev.within t.data.toList).length <= 100000:=by unfold Ev.within; rw [List.length_dropLast,List.length_drop]; omega
    have H1:=hide (fun w => epre_at t Ev.wPT (t.data.toList.drop 2) true w h2 h1)
    have H2:=hide (fun w => esuf_at (t.data.toList.drop 2) (Ev.within t.data.toList) true w (by rw [List.length_drop]; omega) h4 h3)
    have hL : Ev.longE t.data.toList = Ev.keepI Ev.lgB (numC (Ev.within t.data.toList)):=by unfold Ev.longE; rw [if_pos hf]
    generalize t.data.toList.drop 2 = p at *
    generalize Ev.within t.data.toList = q at *
    cases ho : numC q with
    | none =>
      have HL : Hid (Ev.longE t.data.toList = none):=hide (by rw [hL,ho]; rfl)
      have H3:=hide (fun w he => enum_at q none w he hw ho)
      clear h1 h2 h3 h4 ho hL hf hN
      go_enter Tryz.func218,Tryz.ntmps218
      go_wp2_with fail
      refine (H1.out _).mono ?_
      rintro e w1 ⟨rfl,hb1⟩
      have HB:=hide hb1
      clear hb1
      go_wp2_with fail
      refine (H2.out _).mono ?_
      rintro e w2 ⟨rfl,hb1⟩
      replace HB:=hide (andthen HB.out hb1)
      clear hb1
      go_wp2_with fail
      refine (H3.out _ (HE.out.keep HB.out)).mono ?_
      rintro e w3 ⟨n,_,rfl,hb1⟩
      replace HB:=hide (andthen HB.out hb1)
      clear hb1
      simp only [Option.isSome_none]
      go_wp2_with fail
      go_ret2
      exact ⟨n,fun m hm => (by rw [HL.out] at hm; cases hm),by rw [HL.out]; rfl,HB.out⟩
    | some x =>
      have HX:=hide (fun w => isLong_any x w)
      have HL : Hid (Ev.longE t.data.toList = if Ev.lgB x = true then some x else none):=hide (by rw [hL,ho]; rfl)
      have H3:=hide (fun w he => enum_at q (some x) w he hw ho)
      generalize Ev.lgB x = B at *
      clear h1 h2 h3 h4 ho hL hf hN
      go_enter Tryz.func218,Tryz.ntmps218
      go_wp2_with fail
      refine (H1.out _).mono ?_
      rintro e w1 ⟨rfl,hb1⟩
      have HB:=hide hb1
      clear hb1
      go_wp2_with fail
      refine (H2.out _).mono ?_
      rintro e w2 ⟨rfl,hb1⟩
      replace HB:=hide (andthen HB.out hb1)
      clear hb1
      go_wp2_with fail
      refine (H3.out _ (HE.out.keep HB.out)).mono ?_
      rintro e w3 ⟨n,hn,rfl,hb1⟩
      obtain rfl:=hn x rfl
      replace HB:=hide (andthen HB.out hb1)
      clear hb1 hn
      simp only [Option.isSome_some]
      go_wp2_with fail
      refine (HX.out _).mono ?_
      rintro e w4 ⟨rfl,rfl⟩
      go_wp2_with fail
      go_ret2
      cases B with
      | true => exact ⟨n,fun m hm => (by rw [HL.out] at hm; injection hm),by rw [HL.out]; rfl,HB.out⟩
      | false => exact ⟨n,fun m hm => (by rw [HL.out] at hm; cases hm),by rw [HL.out]; rfl,HB.out⟩
theorem dur_at (t : Tx) (o : Option Int) (w : World) (he : Env w) (ht : t.length <= 100000) (h : Ev.longE t = o) :
  Calls Tryz.prog 218 #[.string (str t)] w (MayI w o):=by
 have:=dur_any (str t) w he (by rw [str_size]; exact ht)
 rw [str_list,h] at this
 exact this
def MayT (w : World) (o : Option Tx) (e : Ending) (w' : World) : Prop:=∃ s : Tx,(∀ m,o = some m -> s = m) /\ e = .returned (.tuple #[.string (str s),.bool o.isSome]) /\ Below w.heap.size w w'
theorem summary_any (t : ByteArray) (w : World) (he : Env w) (ht : t.size <= 100000) :
  Calls Tryz.prog 223 #[.string t] w (MayT w (Ev.textE t.data.toList)):=by
 have HU:=hide (unescape_any t w he ht)
 have hlen:=Fo.unE_len t.data.toList.length t.data.toList
 have hL : Ev.textE t.data.toList = match Fo.unE t.data.toList with
  | some s => if Ev.textB s = true then some s else none
  | none => none:=rfl
 cases ho : Fo.unE t.data.toList with
 | none =>
  rw [ho] at HU hL
  have HL:=hide hL
  clear hL ho hlen
  unfold unA at HU
  go_enter Tryz.func223,Tryz.ntmps223
  go_wp2_with fail
  refine (HU.out).mono ?_
  rintro e w1 ⟨rfl,hb⟩
  go_wp2_with fail
  go_ret2
  exact ⟨[],fun m hm => (by rw [HL.out] at hm; cases hm),by rw [HL.out]; rfl,hb⟩
 | some s =>
  have hs:=hlen s (Nat.le_refl _) ho
  rw [len_of] at hs
  rw [ho] at HU hL
  have HT:=hide (fun w => isText_any (str s) w (by rw [str_size]; omega))
  rw [str_list] at HT
  have HL : Hid (Ev.textE t.data.toList = if Ev.textB s = true then some s else none):=hide hL
  generalize Ev.textB s = B at *
  clear hL ho hlen
  unfold unA at HU
  go_enter Tryz.func223,Tryz.ntmps223
  go_wp2_with fail
  refine (HU.out).mono ?_
  rintro e w1 ⟨rfl,hb⟩
  have HB:=hide hb
  clear hb
  go_wp2_with fail
  refine (HT.out _).mono ?_
  rintro e w2 ⟨rfl,rfl⟩
  go_wp2_with fail
  go_ret2
  cases B with
  | true => exact ⟨s,fun m hm => (by rw [HL.out] at hm; injection hm),by rw [HL.out]; rfl,HB.out⟩
  | false => exact ⟨s,fun m hm => (by rw [HL.out] at hm; cases hm),by rw [HL.out]; rfl,HB.out⟩
theorem eelems12_at (t : ByteArray) (w : World) (he : Env w) (ht : t.size <= 100000) :
  Calls Tryz.prog 221 #[.string t,.int .i64 12] w (PiecesS w (Lib.splitN t.data.toList [44] 13)):=by
 have HE:=hide he
 clear he
 go_enter Tryz.func221,Tryz.ntmps221
 go_wp2_with fail
 refine (splitN_all 44 _ rfl 13 _ rfl t _ HE.out ht (by omega) (by omega)).mono ?_
 rintro e w1 ⟨A,cap,rfl,hr,hb⟩
 go_wp2_with fail
 go_ret
 exact ⟨A,cap,rfl,hr,hb⟩
theorem eelems4_at (t : ByteArray) (w : World) (he : Env w) (ht : t.size <= 100000) :
  Calls Tryz.prog 221 #[.string t,.int .i64 4] w (PiecesS w (Lib.splitN t.data.toList [44] 5)):=by
 have HE:=hide he
 clear he
 go_enter Tryz.func221,Tryz.ntmps221
 go_wp2_with fail
 refine (splitN_all 44 _ rfl 5 _ rfl t _ HE.out ht (by omega) (by omega)).mono ?_
 rintro e w1 ⟨A,cap,rfl,hr,hb⟩
 go_wp2_with fail
 go_ret
 exact ⟨A,cap,rfl,hr,hb⟩
theorem weak_merge (l : List Int) : weak inLt (l.mergeSort fun x y => decide (x <= y)):=by
 have:=List.pairwise_mergeSort (le:=fun x y : Int => decide (x <= y)) (fun a b c h1 h2 => by
  rw [decide_eq_true_eq] at h1 h2 ⊢; omega) (fun a b => by
  rw [Bool.or_eq_true,decide_eq_true_eq,decide_eq_true_eq]; omega) l
 refine List.Pairwise.imp (fun {a b} g => ?_) this
 unfold inLt
 rw [decide_eq_true_eq] at g
 exact decide_eq_false (by omega)
theorem sortO_any (B : Nat) (v : Value) (l : List Int) (w : World) (h : OwnI w B v l) (h0 : l ≠ []) (hn : l.length <= 1000000) :
  Calls Tryz.prog 230 #[v] w fun e w' => e = .returned (.tuple #[]) /\ OwnI w' B v (srt inLt l) /\ w.grownBy w' v.ownBlock:=by
 have h2:=h.2
 rcases h2 with ⟨rfl,hz⟩ | ⟨g,cap,cur,rfl,hb,hg,_⟩
 ·exact absurd (List.eq_nil_of_length_eq_zero hz) h0
 ·refine (Tryz.slices_Sort_int g 0 cap l w (own_holdsI h) (Array.getElem?_eq_some_iff.1 hg).1 (by omega)).mono ?_
  rintro e w' ⟨he,n,os,rfl⟩
  have hp:=List.mergeSort_perm l (fun x y => decide (x <= y))
  have e2:=srt_is ordI hp (weak_merge l)
  have hso:=sorted_ownI (k:=n) (os:=os) h hp.length_eq
  rw [<- e2]
  exact ⟨he,hso.1,hso.2⟩
theorem sortedN_any (A : Option Addr) (n c : Nat) (l : List Tx) (w : World) (hl : RowS w A l) (h0 : l ≠ []) (hn : n = l.length) (hsz : l.length <= 1000) (hb : ∀ p ∈ l,p.length <= 100000) (he : Env w) :
  Calls Tryz.prog 220 #[.func (.func 222) #[] #[],.slice A n c] w (SortsI w ((allSome (numC) l).map (srt inLt))):=by
 subst hn
 have HR:=hide hl
 have HE:=hide he
 have HB:=hide hb
 have H0:=hide h0
 clear hl he hb h0
 go_enter Tryz.func220,Tryz.ntmps220
 go_wp2_with (refine wp_makeI2 rfl _ _ rfl rfl (n:=l.length) rfl rfl (by omega) ?_; intro v0 w0 hown0 hb0)
 have HO0:=hide hown0
 have HB0:=hide hb0
 clear hown0 hb0
 go_wp2_with fail
 go_loopw [6,8,9,10,16] (fun v _ _ _ i wr => ∃ (j : Nat) (acc : List Int),j <= l.length /\ i = .int .i64 j /\ OwnI wr w.heap.size v acc /\ Hid (allSome (numC) (l.take j) = some acc) /\ Below w.heap.size w wr) (fun _ _ _ _ i _ => l.length - (intOf i).toNat)
 case atStart => exact ⟨0,[],Nat.zero_le _,rfl,HO0.out,hide rfl,HB0.out⟩
 case round =>
  obtain ⟨j,acc,hj,rfl,hown,HA,hbw⟩:=hrel
  have HO:=hide hown
  have HBR:=hide hbw
  clear hown hbw
  have hacc : acc.length <= j:=by have:=allSome_len HA.out; rw [List.length_take] at this; omega
  by_cases hlt : j < l.length
  ·obtain ⟨b1,o1,rfl,hb1,hc1⟩:=HR.out (by intro h0; rw [h0] at hlt; exact absurd hlt (Nat.not_lt_zero _))
   obtain ⟨T,hm⟩ : ∃ T,l[j] = T:=⟨_,rfl⟩
   have hT:=HB.out l[j] (List.getElem_mem _)
   rw [hm] at hT
   have p1 : wr.cell? ⟨b1,o1 + j,none⟩ = some (.string (str T)):=by rw [<- hm]; exact (HBR.out.cell (p:=⟨b1,_,none⟩) hb1).trans (hc1 j hlt)
   have hi0 : (0 : Int) <= (j : Int):=by omega
   have hi1 : (j : Int) < (l.length : Int):=by omega
   clear hc1
   cases hx : numC T with
   | none =>
    have HN : Hid ((allSome (numC) l).map (srt inLt) = none):=hide (by rw [none_at hlt (by rw [hm]; exact hx)]; rfl)
    have HX:=hide hx
    clear hx hm
    go_wp2_with fail
    refine (enum_at T none _ (HE.out.below HBR.out (Nat.le_refl _)) hT HX.out).mono ?_
    rintro e v1 ⟨n,hn,rfl,hbv⟩
    clear hn
    simp only [Option.isSome_none]
    go_wp2_with fail
    go_ret2
    exact ⟨andthen HBR.out hbv,Or.inl ⟨HN.out,rfl⟩⟩
   | some x =>
    have HN:=hide (some_step hlt HA.out (by rw [hm]; exact hx))
    have HX:=hide hx
    clear hx hm
    go_wp2_with fail
    refine (enum_at T (some x) _ (HE.out.below HBR.out (Nat.le_refl _)) hT HX.out).mono ?_
    rintro e v1 ⟨n,hn,rfl,hbv⟩
    obtain rfl:=hn x rfl
    clear hn
    simp only [Option.isSome_some]
    replace HO:=hide (HO.out.keep hbv)
    replace HBR:=hide (andthen HBR.out hbv)
    have hz:=HBR.out.size
    have hown:=HO.out
    have hln : acc.length <= 1000000:=by omega
    clear hbv
    go_wp2_with (at_builtin; refine wp_oneI (l:=acc) (p:=n) rfl _ _ rfl rfl rfl rfl hown hz hln ?_; intro v3 w3 hown3 hb3)
    have HO3:=hide hown3
    have HB3:=hide (HBR.out.trans hb3)
    clear hown hown3 hb3 hz hln
    go_wp2_with fail
    go_roundw
    case rel => exact ⟨j + 1,acc ++ [n],by omega,by go_num,HO3.out,HN,HB3.out⟩
    case measure => simp [intOf]; omega
  ·obtain rfl : j = l.length:=by omega
   rw [List.take_length] at HA
   have HF : Hid ((allSome (numC) l).map (srt inLt) = some (srt inLt acc)):=hide (by rw [HA.out]; rfl)
   have hne : acc ≠ []:=fun g => H0.out (by have:=allSome_len HA.out; rw [g] at this; exact List.eq_nil_of_length_eq_zero this)
   go_wp2_with fail
   refine (sortO_any w.heap.size _ acc _ HO.out hne (by omega)).mono ?_
   rintro e v1 ⟨rfl,hown2,hgr⟩
   have HB2:=hide (HBR.out.grown hgr HBR.out.size fun k hk => (HO.out.lt k hk).1)
   have HO2:=hide hown2
   clear hgr hown2
   go_wp2_with fail
   go_ret2
   exact ⟨HB2.out,Or.inr ⟨_,_,HF.out,rfl,HO2.out⟩⟩
theorem sortedM_any (A : Option Addr) (n c : Nat) (l : List Tx) (w : World) (hl : RowS w A l) (h0 : l ≠ []) (hn : n = l.length) (hsz : l.length <= 1000) (hb : ∀ p ∈ l,p.length <= 100000) (he : Env w) :
  Calls Tryz.prog 220 #[.func (.func 217) #[] #[],.slice A n c] w (SortsI w ((allSome (unU.f) l).map (srt inLt))):=by
 subst hn
 have HR:=hide hl
 have HE:=hide he
 have HB:=hide hb
 have H0:=hide h0
 clear hl he hb h0
 go_enter Tryz.func220,Tryz.ntmps220
 go_wp2_with (refine wp_makeI2 rfl _ _ rfl rfl (n:=l.length) rfl rfl (by omega) ?_; intro v0 w0 hown0 hb0)
 have HO0:=hide hown0
 have HB0:=hide hb0
 clear hown0 hb0
 go_wp2_with fail
 go_loopw [6,8,9,10,16] (fun v _ _ _ i wr => ∃ (j : Nat) (acc : List Int),j <= l.length /\ i = .int .i64 j /\ OwnI wr w.heap.size v acc /\ Hid (allSome (unU.f) (l.take j) = some acc) /\ Below w.heap.size w wr) (fun _ _ _ _ i _ => l.length - (intOf i).toNat)
 case atStart => exact ⟨0,[],Nat.zero_le _,rfl,HO0.out,hide rfl,HB0.out⟩
 case round =>
  obtain ⟨j,acc,hj,rfl,hown,HA,hbw⟩:=hrel
  have HO:=hide hown
  have HBR:=hide hbw
  clear hown hbw
  have hacc : acc.length <= j:=by have:=allSome_len HA.out; rw [List.length_take] at this; omega
  by_cases hlt : j < l.length
  ·obtain ⟨b1,o1,rfl,hb1,hc1⟩:=HR.out (by intro h0; rw [h0] at hlt; exact absurd hlt (Nat.not_lt_zero _))
   obtain ⟨T,hm⟩ : ∃ T,l[j] = T:=⟨_,rfl⟩
   have hT:=HB.out l[j] (List.getElem_mem _)
   rw [hm] at hT
   have p1 : wr.cell? ⟨b1,o1 + j,none⟩ = some (.string (str T)):=by rw [<- hm]; exact (HBR.out.cell (p:=⟨b1,_,none⟩) hb1).trans (hc1 j hlt)
   have hi0 : (0 : Int) <= (j : Int):=by omega
   have hi1 : (j : Int) < (l.length : Int):=by omega
   clear hc1
   cases hx : unU.f T with
   | none =>
    have HN : Hid ((allSome (unU.f) l).map (srt inLt) = none):=hide (by rw [none_at hlt (by rw [hm]; exact hx)]; rfl)
    have HX:=hide hx
    clear hx hm
    go_wp2_with fail
    refine (emin_at T none _ HX.out).mono ?_
    rintro e v1 ⟨n,hn,rfl,hbv⟩
    clear hn
    simp only [Option.isSome_none]
    go_wp2_with fail
    go_ret2
    exact ⟨andthen HBR.out hbv,Or.inl ⟨HN.out,rfl⟩⟩
   | some x =>
    have HN:=hide (some_step hlt HA.out (by rw [hm]; exact hx))
    have HX:=hide hx
    clear hx hm
    go_wp2_with fail
    refine (emin_at T (some x) _ HX.out).mono ?_
    rintro e v1 ⟨n,hn,rfl,hbv⟩
    obtain rfl:=hn x rfl
    clear hn
    simp only [Option.isSome_some]
    replace HO:=hide (HO.out.keep hbv)
    replace HBR:=hide (andthen HBR.out hbv)
    have hz:=HBR.out.size
    have hown:=HO.out
    have hln : acc.length <= 1000000:=by omega
    clear hbv
    go_wp2_with (at_builtin; refine wp_oneI (l:=acc) (p:=n) rfl _ _ rfl rfl rfl rfl hown hz hln ?_; intro v3 w3 hown3 hb3)
    have HO3:=hide hown3
    have HB3:=hide (HBR.out.trans hb3)
    clear hown hown3 hb3 hz hln
    go_wp2_with fail
    go_roundw
    case rel => exact ⟨j + 1,acc ++ [n],by omega,by go_num,HO3.out,HN,HB3.out⟩
    case measure => simp [intOf]; omega
  ·obtain rfl : j = l.length:=by omega
   rw [List.take_length] at HA
   have HF : Hid ((allSome (unU.f) l).map (srt inLt) = some (srt inLt acc)):=hide (by rw [HA.out]; rfl)
   have hne : acc ≠ []:=fun g => H0.out (by have:=allSome_len HA.out; rw [g] at this; exact List.eq_nil_of_length_eq_zero this)
   go_wp2_with fail
   refine (sortO_any w.heap.size _ acc _ HO.out hne (by omega)).mono ?_
   rintro e v1 ⟨rfl,hown2,hgr⟩
   have HB2:=hide (HBR.out.grown hgr HBR.out.size fun k hk => (HO.out.lt k hk).1)
   have HO2:=hide hown2
   clear hgr hown2
   go_wp2_with fail
   go_ret2
   exact ⟨HB2.out,Or.inr ⟨_,_,HF.out,rfl,HO2.out⟩⟩
theorem split_ne (n : Nat) (t : Tx) : Lib.splitN t [44] (n + 1) ≠ []:=by
 rcases splitN_cut 44 n t with ⟨h,_⟩ | ⟨h,_⟩
 ·rw [h]; exact cutAt_ne 44 t
 ·intro g; rw [g,List.length_nil] at h; omega
def all9 : List Tx:=[Ev.nBEGIN,Ev.nUID,Ev.nSTART,Ev.nLONG,Ev.nRULE,Ev.nEX,Ev.nROOMS,Ev.nTEXT,Ev.nEND]
theorem isKnown_any (t : Tx) (w : World) : Calls Tryz.prog 204 #[.string (str t)] w fun e w' => e = .returned (.bool (decide (t ∈ all9))) /\ w = w':=by
 have q1:=str_tl t
 by_cases h0 : t = Ev.nBEGIN
 ·have E : Hid (decide (t ∈ all9) = true):=hide (decide_eq_true (by rw [h0]; decide))
  have e0 : (t == [66,69,71,73,78]) = true:=by rw [tx_eq]; exact decide_eq_true h0
  clear h0
  go_enter Tryz.func204,Tryz.ntmps204
  go_wp2_with fail
  go_ret
  exact ⟨ret_bool (by rw [E.out]),rfl⟩
 by_cases h1 : t = Ev.nUID
 ·have E : Hid (decide (t ∈ all9) = true):=hide (decide_eq_true (by rw [h1]; decide))
  have e0 : (t == [66,69,71,73,78]) = false:=by rw [tx_eq]; exact decide_eq_false h0
  have e1 : (t == [85,73,68]) = true:=by rw [tx_eq]; exact decide_eq_true h1
  clear h0 h1
  go_enter Tryz.func204,Tryz.ntmps204
  go_wp2_with fail
  go_ret
  exact ⟨ret_bool (by rw [E.out]),rfl⟩
 by_cases h2 : t = Ev.nSTART
 ·have E : Hid (decide (t ∈ all9) = true):=hide (decide_eq_true (by rw [h2]; decide))
  have e0 : (t == [66,69,71,73,78]) = false:=by rw [tx_eq]; exact decide_eq_false h0
  have e1 : (t == [85,73,68]) = false:=by rw [tx_eq]; exact decide_eq_false h1
  have e2 : (t == [68,84,83,84,65,82,84]) = true:=by rw [tx_eq]; exact decide_eq_true h2
  clear h0 h1 h2
  go_enter Tryz.func204,Tryz.ntmps204
  go_wp2_with fail
  go_ret
  exact ⟨ret_bool (by rw [E.out]),rfl⟩
 by_cases h3 : t = Ev.nLONG
 ·have E : Hid (decide (t ∈ all9) = true):=hide (decide_eq_true (by rw [h3]; decide))
  have e0 : (t == [66,69,71,73,78]) = false:=by rw [tx_eq]; exact decide_eq_false h0
  have e1 : (t == [85,73,68]) = false:=by rw [tx_eq]; exact decide_eq_false h1
  have e2 : (t == [68,84,83,84,65,82,84]) = false:=by rw [tx_eq]; exact decide_eq_false h2
  have e3 : (t == [68,85,82,65,84,73,79,78]) = true:=by rw [tx_eq]; exact decide_eq_true h3
  clear h0 h1 h2 h3
  go_enter Tryz.func204,Tryz.ntmps204
  go_wp2_with fail
  go_ret
  exact ⟨ret_bool (by rw [E.out]),rfl⟩
 by_cases h4 : t = Ev.nRULE
 ·have E : Hid (decide (t ∈ all9) = true):=hide (decide_eq_true (by rw [h4]; decide))
  have e0 : (t == [66,69,71,73,78]) = false:=by rw [tx_eq]; exact decide_eq_false h0
  have e1 : (t == [85,73,68]) = false:=by rw [tx_eq]; exact decide_eq_false h1
  have e2 : (t == [68,84,83,84,65,82,84]) = false:=by rw [tx_eq]; exact decide_eq_false h2
  have e3 : (t == [68,85,82,65,84,73,79,78]) = false:=by rw [tx_eq]; exact decide_eq_false h3
  have e4 : (t == [82,82,85,76,69]) = true:=by rw [tx_eq]; exact decide_eq_true h4
  clear h0 h1 h2 h3 h4
  go_enter Tryz.func204,Tryz.ntmps204
  go_wp2_with fail
  go_ret
  exact ⟨ret_bool (by rw [E.out]),rfl⟩
 by_cases h5 : t = Ev.nEX
 ·have E : Hid (decide (t ∈ all9) = true):=hide (decide_eq_true (by rw [h5]; decide))
  have e0 : (t == [66,69,71,73,78]) = false:=by rw [tx_eq]; exact decide_eq_false h0
  have e1 : (t == [85,73,68]) = false:=by rw [tx_eq]; exact decide_eq_false h1
  have e2 : (t == [68,84,83,84,65,82,84]) = false:=by rw [tx_eq]; exact decide_eq_false h2
  have e3 : (t == [68,85,82,65,84,73,79,78]) = false:=by rw [tx_eq]; exact decide_eq_false h3
  have e4 : (t == [82,82,85,76,69]) = false:=by rw [tx_eq]; exact decide_eq_false h4
  have e5 : (t == [69,88,68,65,84,69]) = true:=by rw [tx_eq]; exact decide_eq_true h5
  clear h0 h1 h2 h3 h4 h5
  go_enter Tryz.func204,Tryz.ntmps204
  go_wp2_with fail
  go_ret
  exact ⟨ret_bool (by rw [E.out]),rfl⟩
 by_cases h6 : t = Ev.nROOMS
 ·have E : Hid (decide (t ∈ all9) = true):=hide (decide_eq_true (by rw [h6]; decide))
  have e0 : (t == [66,69,71,73,78]) = false:=by rw [tx_eq]; exact decide_eq_false h0
  have e1 : (t == [85,73,68]) = false:=by rw [tx_eq]; exact decide_eq_false h1
  have e2 : (t == [68,84,83,84,65,82,84]) = false:=by rw [tx_eq]; exact decide_eq_false h2
  have e3 : (t == [68,85,82,65,84,73,79,78]) = false:=by rw [tx_eq]; exact decide_eq_false h3
  have e4 : (t == [82,82,85,76,69]) = false:=by rw [tx_eq]; exact decide_eq_false h4
  have e5 : (t == [69,88,68,65,84,69]) = false:=by rw [tx_eq]; exact decide_eq_false h5
  have e6 : (t == [88,45,82,79,79,77,83]) = true:=by rw [tx_eq]; exact decide_eq_true h6
  clear h0 h1 h2 h3 h4 h5 h6
  go_enter Tryz.func204,Tryz.ntmps204
  go_wp2_with fail
  go_ret
  exact ⟨ret_bool (by rw [E.out]),rfl⟩
 by_cases h7 : t = Ev.nTEXT
 ·have E : Hid (decide (t ∈ all9) = true):=hide (decide_eq_true (by rw [h7]; decide))
  have e0 : (t == [66,69,71,73,78]) = false:=by rw [tx_eq]; exact decide_eq_false h0
  have e1 : (t == [85,73,68]) = false:=by rw [tx_eq]; exact decide_eq_false h1
  have e2 : (t == [68,84,83,84,65,82,84]) = false:=by rw [tx_eq]; exact decide_eq_false h2
  have e3 : (t == [68,85,82,65,84,73,79,78]) = false:=by rw [tx_eq]; exact decide_eq_false h3
  have e4 : (t == [82,82,85,76,69]) = false:=by rw [tx_eq]; exact decide_eq_false h4
  have e5 : (t == [69,88,68,65,84,69]) = false:=by rw [tx_eq]; exact decide_eq_false h5
  have e6 : (t == [88,45,82,79,79,77,83]) = false:=by rw [tx_eq]; exact decide_eq_false h6
  have e7 : (t == [83,85,77,77,65,82,89]) = true:=by rw [tx_eq]; exact decide_eq_true h7
  clear h0 h1 h2 h3 h4 h5 h6 h7
  go_enter Tryz.func204,Tryz.ntmps204
  go_wp2_with fail
  go_ret
  exact ⟨ret_bool (by rw [E.out]),rfl⟩
 by_cases h8 : t = Ev.nEND
 ·have E : Hid (decide (t ∈ all9) = true):=hide (decide_eq_true (by rw [h8]; decide))
  have e0 : (t == [66,69,71,73,78]) = false:=by rw [tx_eq]; exact decide_eq_false h0
  have e1 : (t == [85,73,68]) = false:=by rw [tx_eq]; exact decide_eq_false h1
  have e2 : (t == [68,84,83,84,65,82,84]) = false:=by rw [tx_eq]; exact decide_eq_false h2
  have e3 : (t == [68,85,82,65,84,73,79,78]) = false:=by rw [tx_eq]; exact decide_eq_false h3
  have e4 : (t == [82,82,85,76,69]) = false:=by rw [tx_eq]; exact decide_eq_false h4
  have e5 : (t == [69,88,68,65,84,69]) = false:=by rw [tx_eq]; exact decide_eq_false h5
  have e6 : (t == [88,45,82,79,79,77,83]) = false:=by rw [tx_eq]; exact decide_eq_false h6
  have e7 : (t == [83,85,77,77,65,82,89]) = false:=by rw [tx_eq]; exact decide_eq_false h7
  have e8 : (t == [69,78,68]) = true:=by rw [tx_eq]; exact decide_eq_true h8
  clear h0 h1 h2 h3 h4 h5 h6 h7 h8
  go_enter Tryz.func204,Tryz.ntmps204
  go_wp2_with fail
  go_ret
  exact ⟨ret_bool (by rw [E.out]),rfl⟩
 have E : Hid (decide (t ∈ all9) = false):=hide (decide_eq_false (by simp [all9,h0,h1,h2,h3,h4,h5,h6,h7,h8]))
 have e0 : (t == [66,69,71,73,78]) = false:=by rw [tx_eq]; exact decide_eq_false h0
 have e1 : (t == [85,73,68]) = false:=by rw [tx_eq]; exact decide_eq_false h1
 have e2 : (t == [68,84,83,84,65,82,84]) = false:=by rw [tx_eq]; exact decide_eq_false h2
 have e3 : (t == [68,85,82,65,84,73,79,78]) = false:=by rw [tx_eq]; exact decide_eq_false h3
 have e4 : (t == [82,82,85,76,69]) = false:=by rw [tx_eq]; exact decide_eq_false h4
 have e5 : (t == [69,88,68,65,84,69]) = false:=by rw [tx_eq]; exact decide_eq_false h5
 have e6 : (t == [88,45,82,79,79,77,83]) = false:=by rw [tx_eq]; exact decide_eq_false h6
 have e7 : (t == [83,85,77,77,65,82,89]) = false:=by rw [tx_eq]; exact decide_eq_false h7
 have e8 : (t == [69,78,68]) = false:=by rw [tx_eq]; exact decide_eq_false h8
 clear h0 h1 h2 h3 h4 h5 h6 h7 h8
 go_enter Tryz.func204,Tryz.ntmps204
 go_wp2_with fail
 go_ret
 exact ⟨ret_bool (by rw [E.out]),rfl⟩
end Go.Proofs.YtfecnkhoojnkbaaGreatDoor
namespace Go.Proofs.YtfecnkhoojnkbaaGreatDoor
open Go.RowKit Rul Rt Go.Sort
def FoldTab (w : World) : Prop:=∀ c ∈ [86,69,78,84,67,65,76,68,82],w.cell? ⟨0,c,none⟩ = some (.int .u16 ((c : Int) + 32)) /\ w.cell? ⟨0,c + 32,none⟩ = some (.int .u16 (c : Int))
theorem FoldTab.below {B : Nat} {w w' : World} (h : FoldTab w) (hb : Below B w w') (hB : w.heap.size <= B) : FoldTab w':=fun c hc =>
 ⟨(hb.cell (p:=⟨_,_,none⟩) (Nat.lt_of_lt_of_le (block_lt_of_cell (h c hc).1) hB)).trans (h c hc).1,(hb.cell (p:=⟨_,_,none⟩) (Nat.lt_of_lt_of_le (block_lt_of_cell (h c hc).2) hB)).trans (h c hc).2⟩
theorem FoldTab.keep {w w' : World} (h : FoldTab w) (hb : Below w.heap.size w w') : FoldTab w':=h.below hb (Nat.le_refl _)
theorem sfold_at (c d : Nat) (w : World) (hc : c < 128) (hd : d < 128) (h : w.cell? ⟨0,c,none⟩ = some (.int .u16 (d : Int))) :
  Calls Tryz.prog 110 #[.int .i32 (c : Int)] w fun e w' => e = .returned (.int .i32 (d : Int)) /\ w = w':=by
 have q1 : decide ((c : Int) < 0) = false:=decide_eq_false (by omega)
 have q2 : decide (1114111 < (c : Int)) = false:=decide_eq_false (by omega)
 have q3 : (c : Int) < 128:=by omega
 have q4 : (0 : Int) <= (c : Int):=by omega
 have q5 : (d : Int) <= 127:=by omega
 have q6 : (0 : Int) <= (d : Int):=by omega
 go_enter Tryz.func110,Tryz.ntmps110
 go_wp2_with fail
 go_ret
 exact ⟨rfl,rfl⟩
theorem dec_first (t : ByteArray) (d : Nat) (w : World) (h0 : 0 < t.size) (hd : (t[0]'h0).toNat = d) (h1 : d < 128) :
  Calls Tryz.prog 109 #[.string t] w fun e w' => e = .returned (.tuple #[.int .i32 (d : Int),.int .i64 1]) /\ w = w':=by
 have q0 : t.data.toList.isEmpty = false:=by
  have : t.data.toList ≠ []:=fun g => by have h2:=len_of t; rw [g,List.length_nil] at h2; omega
  cases ht : t.data.toList with
  | nil => exact absurd ht this
  | cons a b => rfl
 have q1:=str_tl2 t
 have q2 : ((t[0]'h0).toNat : Int) = (d : Int):=by rw [hd]
 have q3 : (d : Int) < 128:=by omega
 have q4 : (0 : Int) < (t.size : Int):=by omega
 go_enter Tryz.func109,Tryz.ntmps109
 go_wp2_with fail
 go_ret2
 exact ⟨rfl,rfl⟩
def Pre (l : Tx) (k : Nat) : Prop:=Li.capE (l.take k) = Ev.wEV.take k
theorem wev_at (k : Nat) (h : k < 6) : (Ev.wEV[k]'h).toNat ∈ [86,69,78,84,67,65,76,68,82]:=by
 have : ∀ k : Fin 6,(Ev.wEV[k.val]'k.isLt).toNat ∈ [86,69,78,84,67,65,76,68,82]:=by decide
 exact this ⟨k,h⟩
theorem wev_bd (k : Nat) (h : k < 6) : 65 <= (Ev.wEV[k]'h).toNat /\ (Ev.wEV[k]'h).toNat <= 90:=by
 have : ∀ k : Fin 6,65 <= (Ev.wEV[k.val]'k.isLt).toNat /\ (Ev.wEV[k.val]'k.isLt).toNat <= 90:=by decide
 exact this ⟨k,h⟩
theorem pre_next {l : Tx} {k : Nat} (h : Pre l k) (hk : k < l.length) (h6 : k < 6) (hu : Li.up l[k] = Ev.wEV[k]'h6) : Pre l (k + 1):=by
 unfold Pre at h ⊢
 unfold Li.capE at h ⊢
 have e2 : Ev.wEV.take (k + 1) = Ev.wEV.take k ++ [Ev.wEV[k]'h6]:=List.take_succ_eq_append_getElem h6
 rw [List.take_succ_eq_append_getElem hk,List.map_append,h,e2,List.map_singleton,hu]
theorem pre_bad {l : Tx} {k : Nat} (hk : k < l.length) (h6 : k < 6) (hu : Li.up l[k] ≠ Ev.wEV[k]'h6) : Li.capE l ≠ Ev.wEV:=fun g => by
 apply hu
 have hk2 : k < (Li.capE l).length:=by rw [Li.capE_len]; exact hk
 have : (Li.capE l)[k]'hk2 = Li.up l[k]:=by simp [Li.capE]
 rw [<- this]
 simp only [g]
 rfl
theorem pre_end {l : Tx} (h : Pre l 6) (hl : l.length = 6) : Li.capE l = Ev.wEV:=by
 unfold Pre at h
 rw [List.take_of_length_le (by omega)] at h
 exact h
theorem pre_len {l : Tx} (hl : l.length ≠ 6) : Li.capE l ≠ Ev.wEV:=fun g => hl (by have:=congrArg List.length g; rw [Li.capE_len] at this; exact this)
theorem up_eq (c : UInt8) (d : UInt8) (hd : 65 <= d.toNat /\ d.toNat <= 90) : Li.up c = d ↔ c = d ∨ c.toNat = d.toNat + 32:=by
 constructor
 ·intro h
  by_cases hs : 97 <= c.toNat /\ c.toNat <= 122
  ·rw [Li.up_small c hs.1 hs.2] at h
   right
   have:=Li.sub32 c hs.1
   rw [h] at this
   omega
  ·rw [Li.up_other c hs] at h
   exact Or.inl h
 ·rintro (rfl | h)
  ·exact Li.up_other c (by omega)
  ·rw [Li.up_small c (by omega) (by omega)]
   apply UInt8.toNat_inj.1
   rw [Li.sub32 c (by omega)]
   omega
structure Odd (s : ByteArray) (k : Nat) : Prop where
 k6 : k < 6
 ks : k < s.size
 high : 128 <= (s[k]'ks).toNat
theorem Odd.no {s : ByteArray} {k : Nat} (h : Odd s k) : Li.capE s.data.toList ≠ Ev.wEV:=by
 have hk : k < s.data.toList.length:=by rw [len_of]; exact h.ks
 refine pre_bad hk h.k6 ?_
 rw [byte_listE s k h.ks hk]
 intro g
 have hb:=wev_bd k h.k6
 rcases (up_eq _ _ hb).1 g with e | e
 ·have:=h.high; rw [e] at this; omega
 ·have:=h.high; omega
theorem T_at (k : Nat) (h6 : k < 6) (h : k < (str Ev.wEV).size) : (str Ev.wEV)[k]'h = Ev.wEV[k]'h6:=by
 have:=byte_listE (str Ev.wEV) k h (by rw [len_of]; exact h)
 rw [<- this]
 simp only [str_list]
 rfl
def FF (s T : ByteArray) (k : Int) (u : Nat -> Value) : Act:={ tmps:=#[.string s,.string T,u 2,u 3,u 4,.int .i64 k,u 6,u 7,u 8,u 9,u 10,u 11,u 12,u 13,u 14,u 15,u 16,u 17,u 18,u 19,u 20,u 21,u 22,u 23,u 24,u 25,u 26,u 27,u 28,u 29,u 30,u 31,u 32,u 33,u 34,u 35,u 36,u 37,u 38,u 39,u 40,u 41,u 42,u 43,u 44,u 45,u 46,u 47,u 48,u 49,u 50,u 51,u 52,u 53,u 54,u 55,u 56,u 57,u 58,u 59,u 60,u 61,u 62,u 63,u 64,u 65,u 66,u 67,u 68,u 69,u 70,u 71,u 72,u 73,u 74,u 75,u 76,u 77,u 78,u 79,u 80,u 81,u 82,u 83,u 84,u 85,u 86,u 87,u 88,u 89,u 90,u 91,u 92,u 93,u 94,u 95,u 96,u 97,u 98,u 99,u 100,u 101,u 102,u 103,u 104,u 105,u 106,u 107,u 108,u 109,u 110,u 111,u 112,u 113,u 114,u 115,u 116,u 117,u 118,u 119,u 120,u 121,u 122],defers:=[] }
theorem ff_of {s T : ByteArray} {k : Int} {a : Act} (h : a = FF s T k (fun n => a.tmps.getD n undef)) : ∃ u,a = FF s T k u:=⟨_,h⟩
theorem efold_any (s : ByteArray) (w : World) (hf : FoldTab w) (hs : s.size <= 100000) :
    Calls Tryz.prog 75 #[.string s,.string (str Ev.wEV)] w (Ans w (.bool (decide (Li.capE s.data.toList = Ev.wEV)))):=by
  have HF:=hide hf
  obtain ⟨T,hT⟩ : ∃ T,str Ev.wEV = T:=⟨_,rfl⟩
  have hTs : T.size = 6:=by rw [<- hT]; rfl
  have HT:=hide hT
  rw [hT]
  clear hT hf
  obtain ⟨M,hM⟩ : ∃ M : Nat,min (s.size : Int) 6 = (M : Int):=⟨min s.size 6,by omega⟩
  have hMs : M <= s.size:=by omega
  have hMt : M <= 6:=by omega
  have hMe : M = s.size ∨ M = 6:=by omega
  go_enter Tryz.func75,Tryz.ntmps75
  go_wp2_with fail
  refine wp_scope_jumps 0 (fun a' w' => w' = w /\ ∃ k : Nat,Odd s k /\ ∃ u,a' = FF s T k u) (fun _ _ => 0) rfl ?_ ?_
  · go_wp2_with fail
    go_loopg [5] M (fun g s5 wx => w = wx /\ ∃ i : Nat,i + g = M /\ s5 = .int .i64 i /\ Hid (Pre s.data.toList i))
    case atStart => exact ⟨rfl,0,by omega,rfl,hide rfl⟩
    case round =>
      obtain ⟨rfl,i,hig,rfl,HP⟩:=hrel
      cases gk with
      | zero =>
        have hiM : ¬ ((i : Int) < (M : Int)):=by omega
        obtain rfl : i = M:=by omega
        by_cases hst : s.size = 6
        · have hb : ((s.size : Int) == 6) = true:=beq_iff_eq.2 (by omega)
          have HE : Hid (decide (Li.capE s.data.toList = Ev.wEV) = true):=hide (decide_eq_true (by
            have h6 : i = 6:=by omega
            have:=HP.out
            rw [h6] at this
            exact pre_end this (by rw [len_of]; omega)))
          go_wp2_with fail
          simp only [Exit.jump]
          go_ret
          exact ⟨by rw [HE.out]; rfl,start _⟩
        · have hb : ((s.size : Int) == 6) = false:=beq_eq_false_iff_ne.2 (by omega)
          have HE : Hid (decide (Li.capE s.data.toList = Ev.wEV) = false):=hide (decide_eq_false (pre_len (by rw [len_of]; omega)))
          go_wp2_with fail
          simp only [Exit.jump]
          go_ret
          exact ⟨by rw [HE.out]; rfl,start _⟩
      | succ g =>
        have hiM : (i : Int) < (M : Int):=by omega
        have hisz : (i : Int) < (s.size : Int):=by omega
        have hitz : (i : Int) < 6:=by omega
        have hin : i < s.size:=by omega
        have h6 : i < 6:=by omega
        obtain ⟨x,hx⟩ : ∃ x : UInt8,s[i]'hin = x:=⟨_,rfl⟩
        obtain ⟨y,hy⟩ : ∃ y : UInt8,T[i]'(by omega) = y:=⟨_,rfl⟩
        have hyw : y = Ev.wEV[i]'h6:=by
          rw [<- hy]
          have:=HT.out
          subst this
          exact T_at i h6 _
        have hyb:=wev_bd i h6
        rw [<- hyw] at hyb
        have hxl : i < s.data.toList.length:=by rw [len_of]; exact hin
        have hxd : s.data.toList[i] = x:=by rw [byte_listE s i hin,hx]
        have hor : bits .or .u8 (x.toNat : Int) (y.toNat : Int) = ((x.toNat ||| y.toNat : Nat) : Int):=u8_or_nat _ _ (by have:=x.toNat_lt; omega) (by omega)
        by_cases hx128 : x.toNat < 128
        · have hor128 : ¬ ((128 : Int) <= ((x.toNat ||| y.toNat : Nat) : Int)):=by have:=Nat.or_lt_two_pow (n:=7) hx128 (show y.toNat < 2 ^ 7 by omega); omega
          by_cases hu : x = y ∨ x.toNat = y.toNat + 32
          · have HN:=hide (pre_next HP.out hxl h6 (by rw [hxd,<- hyw]; exact (up_eq x y hyb).2 hu))
            clear hyw hxd hxl
            go_wp2_with fail
            all_goals (try simp only [beq_iff_eq,beq_eq_false_iff_ne,ne_eq] at *)
            all_goals first
              | (go_roundg g
                 case measure => omega
                 case rel => exact ⟨rfl,i + 1,by omega,by first | rfl | simp,HN⟩)
              | (exfalso; rcases hu with rfl | hu <;> omega)
          · have HE : Hid (decide (Li.capE s.data.toList = Ev.wEV) = false):=hide (decide_eq_false (pre_bad hxl h6 (by rw [hxd,<- hyw]; exact fun g => hu ((up_eq x y hyb).1 g))))
            have hu1 : x.toNat ≠ y.toNat:=fun g => hu (Or.inl (UInt8.toNat_inj.1 g))
            have hu2 : x.toNat ≠ y.toNat + 32:=fun g => hu (Or.inr g)
            clear hyw hxd hxl hu
            go_wp2_with fail
            all_goals (try simp only [beq_eq_false_iff_ne,ne_eq] at *)
            all_goals first
              | (simp only [Exit.jump]
                 go_ret
                 exact ⟨by rw [HE.out]; rfl,start _⟩)
              | (exfalso; omega)
        · have hor128 : (128 : Int) <= ((x.toNat ||| y.toNat : Nat) : Int):=by have : x.toNat <= x.toNat ||| y.toNat:=Nat.left_le_or; omega
          have HO : Hid (Odd s i):=hide ⟨h6,hin,by rw [hx]; omega⟩
          clear hyw hxd hxl
          go_wp2_with fail
          go_step3
          exact ⟨rfl,rfl,i,HO.out,ff_of rfl⟩
  · rintro a' w' ⟨rfl,k,ho,u,rfl⟩
    unfold FF
    have hk6:=ho.k6
    have hks:=ho.ks
    have HE : Hid (decide (Li.capE s.data.toList = Ev.wEV) = false):=hide (decide_eq_false ho.no)
    have k0 : (0 : Int) <= (k : Int):=by omega
    have k1 : (k : Int) <= (s.size : Int):=by omega
    have k2 : (k : Int) <= 6:=by omega
    have hTk:=HT.out
    go_wp2_with fail
    have hz1 : 0 < (s.extract k s.size).size:=by rw [ByteArray.size_extract]; omega
    have hz2 : (s.extract k s.size)[0]'hz1 = s[k]'hks:=by rw [ByteArray.getElem_extract]; simp
    have hz3 : 128 <= ((s.extract k s.size)[0]'hz1).toNat:=by rw [hz2]; exact ho.high
    have hy1 : 0 < (T.extract k 6).size:=by rw [ByteArray.size_extract]; omega
    have hy2 : ((T.extract k 6)[0]'hy1).toNat = (Ev.wEV[k]'hk6).toNat:=by
      subst hTk
      rw [ByteArray.getElem_extract]
      simp only [Nat.add_zero]
      rw [T_at k hk6]
    have hd:=wev_at k hk6
    have hdb:=wev_bd k hk6
    generalize s.extract k s.size = S2 at *
    generalize T.extract k 6 = T2 at *
    generalize (Ev.wEV[k]'hk6).toNat = d at *
    have hdh:=(decode_high S2 0 hz1 hz3).1
    have hdl:=decode_le S2 0
    have hnx:=fun ty => run_next_any (P:=Tryz.prog) w' S2 0 ty hz1
    have hbit : Below w'.heap.size w' (w'.iter S2 (0 + (Utf8.decode S2 0).2)):=by exact more (start w') _
    generalize (Utf8.decode S2 0).2 = n2 at *
    generalize (Utf8.decode S2 0).1 = R at *
    rw [Nat.zero_add] at hbit
    have t0 : ((T2.size : Int) == 0) = false:=by rw [beq_eq_false_iff_ne]; omega
    have t1 : (1 : Int) <= (T2.size : Int):=by omega
    have t2 : ((d : Int) == R) = false:=by rw [beq_eq_false_iff_ne]; omega
    have t3 : (d : Int) < R:=by omega
    have t4 : ¬ R < 128:=by omega
    have t5 : (((d : Int) + 32) != (d : Int)) = true:=by rw [bne_iff_ne]; omega
    have t6 : (d : Int) + 32 < R:=by omega
    have t7 : ((d : Int) != (d : Int)) = false:=by simp
    have hF1:=(HF.out d hd).1
    have hF2:=(HF.out d hd).2
    have hG1:=hide (sfold_at d (d + 32) (w'.iter S2 n2) (by omega) (by omega) (cell_keep hbit hF1))
    have hG2:=hide (sfold_at (d + 32) d (w'.iter S2 n2) (by omega) (by omega) (cell_keep hbit hF2))
    have hG3:=hide (dec_first T2 d (w'.iter S2 n2) hy1 hy2 (by omega))
    clear hF1 hF2 hTk hz2 hy2 hd hz3 hdl
    refine wp_loop_rounds 1 ?_
    rw [rounds_succ]
    go_wp2_with fail
    refine (hG3.out).mono ?_
    rintro e w1 ⟨rfl,rfl⟩
    go_wp2_with fail
    refine (hG1.out).mono ?_
    rintro e w1 ⟨rfl,rfl⟩
    go_wp2_with fail
    refine wp_loop_rounds 2 ?_
    rw [rounds_succ]
    go_wp2_with fail
    refine (hG2.out).mono ?_
    rintro e w1 ⟨rfl,rfl⟩
    go_wp2_with fail
    rw [rounds_succ]
    go_wp2_with fail
    simp only [Exit.jump]
    go_ret
    exact ⟨by rw [HE.out]; rfl,hbit⟩
theorem evWord_any (t : Tx) (w : World) (hf : FoldTab w) (ht : t.length <= 100000) :
  Calls Tryz.prog 216 #[.string (str t)] w (Ans w (.bool (decide (Li.capE t = Ev.wEV)))):=by
 have H:=hide (efold_any (str t) w hf (by rw [str_size]; exact ht))
 rw [str_list] at H
 generalize decide (Li.capE t = Ev.wEV) = B at *
 generalize str t = S at *
 clear hf
 go_enter Tryz.func216,Tryz.ntmps216
 go_wp2_with fail
 refine (H.out).mono ?_
 rintro e w1 ⟨rfl,hb⟩
 go_wp2_with fail
 go_ret
 exact ⟨rfl,hb⟩
theorem evWord_at (t : Tx) (b : Bool) (w : World) (hf : FoldTab w) (ht : t.length <= 100000) (h : decide (Li.capE t = Ev.wEV) = b) :
  Calls Tryz.prog 216 #[.string (str t)] w (Ans w (.bool b)):=by subst h; exact evWord_any t w hf ht
end Go.Proofs.YtfecnkhoojnkbaaGreatDoor

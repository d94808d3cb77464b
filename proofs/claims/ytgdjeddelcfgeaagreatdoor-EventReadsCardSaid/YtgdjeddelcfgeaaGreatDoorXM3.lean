/- EvMath; EvMathC; EvMathB; EvMathD of the recipes, what is needed of them. -/
import Derived.Test.YtgdjeddelcfgeaaGreatDoorXM2
namespace Go.Proofs.YtgdjeddelcfgeaaGreatDoor.Ev
open Go.Proofs.YtgdjeddelcfgeaaGreatDoor Rul Rt Fo Li

structure E where
 uid : Tx
 text : Tx
 st : Int
 lg : Int
 rooms : List Int
 r : Rul.T
 ex : List Int

def uidI (x : Int) : Bool:=btw 97 x 122 || (btw 65 x 90 || (btw 48 x 57 || x == 45))
def textI (x : Int) : Bool:=btw 32 x 126 || x == 10
def uidC (c : UInt8) : Bool:=uidI (c.toNat : Int)
def textC (c : UInt8) : Bool:=textI (c.toNat : Int)
def uidB (s : Tx) : Bool:=decide (1 ≤ s.length ∧ s.length ≤ 12) && s.all uidC
def textB (s : Tx) : Bool:=decide (s.length ≤ 40) && s.all textC
def minB (n : Int) : Bool:=decide (0 ≤ n ∧ n < 52596000)
def lgB (n : Int) : Bool:=btw 1 n 10080
def roomB (n : Int) : Bool:=btw 0 n 7
def roomsB (l : List Int) : Bool:=decide (1 ≤ l.length ∧ l.length ≤ 4) && ascB roomB inLt 0 l
def exB (l : List Int) : Bool:=listB minB inLt 0 l
def wordsB (e : E) : Bool:=uidB e.uid && textB e.text
def freeB (e : E) : Bool:=decide (e.ex.length = 0) || !sameB e.r once
def timesB (e : E) : Bool:=minB e.st && (lgB e.lg && (isB e.r && (exB e.ex && freeB e)))
def isE (e : E) : Bool:=wordsB e && (timesB e && roomsB e.rooms)
def sameE (a b : E) : Bool:=decide (a.uid = b.uid) && (decide (a.text = b.text) && (decide (a.st = b.st) && (decide (a.lg = b.lg) && (sameB a.r b.r && (decide (a.ex = b.ex) && decide (a.rooms = b.rooms))))))
theorem sameE_iff (a b : E) : sameE a b = true ↔ a = b:=by
 obtain ⟨u,t,s,l,o,r,x⟩:=a
 obtain ⟨u',t',s',l',o',r',x'⟩:=b
 simp only [sameE,Bool.and_eq_true,decide_eq_true_eq,sameB_iff,E.mk.injEq]
 exact ⟨fun ⟨a,b,c,d,e,f,g⟩ => ⟨a,b,c,d,g,e,f⟩,fun ⟨a,b,c,d,g,e,f⟩ => ⟨a,b,c,d,e,f,g⟩⟩
theorem sameE_self (a : E) : sameE a a = true:=(sameE_iff a a).2 rfl
structure Is (e : E) : Prop where
 uid : uidB e.uid = true
 text : textB e.text = true
 st : minB e.st = true
 lg : lgB e.lg = true
 r : isB e.r = true
 ex : exB e.ex = true
 free : e.ex = [] ∨ e.r ≠ once
 rooms : roomsB e.rooms = true
theorem isE_iff (e : E) : isE e = true ↔ Is e:=by
 have hf : freeB e = true ↔ (e.ex = [] ∨ e.r ≠ once):=by
  unfold freeB
  rw [Bool.or_eq_true,decide_eq_true_eq,List.length_eq_zero_iff,Bool.not_eq_true',← Bool.not_eq_true,sameB_iff]
 unfold isE wordsB timesB
 simp only [Bool.and_eq_true,hf]
 exact ⟨fun ⟨⟨a,b⟩,⟨c,d,e,f,g⟩,h⟩ => ⟨a,b,c,d,e,f,g,h⟩,fun h => ⟨⟨h.uid,h.text⟩,⟨h.st,h.lg,h.r,h.ex,h.free⟩,h.rooms⟩⟩

theorem uidB_len {s : Tx} (h : uidB s = true) : 1 ≤ s.length ∧ s.length ≤ 12:=by
 unfold uidB at h; rw [Bool.and_eq_true,decide_eq_true_eq] at h; exact h.1
theorem textB_len {s : Tx} (h : textB s = true) : s.length ≤ 40:=by
 unfold textB at h; rw [Bool.and_eq_true,decide_eq_true_eq] at h; exact h.1
theorem minB_iff (n : Int) : minB n = true ↔ 0 ≤ n ∧ n < 52596000:=by unfold minB; exact decide_eq_true_iff
theorem exB_iff (l : List Int) : exB l = true ↔ l.length ≤ 12 ∧ (∀ x ∈ l,minB x = true) ∧ strict inLt l:=listB_iff ordI 0 l
theorem asc_iff (p : Int → Bool) (l : List Int) (h : l.length ≤ 12) : ascB p inLt 0 l = true ↔ (∀ x ∈ l,p x = true) ∧ strict inLt l:=by
 have:=listB_iff (p:=p) ordI 0 l
 unfold listB at this
 rw [decide_eq_true h,Bool.true_and] at this
 rw [this]
 exact ⟨fun g => g.2,fun g => ⟨h,g⟩⟩
theorem roomsB_iff (l : List Int) : roomsB l = true ↔ (1 ≤ l.length ∧ l.length ≤ 4) ∧ (∀ x ∈ l,roomB x = true) ∧ strict inLt l:=by
 unfold roomsB
 rw [Bool.and_eq_true,decide_eq_true_eq]
 constructor
 ·rintro ⟨h,g⟩; exact ⟨h,(asc_iff roomB l (by omega)).1 g⟩
 ·rintro ⟨h,g⟩; exact ⟨h,(asc_iff roomB l (by omega)).2 g⟩

def nBEGIN : Tx:=[66,69,71,73,78]
def nUID : Tx:=[85,73,68]
def nSTART : Tx:=[68,84,83,84,65,82,84]
def nLONG : Tx:=[68,85,82,65,84,73,79,78]
def nRULE : Tx:=[82,82,85,76,69]
def nEX : Tx:=[69,88,68,65,84,69]
def nROOMS : Tx:=[88,45,82,79,79,77,83]
def nTEXT : Tx:=[83,85,77,77,65,82,89]
def nEND : Tx:=[69,78,68]
def wEV : Tx:=[86,69,86,69,78,84]
def known7 : List Tx:=[nUID,nSTART,nLONG,nROOMS,nRULE,nEX,nTEXT]

def wPT : Tx:=[80,84]
def longT (n : Int) : Tx:=wPT ++ Lib.itoa n ++ [77]
def within (v : Tx) : Tx:=(v.drop 2).dropLast
def longForm (v : Tx) : Bool:=decide (v.take 2 = wPT) && (decide (3 ≤ v.length) && decide (v.getLast? = some 77))
def keepI (p : Int → Bool) (o : Option Int) : Option Int:=match o with
 | some n => if p n = true then some n else none
 | none => none
theorem keepI_some {p : Int → Bool} {o : Option Int} {n : Int} : keepI p o = some n ↔ o = some n ∧ p n = true:=by
 unfold keepI
 cases o with
 | none => simp
 | some m =>
  simp only [Option.some.injEq]
  split
  ·rename_i h; constructor
   ·intro g; injection g with g; subst g; exact ⟨rfl,h⟩
   ·rintro ⟨rfl,_⟩; rfl
  ·rename_i h; constructor
   ·intro g; cases g
   ·rintro ⟨rfl,g⟩; exact absurd g h
def longE (v : Tx) : Option Int:=if longForm v = true then keepI lgB (numC (within v)) else none
def longR (v : Tx) : Option Int:=if longForm v = true then keepI lgB (decR (within v) false) else none
theorem long_agree (v : Tx) : longE v = longR v:=by
 unfold longE longR
 split
 ·apply Option.ext
  intro n
  rw [keepI_some,keepI_some,numC_iff,decR_iff]
  constructor
  ·rintro ⟨⟨h,_⟩,g⟩
   have g2:=g
   rw [lgB,btw_iff] at g2
   exact ⟨⟨h,by omega,fun _ => by omega⟩,g⟩
  ·rintro ⟨⟨h,_⟩,g⟩
   have g2:=g
   rw [lgB,btw_iff] at g2
   exact ⟨⟨h,by unfold in64; omega⟩,g⟩
 ·rfl
def listN {α : Type} (k : Nat) (lt : α → α → Bool) (f : Tx → Option α) (t : Tx) : Option (List α):=(allSome f (Lib.splitN t [44] k)).map (srt lt)
theorem list_agreeN {α : Type} [DecidableEq α] {lt : α → α → Bool} (o : Ord lt) (k : Nat) (fC fR : Tx → Option α) (ok : α → Bool) (hok : ∀ t x,ok x = true → (fC t = some x ↔ fR t = some x)) (hfree : ∀ t x,fC t = some x → (44 : UInt8) ∉ t)
  (t : Tx) (l : List α) (h12 : l.length ≤ k) (hall : ∀ x ∈ l,ok x = true) (hs : strict lt l) : listN (k + 1) lt fC t = some l ↔ listR lt fR t = some l:=by
 unfold listN listR
 rw [Option.map_eq_some_iff]
 constructor
 ·rintro ⟨xs,hx,rfl⟩
  have hp:=srt_perm lt xs
  have hlen:=allSome_len hx
  rcases splitN_cut 44 k t with ⟨h1,_⟩ | ⟨_,_,p,hp2,hc⟩
  ·rw [h1] at hx
   refine insAll_of o fR _ [] _ xs List.Pairwise.nil (allSome_change hx fun a _ b hb h => ?_) hs hp
   exact (hok a b (hall b (hp.mem_iff.2 hb))).1 h
  ·obtain ⟨b,_,hb⟩:=allSome_mem hx hp2
   exact absurd hc (hfree _ _ hb)
 ·intro h
  obtain ⟨xs,hx,_,hp⟩:=insAll_to o fR _ [] l List.Pairwise.nil h
  rw [List.nil_append] at hp
  have hlen:=allSome_len hx
  have hxl:=hp.length_eq
  have hC : allSome fC (cutAt 44 t) = some xs:=allSome_change hx fun a _ b hb h => (hok a b (hall b (hp.mem_iff.2 hb))).2 h
  rcases splitN_cut 44 k t with ⟨h1,_⟩ | ⟨_,h2,_⟩
  ·exact ⟨xs,by rw [h1]; exact hC,(srt_is o hp (hs.weak o)).symm⟩
  ·omega
theorem listR_strict {α : Type} [DecidableEq α] {lt : α → α → Bool} (o : Ord lt) {f : Tx → Option α} {t : Tx} {l : List α} (h : listR lt f t = some l) : strict lt l ∧ (∀ x ∈ l,∃ u,f u = some x) ∧ l ≠ []:=by
 obtain ⟨xs,hx,hs,hp⟩:=insAll_to o f _ [] l List.Pairwise.nil h
 rw [List.nil_append] at hp
 refine ⟨hs,fun x hx2 => ?_,fun e => ?_⟩
 ·have:=hp.mem_iff.1 hx2
  rw [allSome_iff] at hx
  have g : some x ∈ (cutAt 44 t).map f:=by rw [hx]; exact List.mem_map.2 ⟨x,this,rfl⟩
  obtain ⟨u,_,hu⟩:=List.mem_map.1 g
  exact ⟨u,hu⟩
 ·have h1:=allSome_len hx
  have h2:=hp.length_eq
  rw [e,List.length_nil] at h2
  exact cutAt_ne 44 t (List.length_eq_zero_iff.1 (by omega))

def keepL (p : List Int → Bool) (o : Option (List Int)) : Option (List Int):=match o with
 | some l => if p l = true then some l else none
 | none => none
theorem keepL_some {p : List Int → Bool} {o : Option (List Int)} {l : List Int} : keepL p o = some l ↔ o = some l ∧ p l = true:=by
 unfold keepL
 cases o with
 | none => simp
 | some m =>
  simp only [Option.some.injEq]
  split
  ·rename_i h; constructor
   ·intro g; injection g with g; subst g; exact ⟨rfl,h⟩
   ·rintro ⟨rfl,_⟩; rfl
  ·rename_i h; constructor
   ·intro g; cases g
   ·rintro ⟨rfl,g⟩; exact absurd g h

structure Good (U : Un) : Prop where
 comma : ∀ v n,U.f v = some n → (44 : UInt8) ∉ v
 range : ∀ v n,U.f v = some n → 0 ≤ n ∧ n < 52596000
 free : ∀ n,(44 : UInt8) ∉ U.text n
def exE (U : Un) (v : Tx) : Option (List Int):=keepL exB (listN 13 inLt U.f v)
def exR (U : Un) (v : Tx) : Option (List Int):=keepL (fun l => decide (l.length ≤ 12)) (listR inLt U.f v)
theorem ex_agree (U : Un) (hU : Good U) (v : Tx) : exE U v = exR U v:=by
 unfold exE exR
 apply Option.ext
 intro l
 rw [keepL_some,keepL_some,exB_iff,decide_eq_true_eq]
 constructor
 ·rintro ⟨h,h1,h2,h3⟩
  exact ⟨(list_agreeN ordI 12 U.f U.f minB (fun _ _ _ => Iff.rfl) hU.comma v l h1 h2 h3).1 h,h1⟩
 ·rintro ⟨h,h1⟩
  obtain ⟨h3,h4,_⟩:=listR_strict ordI h
  have h2 : ∀ x ∈ l,minB x = true:=fun x hx => by
   obtain ⟨u,hu⟩:=h4 x hx
   exact (minB_iff x).2 (hU.range u x hu)
  exact ⟨(list_agreeN ordI 12 U.f U.f minB (fun _ _ _ => Iff.rfl) hU.comma v l h1 h2 h3).2 h,h1,h2,h3⟩
def roomsE (v : Tx) : Option (List Int):=keepL roomsB (listN 5 inLt numC v)
def roomsR (v : Tx) : Option (List Int):=keepL (fun l => decide (l.length ≤ 4) && decide (l.getLastD 0 < 8)) (listR inLt (decR · false) v)
theorem strict_last : ∀ {l : List Int} {x : Int},strict inLt l → x ∈ l → x ≤ l.getLastD 0
 | [],x,_,h => by cases h
 | [a],x,_,h => by
  rw [List.mem_singleton] at h; subst h; exact Int.le_refl _
 | a :: b :: l,x,hs,h => by
  have hs2:=List.pairwise_cons.1 hs
  have ih:=fun y => strict_last (x:=y) hs2.2
  rcases List.mem_cons.1 h with rfl | h
  ·have h1:=hs2.1 b (by simp)
   have h2:=ih b (by simp)
   unfold inLt at h1
   rw [decide_eq_true_eq] at h1
   have : (x :: b :: l).getLastD 0 = (b :: l).getLastD 0:=rfl
   omega
  ·exact ih x h
theorem rooms_agree (v : Tx) : roomsE v = roomsR v:=by
 unfold roomsE roomsR
 have hok : ∀ t x,roomB x = true → (numC t = some x ↔ decR t false = some x):=fun t x hx => by
  rw [roomB,btw_iff] at hx
  rw [numC_iff,decR_iff]
  constructor
  ·rintro ⟨h,_⟩; exact ⟨h,by omega,fun _ => by omega⟩
  ·rintro ⟨h,_⟩; exact ⟨h,by unfold in64; omega⟩
 have hfree : ∀ t x,numC t = some x → (44 : UInt8) ∉ t:=fun t x h => num_free h 44 (by decide)
 apply Option.ext
 intro l
 rw [keepL_some,keepL_some,roomsB_iff,Bool.and_eq_true,decide_eq_true_eq,decide_eq_true_eq]
 constructor
 ·rintro ⟨h,h1,h2,h3⟩
  refine ⟨(list_agreeN ordI 4 numC (decR · false) roomB hok hfree v l h1.2 h2 h3).1 h,h1.2,?_⟩
  have hm : l.getLastD 0 ∈ l:=by
   cases l with
   | nil => simp at h1
   | cons a l => rw [List.getLastD_cons,List.getLastD_eq_getLast?]; exact List.mem_of_getLast? (by rw [List.getLast?_cons])
  have:=h2 _ hm
  rw [roomB,btw_iff] at this
  omega
 ·rintro ⟨h,h1,hl⟩
  obtain ⟨h3,h4,h5⟩:=listR_strict ordI h
  have h2 : ∀ x ∈ l,roomB x = true:=fun x hx => by
   obtain ⟨u,hu⟩:=h4 x hx
   have h6:=strict_last h3 hx
   have h7:=((decR_iff u false x).1 hu).2.2 rfl
   rw [roomB,btw_iff]; omega
  have h0 : 1 ≤ l.length:=Nat.pos_of_ne_zero fun e => h5 (List.length_eq_zero_iff.1 e)
  exact ⟨(list_agreeN ordI 4 numC (decR · false) roomB hok hfree v l h1 h2 h3).2 h,⟨h0,h1⟩,h2,h3⟩
def textE (v : Tx) : Option Tx:=match unE v with
 | some s => if textB s = true then some s else none
 | none => none
def setE (U : Un) (e : E) (n v : Tx) : Option E :=
 if n = nUID then (if uidB v = true then some { e with uid:=v } else none)
 else if n = nSTART then (U.f v).map fun m => { e with st:=m }
 else if n = nLONG then (longE v).map fun m => { e with lg:=m }
 else if n = nRULE then (ansC U v).map fun r => { e with r:=r }
 else if n = nEX then (exE U v).map fun l => { e with ex:=l }
 else if n = nROOMS then (roomsE v).map fun l => { e with rooms:=l }
 else if n = nTEXT then (textE v).map fun t => { e with text:=t }
 else none

def e0 : E:=⟨[],[],0,0,[],once,[]⟩
def hasAll (seen : List Tx) : Bool:=decide (nUID ∈ seen) && (decide (nSTART ∈ seen) && (decide (nLONG ∈ seen) && decide (nROOMS ∈ seen)))
def goE (U : Un) : Nat → E → List Tx → List Tx → Option E × Nat
 | i,_,_,[] => (none,i)
 | i,e,seen,h :: t => match lineE h with
  | none => (none,i)
  | some (n,v) =>
   if n = nBEGIN then (none,i)
   else if n = nEND then (if decide (capE v = wEV) && (hasAll seen && isE e) then (some e,i + 1) else (none,i))
   else if n ∈ known7 then (if n ∈ seen then (none,i) else match setE U e n v with
    | none => (none,i)
    | some e' => goE U (i + 1) e' (seen ++ [n]) t)
   else goE U (i + 1) e seen t
def readE (U : Un) : List Tx → Option E × Nat
 | [] => (none,0)
 | h :: t => match lineE h with
  | none => (none,0)
  | some (n,v) => if n = nBEGIN ∧ capE v = wEV then goE U 1 e0 [] t else (none,0)

theorem drop_at {l : List Tx} {j : Nat} (h : j < l.length) : l.drop j = l[j] :: l.drop (j + 1):=List.drop_eq_getElem_cons h
theorem go_none {U : Un} {l : List Tx} {j i : Nat} {e : E} {seen : List Tx} (h : j < l.length) (hl : lineE l[j] = none) : goE U i e seen (l.drop j) = (none,i):=by
 rw [drop_at h,goE,hl]
theorem go_begin {U : Un} {l : List Tx} {j i : Nat} {e : E} {seen : List Tx} {v : Tx} (h : j < l.length) (hl : lineE l[j] = some (nBEGIN,v)) : goE U i e seen (l.drop j) = (none,i):=by
 rw [drop_at h,goE,hl]; simp only [if_true]
theorem go_end {U : Un} {l : List Tx} {j i : Nat} {e : E} {seen : List Tx} {v : Tx} (h : j < l.length) (hl : lineE l[j] = some (nEND,v)) : goE U i e seen (l.drop j) = if decide (capE v = wEV) && (hasAll seen && isE e) then (some e,i + 1) else (none,i):=by
 rw [drop_at h,goE,hl]
 simp only
 rw [if_neg (by decide),if_pos trivial]
theorem known_not {n : Tx} (h : n ∈ known7) : n ≠ nBEGIN ∧ n ≠ nEND:=by
 have : ∀ n ∈ known7,n ≠ nBEGIN ∧ n ≠ nEND:=by decide
 exact this n h
theorem go_dup {U : Un} {l : List Tx} {j i : Nat} {e : E} {seen : List Tx} {n v : Tx} (h : j < l.length) (hl : lineE l[j] = some (n,v)) (hk : n ∈ known7) (hs : n ∈ seen) : goE U i e seen (l.drop j) = (none,i):=by
 rw [drop_at h,goE,hl]
 simp only
 rw [if_neg (known_not hk).1,if_neg (known_not hk).2,if_pos hk,if_pos hs]
theorem go_bad {U : Un} {l : List Tx} {j i : Nat} {e : E} {seen : List Tx} {n v : Tx} (h : j < l.length) (hl : lineE l[j] = some (n,v)) (hk : n ∈ known7) (hv : setE U e n v = none) : goE U i e seen (l.drop j) = (none,i):=by
 rw [drop_at h,goE,hl]
 simp only
 rw [if_neg (known_not hk).1,if_neg (known_not hk).2,if_pos hk,hv]
 simp
theorem go_set {U : Un} {l : List Tx} {j i : Nat} {e e' : E} {seen : List Tx} {n v : Tx} (h : j < l.length) (hl : lineE l[j] = some (n,v)) (hk : n ∈ known7) (hs : n ∉ seen) (hv : setE U e n v = some e') : goE U i e seen (l.drop j) = goE U (i + 1) e' (seen ++ [n]) (l.drop (j + 1)):=by
 rw [drop_at h,goE,hl]
 simp only
 rw [if_neg (known_not hk).1,if_neg (known_not hk).2,if_pos hk,if_neg hs,hv]
theorem go_other {U : Un} {l : List Tx} {j i : Nat} {e : E} {seen : List Tx} {n v : Tx} (h : j < l.length) (hl : lineE l[j] = some (n,v)) (h1 : n ≠ nBEGIN) (h2 : n ≠ nEND) (hk : n ∉ known7) : goE U i e seen (l.drop j) = goE U (i + 1) e seen (l.drop (j + 1)):=by
 rw [drop_at h,goE,hl]
 simp only
 rw [if_neg h1,if_neg h2,if_neg hk]
theorem go_out {U : Un} {l : List Tx} {i : Nat} {e : E} {seen : List Tx} : goE U i e seen (l.drop l.length) = (none,i):=by
 rw [List.drop_length,goE]

def line2 (p : Tx × Tx) : Tx:=p.1 ++ 58 :: p.2
def items (U : Un) (e : E) : List (Tx × Tx):=[(nBEGIN,wEV),(nUID,e.uid),(nSTART,U.text e.st),(nLONG,longT e.lg),(nRULE,printE U e.r),(nEX,listT U.text e.ex),(nROOMS,listT Lib.itoa e.rooms),(nTEXT,escE e.text),(nEND,wEV)]
def wri (l : List (Tx × Tx)) : List Tx:=(l.filter fun p => decide (p.2 ≠ [])).map line2
def linesE (U : Un) (e : E) : List Tx:=if isE e = true then wri (items U e) else []

inductive Fld where
 | uid (t : Tx)
 | st (n : Int)
 | lg (n : Int)
 | ru (r : Rul.T)
 | ex (l : List Int)
 | ro (l : List Int)
 | tx (t : Tx)
def Fld.tag : Fld → Nat
 | .uid _ => 0
 | .st _ => 1
 | .lg _ => 2
 | .ru _ => 3
 | .ex _ => 4
 | .ro _ => 5
 | .tx _ => 6
def Fld.name : Fld → Tx
 | .uid _ => nUID
 | .st _ => nSTART
 | .lg _ => nLONG
 | .ru _ => nRULE
 | .ex _ => nEX
 | .ro _ => nROOMS
 | .tx _ => nTEXT
def Fld.put (e : E) : Fld → E
 | .uid t => { e with uid:=t }
 | .st n => { e with st:=n }
 | .lg n => { e with lg:=n }
 | .ru r => { e with r:=r }
 | .ex l => { e with ex:=l }
 | .ro l => { e with rooms:=l }
 | .tx t => { e with text:=t }
def Fld.val (U : Un) : Fld → Tx
 | .uid t => t
 | .st n => U.text n
 | .lg n => longT n
 | .ru r => printE U r
 | .ex l => listT U.text l
 | .ro l => listT Lib.itoa l
 | .tx t => escE t
def allF (e : E) : List Fld:=[.uid e.uid,.st e.st,.lg e.lg,.ru e.r,.ex e.ex,.ro e.rooms,.tx e.text]
theorem name_tag (p q : Fld) : p.name = q.name ↔ p.tag = q.tag:=by cases p <;> cases q <;> simp [Fld.name,Fld.tag] <;> decide
theorem put_comm (e : E) (p q : Fld) (h : p.tag ≠ q.tag) : (p.put e |> q.put) = (q.put e |> p.put):=by cases p <;> cases q <;> first | rfl | exact absurd rfl h

end Go.Proofs.YtgdjeddelcfgeaaGreatDoor.Ev
namespace Go.Proofs.YtgdjeddelcfgeaaGreatDoor.Ev
open Go.Proofs.YtgdjeddelcfgeaaGreatDoor Rul Rt Fo Li

def all9 : List Tx:=[nBEGIN,nUID,nSTART,nLONG,nRULE,nEX,nROOMS,nTEXT,nEND]
def setF (U : Un) (seen : List Tx) (e : E) (n t : Tx) : Option E :=
 if n = nBEGIN then (if decide (capE t = wEV) = true then some e else none)
 else if n = nEND then (if (decide (capE t = wEV) && (hasAll seen && isE e)) = true then some e else none)
 else setE U e n t
def takeF (U : Un) (e : E) (seen : List Tx) (n t : Tx) : Option (E × List Tx) :=
 if (decide (seen = []) != decide (n = nBEGIN)) = true then none
 else if n ∈ seen then none
 else if n ∈ all9 then (setF U (seen ++ [n]) e n t).map fun e' => (e',seen ++ [n])
 else some (e,seen)
def goF (U : Un) : Nat → E → List Tx → List Tx → Option E × Nat
 | i,_,_,[] => (none,i)
 | i,e,seen,h :: t => match lineE h with
  | none => (none,i)
  | some (n,v) => match takeF U e seen n v with
   | none => (none,i)
   | some (e',seen') => if n = nEND then (some e',i + 1) else goF U (i + 1) e' seen' t
theorem all9_iff (n : Tx) : n ∈ all9 ↔ n = nBEGIN ∨ n = nEND ∨ n ∈ known7:=by
 unfold all9 known7
 simp only [List.mem_cons,List.not_mem_nil,or_false]
 constructor
 ·rintro (h | h | h | h | h | h | h | h | h) <;> simp [h]
 ·rintro (h | h | h | h | h | h | h | h | h) <;> simp [h]
theorem has_more (seen : List Tx) (x : Tx) (hx : x ∉ [nUID,nSTART,nLONG,nROOMS]) : hasAll (seen ++ [x]) = hasAll seen:=by
 have h : ∀ y ∈ [nUID,nSTART,nLONG,nROOMS],(decide (y ∈ seen ++ [x])) = decide (y ∈ seen):=fun y hy => by
  rw [decide_eq_decide,List.mem_append,List.mem_singleton]
  exact ⟨fun g => g.resolve_right fun e => hx (e ▸ hy),Or.inl⟩
 unfold hasAll
 rw [h nUID (by simp),h nSTART (by simp),h nLONG (by simp),h nROOMS (by simp)]
theorem has_first (seen : List Tx) (x : Tx) (hx : x ∉ [nUID,nSTART,nLONG,nROOMS]) : hasAll (x :: seen) = hasAll seen:=by
 have h : ∀ y ∈ [nUID,nSTART,nLONG,nROOMS],(decide (y ∈ x :: seen)) = decide (y ∈ seen):=fun y hy => by
  rw [decide_eq_decide,List.mem_cons]
  exact ⟨fun g => g.resolve_left fun e => hx (e ▸ hy),Or.inr⟩
 unfold hasAll
 rw [h nUID (by simp),h nSTART (by simp),h nLONG (by simp),h nROOMS (by simp)]
theorem goF_go (U : Un) : ∀ (l : List Tx) (i : Nat) (e : E) (seen : List Tx),(∀ x ∈ seen,x ∈ known7) → goF U i e (nBEGIN :: seen) l = goE U i e seen l
 | [],i,e,seen,_ => by rw [goF,goE]
 | h :: t,i,e,seen,hs => by
  rw [goF,goE]
  cases hl : lineE h with
  | none => rfl
  | some p =>
   obtain ⟨n,v⟩:=p
   simp only
   have d0 : decide (nBEGIN :: seen = []) = false:=by simp
   by_cases h1 : n = nBEGIN
   ·subst h1
    have : takeF U e (nBEGIN :: seen) nBEGIN v = none:=by
     unfold takeF; rw [d0,decide_eq_true rfl,if_pos (by decide)]
    rw [this,if_pos rfl]
   ·have d1 : decide (n = nBEGIN) = false:=decide_eq_false h1
    rw [if_neg h1]
    have e1 : takeF U e (nBEGIN :: seen) n v = if n ∈ seen then none else if n ∈ all9 then (setF U (nBEGIN :: (seen ++ [n])) e n v).map fun e' => (e',nBEGIN :: (seen ++ [n])) else some (e,nBEGIN :: seen):=by
     unfold takeF
     rw [d0,d1,if_neg (by decide)]
     have : (n ∈ nBEGIN :: seen) = (n ∈ seen):=by
      rw [eq_iff_iff,List.mem_cons]; exact ⟨fun g => g.resolve_left h1,Or.inr⟩
     simp only [this,List.cons_append]
    rw [e1]
    clear e1 d0 d1
    by_cases h2 : n = nEND
    ·subst h2
     have hn : nEND ∉ seen:=fun g => (known_not (hs _ g)).2 rfl
     have e2 : setF U (nBEGIN :: (seen ++ [nEND])) e nEND v = if (decide (capE v = wEV) && (hasAll seen && isE e)) = true then some e else none:=by
      unfold setF
      rw [if_neg h1,if_pos rfl,has_first _ _ (by decide),has_more _ _ (by decide)]
     rw [if_neg hn,if_pos ((all9_iff _).2 (Or.inr (Or.inl rfl))),if_pos rfl,e2]
     by_cases hc : (decide (capE v = wEV) && (hasAll seen && isE e)) = true
     ·simp only [if_pos hc,Option.map_some,if_true]
     ·simp only [if_neg hc,Option.map_none]
    ·rw [if_neg h2]
     by_cases h3 : n ∈ known7
     ·rw [if_pos h3]
      by_cases h4 : n ∈ seen
      ·rw [if_pos h4,if_pos h4]
      ·have e2 : setF U (nBEGIN :: (seen ++ [n])) e n v = setE U e n v:=by unfold setF; rw [if_neg h1,if_neg h2]
       rw [if_neg h4,if_neg h4,if_pos ((all9_iff _).2 (Or.inr (Or.inr h3))),e2]
       cases hv : setE U e n v with
       | none => rfl
       | some e' =>
        simp only [Option.map_some]
        rw [if_neg h2]
        exact goF_go U t (i + 1) e' (seen ++ [n]) fun x hx => (List.mem_append.1 hx).elim (hs x) fun g => (List.mem_singleton.1 g) ▸ h3
     ·have h4 : n ∉ seen:=fun g => h3 (hs _ g)
      have h5 : n ∉ all9:=fun g => ((all9_iff _).1 g).elim h1 fun g => g.elim h2 h3
      rw [if_neg h3,if_neg h4,if_neg h5]
      simp only
      rw [if_neg h2]
      exact goF_go U t (i + 1) e seen hs
theorem goF_read (U : Un) (l : List Tx) : goF U 0 e0 [] l = readE U l:=by
 cases l with
 | nil => rw [goF,readE]
 | cons h t =>
  rw [goF,readE]
  cases hl : lineE h with
  | none => rfl
  | some p =>
   obtain ⟨n,v⟩:=p
   simp only
   by_cases h1 : n = nBEGIN
   ·subst h1
    have e1 : takeF U e0 [] nBEGIN v = (if decide (capE v = wEV) = true then some e0 else none).map fun e' => (e',[nBEGIN]):=by
     unfold takeF setF
     rw [decide_eq_true rfl,decide_eq_true rfl,if_neg (by decide),if_neg (by simp),if_pos (by decide),if_pos rfl]
     rfl
    rw [e1]
    by_cases hc : capE v = wEV
    ·rw [if_pos (decide_eq_true hc),if_pos ⟨rfl,hc⟩]
     simp only [Option.map_some]
     rw [if_neg (by decide)]
     exact goF_go U t 1 e0 [] (fun _ h => by cases h)
    ·rw [if_neg (by simpa using hc),if_neg (fun g => hc g.2)]
     rfl
   ·have e1 : takeF U e0 [] n v = none:=by
     unfold takeF
     rw [decide_eq_true rfl,decide_eq_false h1,if_pos (by decide)]
    rw [e1,if_neg (fun g => h1 g.1)]
theorem goF_none {U : Un} {l : List Tx} {j i : Nat} {e : E} {seen : List Tx} (h : j < l.length) (hl : lineE l[j] = none) : goF U i e seen (l.drop j) = (none,i):=by
 rw [drop_at h,goF,hl]
theorem goF_bad {U : Un} {l : List Tx} {j i : Nat} {e : E} {seen : List Tx} {n v : Tx} (h : j < l.length) (hl : lineE l[j] = some (n,v)) (hv : takeF U e seen n v = none) : goF U i e seen (l.drop j) = (none,i):=by
 rw [drop_at h,goF,hl]; simp only; rw [hv]
theorem goF_end {U : Un} {l : List Tx} {j i : Nat} {e e' : E} {seen s' : List Tx} {v : Tx} (h : j < l.length) (hl : lineE l[j] = some (nEND,v)) (hv : takeF U e seen nEND v = some (e',s')) : goF U i e seen (l.drop j) = (some e',i + 1):=by
 rw [drop_at h,goF,hl]; simp only; rw [hv]; simp only [if_true]
theorem goF_next {U : Un} {l : List Tx} {j i : Nat} {e e' : E} {seen s' : List Tx} {n v : Tx} (h : j < l.length) (hl : lineE l[j] = some (n,v)) (hv : takeF U e seen n v = some (e',s')) (hn : n ≠ nEND) : goF U i e seen (l.drop j) = goF U (i + 1) e' s' (l.drop (j + 1)):=by
 rw [drop_at h,goF,hl]; simp only; rw [hv]; simp only; rw [if_neg hn]
theorem goF_out {U : Un} {l : List Tx} {i : Nat} {e : E} {seen : List Tx} : goF U i e seen (l.drop l.length) = (none,i):=by
 rw [List.drop_length,goF]
theorem setE_0 (U : Un) (e : E) (v : Tx) : setE U e nUID v = if uidB v = true then some { e with uid:=v } else none:=by unfold setE; rw [if_pos rfl]
theorem setE_1 (U : Un) (e : E) (v : Tx) : setE U e nSTART v = (U.f v).map fun m => { e with st:=m }:=by unfold setE; rw [if_neg (by decide),if_pos rfl]
theorem setE_2 (U : Un) (e : E) (v : Tx) : setE U e nLONG v = (longE v).map fun m => { e with lg:=m }:=by unfold setE; rw [if_neg (by decide),if_neg (by decide),if_pos rfl]
theorem setE_3 (U : Un) (e : E) (v : Tx) : setE U e nRULE v = (ansC U v).map fun r => { e with r:=r }:=by unfold setE; rw [if_neg (by decide),if_neg (by decide),if_neg (by decide),if_pos rfl]
theorem setE_4 (U : Un) (e : E) (v : Tx) : setE U e nEX v = (exE U v).map fun l => { e with ex:=l }:=by unfold setE; rw [if_neg (by decide),if_neg (by decide),if_neg (by decide),if_neg (by decide),if_pos rfl]
theorem setE_5 (U : Un) (e : E) (v : Tx) : setE U e nROOMS v = (roomsE v).map fun l => { e with rooms:=l }:=by unfold setE; rw [if_neg (by decide),if_neg (by decide),if_neg (by decide),if_neg (by decide),if_neg (by decide),if_pos rfl]
theorem setE_6 (U : Un) (e : E) (v : Tx) : setE U e nTEXT v = (textE v).map fun t => { e with text:=t }:=by unfold setE; rw [if_neg (by decide),if_neg (by decide),if_neg (by decide),if_neg (by decide),if_neg (by decide),if_neg (by decide),if_pos rfl]
end Go.Proofs.YtgdjeddelcfgeaaGreatDoor.Ev
namespace Go.Proofs.YtgdjeddelcfgeaaGreatDoor.Ev
open Go.Proofs.YtgdjeddelcfgeaaGreatDoor Rul Rt Fo Li

def says (e : E) : Fld → Prop
 | .uid t => e.uid = t
 | .st n => e.st = n
 | .lg n => e.lg = n
 | .ru r => e.r = r
 | .ex l => e.ex = l
 | .ro l => e.rooms = l
 | .tx t => e.text = t
theorem says_keep (e : E) (p q : Fld) (h : p.tag ≠ q.tag) (k : says e p) : says (q.put e) p:=by cases p <;> cases q <;> first | exact k | exact absurd rfl h
theorem says_foldl (p : Fld) : ∀ (ps : List Fld) (e : E),(∀ q ∈ ps,p.tag ≠ q.tag) → says e p → says (ps.foldl Fld.put e) p
 | [],_,_,h => h
 | q :: ps,e,hn,h => says_foldl p ps (q.put e) (fun x hx => hn x (List.mem_cons_of_mem _ hx)) (says_keep e p q (hn q List.mem_cons_self) h)
theorem tags_all (e : E) : ((allF e).map Fld.tag).Nodup:=by
 have : (allF e).map Fld.tag = [0,1,2,3,4,5,6]:=rfl
 rw [this]; decide
theorem fold_perm : ∀ {ps qs : List Fld},ps.Perm qs → (ps.map Fld.tag).Nodup → ∀ e : E,ps.foldl Fld.put e = qs.foldl Fld.put e:=by
 intro ps qs h
 induction h with
 | nil => intros; rfl
 | cons p _ ih => intro hn e; exact ih (by rw [List.map_cons,List.nodup_cons] at hn; exact hn.2) (p.put e)
 | swap p q l =>
  intro hn e
  have hne : q.tag ≠ p.tag:=by
   rw [List.map_cons,List.map_cons,List.nodup_cons] at hn
   exact fun g => hn.1 (by rw [g]; exact List.mem_cons_self)
  have:=put_comm e q p hne
  simp only [List.foldl_cons]
  rw [this]
 | trans h1 _ ih1 ih2 =>
  intro hn e
  rw [ih1 hn e]
  exact ih2 ((h1.map Fld.tag).nodup_iff.1 hn) e

theorem read_first (U : Un) (h v : Tx) (t : List Tx) (hl : lineE h = some (nBEGIN,v)) (hv : capE v = wEV) : readE U (h :: t) = goE U 1 e0 [] t:=by
 rw [readE,hl]
 simp only
 rw [if_pos ⟨trivial,hv⟩]
end Go.Proofs.YtgdjeddelcfgeaaGreatDoor.Ev
namespace Go.Proofs.YtgdjeddelcfgeaaGreatDoor.Ev
open Go.Proofs.YtgdjeddelcfgeaaGreatDoor Rul Rt Fo Li

theorem no_of {e : E} (h : ¬ Is e) : isE e = false:=by rw [Bool.eq_false_iff]; exact fun g => h ((isE_iff e).1 g)
theorem lines_no (U : Un) {x : E} (h : isE x = false) : linesE U x = []:=by unfold linesE; rw [h]; rfl
end Go.Proofs.YtgdjeddelcfgeaaGreatDoor.Ev

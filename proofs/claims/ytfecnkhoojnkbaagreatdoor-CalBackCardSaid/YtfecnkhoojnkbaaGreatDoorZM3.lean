/- EvMath; EvMathC; EvMathB; EvMathD; EvMathH of the recipes, what is needed of them. -/
import Derived.Test.YtfecnkhoojnkbaaGreatDoorZM2
namespace Go.Proofs.YtfecnkhoojnkbaaGreatDoor.Ev
open Go.Proofs.YtfecnkhoojnkbaaGreatDoor Rul Rt Fo Li
structure E where
 uid : Tx
 text : Tx
 st : Int
 lg : Int
 rooms : List Int
 r : Rul.T
 ex : List Int
def uidI (x : Int) : Bool:=btw 97 x 122 || (btw 65 x 90 || (btw 48 x 57 || x == 45))
def textI (x : Int) : Bool:=btw 32 x 126 || x == 10
def uidC (c : UInt8) : Bool:=uidI (c.toNat : Int)
def textC (c : UInt8) : Bool:=textI (c.toNat : Int)
def uidB (s : Tx) : Bool:=decide (1 <= s.length /\ s.length <= 12) && s.all uidC
def textB (s : Tx) : Bool:=decide (s.length <= 40) && s.all textC
def minB (n : Int) : Bool:=decide (0 <= n /\ n < 52596000)
def lgB (n : Int) : Bool:=btw 1 n 10080
def roomB (n : Int) : Bool:=btw 0 n 7
def roomsB (l : List Int) : Bool:=decide (1 <= l.length /\ l.length <= 4) && ascB roomB inLt 0 l
def exB (l : List Int) : Bool:=listB minB inLt 0 l
def wordsB (e : E) : Bool:=uidB e.uid && textB e.text
def freeB (e : E) : Bool:=decide (e.ex.length = 0) || !sameB e.r once
def timesB (e : E) : Bool:=minB e.st && (lgB e.lg && (isB e.r && (exB e.ex && freeB e)))
def isE (e : E) : Bool:=wordsB e && (timesB e && roomsB e.rooms)
def sameE (a b : E) : Bool:=decide (a.uid = b.uid) && (decide (a.text = b.text) && (decide (a.st = b.st) && (decide (a.lg = b.lg) && (sameB a.r b.r && (decide (a.ex = b.ex) && decide (a.rooms = b.rooms))))))
theorem sameE_iff (a b : E) : sameE a b = true ↔ a = b:=by
 obtain ⟨u,t,s,l,o,r,x⟩:=a
 obtain ⟨u',t',s',l',o',r',x'⟩:=b
 simp only [sameE,Bool.and_eq_true,decide_eq_true_eq,sameB_iff,E.mk.injEq]
 exact ⟨fun ⟨a,b,c,d,e,f,g⟩ => ⟨a,b,c,d,g,e,f⟩,fun ⟨a,b,c,d,g,e,f⟩ => ⟨a,b,c,d,e,f,g⟩⟩
theorem sameE_self (a : E) : sameE a a = true:=(sameE_iff a a).2 rfl
structure Is (e : E) : Prop where
 uid : uidB e.uid = true
 text : textB e.text = true
 st : minB e.st = true
 lg : lgB e.lg = true
 r : isB e.r = true
 ex : exB e.ex = true
 free : e.ex = [] ∨ e.r ≠ once
 rooms : roomsB e.rooms = true
theorem isE_iff (e : E) : isE e = true ↔ Is e:=by
 have hf : freeB e = true ↔ (e.ex = [] ∨ e.r ≠ once):=by
  unfold freeB
  rw [Bool.or_eq_true,decide_eq_true_eq,List.length_eq_zero_iff,Bool.not_eq_true',<- Bool.not_eq_true,sameB_iff]
 unfold isE wordsB timesB
 simp only [Bool.and_eq_true,hf]
 exact ⟨fun ⟨⟨a,b⟩,⟨c,d,e,f,g⟩,h⟩ => ⟨a,b,c,d,e,f,g,h⟩,fun h => ⟨⟨h.uid,h.text⟩,⟨h.st,h.lg,h.r,h.ex,h.free⟩,h.rooms⟩⟩
theorem uidB_len {s : Tx} (h : uidB s = true) : 1 <= s.length /\ s.length <= 12:=by
 unfold uidB at h; rw [Bool.and_eq_true,decide_eq_true_eq] at h; exact h.1
theorem textB_len {s : Tx} (h : textB s = true) : s.length <= 40:=by
 unfold textB at h; rw [Bool.and_eq_true,decide_eq_true_eq] at h; exact h.1
theorem minB_iff (n : Int) : minB n = true ↔ 0 <= n /\ n < 52596000:=by unfold minB; exact decide_eq_true_iff
theorem exB_iff (l : List Int) : exB l = true ↔ l.length <= 12 /\ (∀ x ∈ l,minB x = true) /\ strict inLt l:=listB_iff ordI 0 l
theorem asc_iff (p : Int -> Bool) (l : List Int) (h : l.length <= 12) : ascB p inLt 0 l = true ↔ (∀ x ∈ l,p x = true) /\ strict inLt l:=by
 have:=listB_iff (p:=p) ordI 0 l
 unfold listB at this
 rw [decide_eq_true h,Bool.true_and] at this
 rw [this]
 exact ⟨fun g => g.2,fun g => ⟨h,g⟩⟩
theorem roomsB_iff (l : List Int) : roomsB l = true ↔ (1 <= l.length /\ l.length <= 4) /\ (∀ x ∈ l,roomB x = true) /\ strict inLt l:=by
 unfold roomsB
 rw [Bool.and_eq_true,decide_eq_true_eq]
 constructor
 ·rintro ⟨h,g⟩; exact ⟨h,(asc_iff roomB l (by omega)).1 g⟩
 ·rintro ⟨h,g⟩; exact ⟨h,(asc_iff roomB l (by omega)).2 g⟩
def nBEGIN : Tx:=[66,69,71,73,78]
def nUID : Tx:=[85,73,68]
def nSTART : Tx:=[68,84,83,84,65,82,84]
def nLONG : Tx:=[68,85,82,65,84,73,79,78]
def nRULE : Tx:=[82,82,85,76,69]
def nEX : Tx:=[69,88,68,65,84,69]
def nROOMS : Tx:=[88,45,82,79,79,77,83]
def nTEXT : Tx:=[83,85,77,77,65,82,89]
def nEND : Tx:=[69,78,68]
def wEV : Tx:=[86,69,86,69,78,84]
def known7 : List Tx:=[nUID,nSTART,nLONG,nROOMS,nRULE,nEX,nTEXT]
def wPT : Tx:=[80,84]
def longT (n : Int) : Tx:=wPT ++ Lib.itoa n ++ [77]
def within (v : Tx) : Tx:=(v.drop 2).dropLast
def longForm (v : Tx) : Bool:=decide (v.take 2 = wPT) && (decide (3 <= v.length) && decide (v.getLast? = some 77))
def keepI (p : Int -> Bool) (o : Option Int) : Option Int:=match o with
 | some n => if p n = true then some n else none
 | none => none
theorem keepI_some {p : Int -> Bool} {o : Option Int} {n : Int} : keepI p o = some n ↔ o = some n /\ p n = true:=by
 unfold keepI
 cases o with
 | none => simp
 | some m =>
  simp only [Option.some.injEq]
  split
  ·rename_i h; constructor
   ·intro g; injection g with g; subst g; exact ⟨rfl,h⟩
   ·rintro ⟨rfl,_⟩; rfl
  ·rename_i h; constructor
   ·intro g; cases g
   ·rintro ⟨rfl,g⟩; exact absurd g h
def longE (v : Tx) : Option Int:=if longForm v = true then keepI lgB (numC (within v)) else none
theorem long_back (n : Int) (h : lgB n = true) : longE (longT n) = some n:=by
 have hf : longForm (longT n) = true:=by
  unfold longForm
  rw [Bool.and_eq_true,Bool.and_eq_true,decide_eq_true_eq,decide_eq_true_eq,decide_eq_true_eq]
  refine ⟨by simp [longT,wPT],?_,by simp [longT]⟩
  have:=itoa_ne n
  cases hi : Lib.itoa n with
  | nil => exact absurd hi this
  | cons a b => simp [longT,wPT,hi]
 have hw : within (longT n) = Lib.itoa n:=by simp [within,longT,wPT]
 unfold longE
 rw [if_pos hf,hw,keepI_some,numC_iff]
 have g2:=h
 rw [lgB,btw_iff] at g2
 exact ⟨⟨rfl,by unfold in64; omega⟩,h⟩
def listN {α : Type} (k : Nat) (lt : α -> α -> Bool) (f : Tx -> Option α) (t : Tx) : Option (List α):=(allSome f (Lib.splitN t [44] k)).map (srt lt)
theorem list_backN {α : Type} {lt : α -> α -> Bool} (o : Ord lt) (k : Nat) (f : Tx -> Option α) (g : α -> Tx) (ok : α -> Bool) (hg : ∀ x,ok x = true -> f (g x) = some x) (hfree : ∀ x,(44 : UInt8) ∉ g x) (l : List α) (h12 : l.length <= k + 1) (hall : ∀ x ∈ l,ok x = true) (hs : strict lt l) (hne : l ≠ []) : listN (k + 1) lt f (listT g l) = some l:=by
 unfold listN listT
 have hc : cutAt 44 (joinAt 44 (l.map g)) = l.map g:=cut_join 44 _ (by simpa using hne) (fun p hp => by
  obtain ⟨x,_,rfl⟩:=List.mem_map.1 hp; exact hfree x)
 rcases splitN_cut 44 k (joinAt 44 (l.map g)) with ⟨h1,_⟩ | ⟨_,h2,_⟩
 ·rw [h1,hc]
  have : allSome f (l.map g) = some l:=by
   rw [allSome_iff,List.map_map]
   exact List.map_congr_left fun x hx => hg x (hall x hx)
  rw [this,Option.map_some,srt_self o hs]
 ·rw [hc,List.length_map] at h2; omega
def keepL (p : List Int -> Bool) (o : Option (List Int)) : Option (List Int):=match o with
 | some l => if p l = true then some l else none
 | none => none
theorem keepL_some {p : List Int -> Bool} {o : Option (List Int)} {l : List Int} : keepL p o = some l ↔ o = some l /\ p l = true:=by
 unfold keepL
 cases o with
 | none => simp
 | some m =>
  simp only [Option.some.injEq]
  split
  ·rename_i h; constructor
   ·intro g; injection g with g; subst g; exact ⟨rfl,h⟩
   ·rintro ⟨rfl,_⟩; rfl
  ·rename_i h; constructor
   ·intro g; cases g
   ·rintro ⟨rfl,g⟩; exact absurd g h
structure Good (U : Un) : Prop where
 comma : ∀ v n,U.f v = some n -> (44 : UInt8) ∉ v
 range : ∀ v n,U.f v = some n -> 0 <= n /\ n < 52596000
 free : ∀ n,(44 : UInt8) ∉ U.text n
def exE (U : Un) (v : Tx) : Option (List Int):=keepL exB (listN 13 inLt U.f v)
def roomsE (v : Tx) : Option (List Int):=keepL roomsB (listN 5 inLt numC v)
def textE (v : Tx) : Option Tx:=match unE v with
 | some s => if textB s = true then some s else none
 | none => none
theorem text_back (s : Tx) (h : textB s = true) : textE (escE s) = some s:=by unfold textE; rw [unE_escE]; simp only [h,if_true]
def setE (U : Un) (e : E) (n v : Tx) : Option E :=
 if n = nUID then (if uidB v = true then some { e with uid:=v } else none)
 else if n = nSTART then (U.f v).map fun m => { e with st:=m }
 else if n = nLONG then (longE v).map fun m => { e with lg:=m }
 else if n = nRULE then (ansC U v).map fun r => { e with r:=r }
 else if n = nEX then (exE U v).map fun l => { e with ex:=l }
 else if n = nROOMS then (roomsE v).map fun l => { e with rooms:=l }
 else if n = nTEXT then (textE v).map fun t => { e with text:=t }
 else none
def e0 : E:=⟨[],[],0,0,[],once,[]⟩
def hasAll (seen : List Tx) : Bool:=decide (nUID ∈ seen) && (decide (nSTART ∈ seen) && (decide (nLONG ∈ seen) && decide (nROOMS ∈ seen)))
def goE (U : Un) : Nat -> E -> List Tx -> List Tx -> Option E × Nat
 | i,_,_,[] => (none,i)
 | i,e,seen,h :: t => match lineE h with
  | none => (none,i)
  | some (n,v) =>
   if n = nBEGIN then (none,i)
   else if n = nEND then (if decide (capE v = wEV) && (hasAll seen && isE e) then (some e,i + 1) else (none,i))
   else if n ∈ known7 then (if n ∈ seen then (none,i) else match setE U e n v with
    | none => (none,i)
    | some e' => goE U (i + 1) e' (seen ++ [n]) t)
   else goE U (i + 1) e seen t
def readE (U : Un) : List Tx -> Option E × Nat
 | [] => (none,0)
 | h :: t => match lineE h with
  | none => (none,0)
  | some (n,v) => if n = nBEGIN /\ capE v = wEV then goE U 1 e0 [] t else (none,0)
theorem drop_at {l : List Tx} {j : Nat} (h : j < l.length) : l.drop j = l[j] :: l.drop (j + 1):=List.drop_eq_getElem_cons h
theorem known_not {n : Tx} (h : n ∈ known7) : n ≠ nBEGIN /\ n ≠ nEND:=by
 have : ∀ n ∈ known7,n ≠ nBEGIN /\ n ≠ nEND:=by decide
 exact this n h
def line2 (p : Tx × Tx) : Tx:=p.1 ++ 58 :: p.2
def items (U : Un) (e : E) : List (Tx × Tx):=[(nBEGIN,wEV),(nUID,e.uid),(nSTART,U.text e.st),(nLONG,longT e.lg),(nRULE,printE U e.r),(nEX,listT U.text e.ex),(nROOMS,listT Lib.itoa e.rooms),(nTEXT,escE e.text),(nEND,wEV)]
def wri (l : List (Tx × Tx)) : List Tx:=(l.filter fun p => decide (p.2 ≠ [])).map line2
def linesE (U : Un) (e : E) : List Tx:=if isE e = true then wri (items U e) else []
inductive Fld where
 | uid (t : Tx)
 | st (n : Int)
 | lg (n : Int)
 | ru (r : Rul.T)
 | ex (l : List Int)
 | ro (l : List Int)
 | tx (t : Tx)
def Fld.tag : Fld -> Nat
 | .uid _ => 0
 | .st _ => 1
 | .lg _ => 2
 | .ru _ => 3
 | .ex _ => 4
 | .ro _ => 5
 | .tx _ => 6
def Fld.name : Fld -> Tx
 | .uid _ => nUID
 | .st _ => nSTART
 | .lg _ => nLONG
 | .ru _ => nRULE
 | .ex _ => nEX
 | .ro _ => nROOMS
 | .tx _ => nTEXT
def Fld.put (e : E) : Fld -> E
 | .uid t => { e with uid:=t }
 | .st n => { e with st:=n }
 | .lg n => { e with lg:=n }
 | .ru r => { e with r:=r }
 | .ex l => { e with ex:=l }
 | .ro l => { e with rooms:=l }
 | .tx t => { e with text:=t }
def Fld.val (U : Un) : Fld -> Tx
 | .uid t => t
 | .st n => U.text n
 | .lg n => longT n
 | .ru r => printE U r
 | .ex l => listT U.text l
 | .ro l => listT Lib.itoa l
 | .tx t => escE t
def Fld.pair (U : Un) (p : Fld) : Tx × Tx:=(p.name,p.val U)
def allF (e : E) : List Fld:=[.uid e.uid,.st e.st,.lg e.lg,.ru e.r,.ex e.ex,.ro e.rooms,.tx e.text]
def flds (U : Un) (e : E) : List Fld:=(allF e).filter fun p => decide (p.val U ≠ [])
def lns (U : Un) (ps : List Fld) : List Tx:=ps.map fun p => line2 (p.pair U)
def firstL : Tx:=line2 (nBEGIN,wEV)
def lastL : Tx:=line2 (nEND,wEV)
theorem lines_flds (U : Un) (e : E) (h : isE e = true) : linesE U e = firstL :: (lns U (flds U e) ++ [lastL]):=by
 unfold linesE
 rw [if_pos h]
 have e1 : items U e = (nBEGIN,wEV) :: ((allF e).map (Fld.pair U) ++ [(nEND,wEV)]):=rfl
 unfold wri
 rw [e1,List.filter_cons_of_pos (by decide),List.filter_append,List.map_cons,List.map_append,List.filter_map,List.map_map]
 rfl
theorem name_tag (p q : Fld) : p.name = q.name ↔ p.tag = q.tag:=by cases p <;> cases q <;> simp [Fld.name,Fld.tag] <;> decide
theorem name_known (p : Fld) : p.name ∈ known7:=by cases p <;> simp [Fld.name,known7]
theorem put_comm (e : E) (p q : Fld) (h : p.tag ≠ q.tag) : (p.put e |> q.put) = (q.put e |> p.put):=by cases p <;> cases q <;> first | rfl | exact absurd rfl h
theorem line_name (p : Fld) (U : Un) : lineE (line2 (p.pair U)) = some (p.name,p.val U):=by
 have hn : nameE p.name = true:=by cases p <;> simp only [Fld.name] <;> decide
 exact (mix_start p.name hn).line hn (p.val U)
theorem name_line (n v : Tx) (hn : nameE n = true) : lineE (n ++ 58 :: v) = some (n,v):=(mix_start n hn).line hn v
end Go.Proofs.YtfecnkhoojnkbaaGreatDoor.Ev
namespace Go.Proofs.YtfecnkhoojnkbaaGreatDoor.Ev
open Go.Proofs.YtfecnkhoojnkbaaGreatDoor Rul Rt Fo Li
def all9 : List Tx:=[nBEGIN,nUID,nSTART,nLONG,nRULE,nEX,nROOMS,nTEXT,nEND]
def setF (U : Un) (seen : List Tx) (e : E) (n t : Tx) : Option E :=
 if n = nBEGIN then (if decide (capE t = wEV) = true then some e else none)
 else if n = nEND then (if (decide (capE t = wEV) && (hasAll seen && isE e)) = true then some e else none)
 else setE U e n t
def takeF (U : Un) (e : E) (seen : List Tx) (n t : Tx) : Option (E × List Tx) :=
 if (decide (seen = []) != decide (n = nBEGIN)) = true then none
 else if n ∈ seen then none
 else if n ∈ all9 then (setF U (seen ++ [n]) e n t).map fun e' => (e',seen ++ [n])
 else some (e,seen)
def goF (U : Un) : Nat -> E -> List Tx -> List Tx -> Option E × Nat
 | i,_,_,[] => (none,i)
 | i,e,seen,h :: t => match lineE h with
  | none => (none,i)
  | some (n,v) => match takeF U e seen n v with
   | none => (none,i)
   | some (e',seen') => if n = nEND then (some e',i + 1) else goF U (i + 1) e' seen' t
theorem all9_iff (n : Tx) : n ∈ all9 ↔ n = nBEGIN ∨ n = nEND ∨ n ∈ known7:=by
 unfold all9 known7
 simp only [List.mem_cons,List.not_mem_nil,or_false]
 constructor
 ·rintro (h | h | h | h | h | h | h | h | h) <;> simp [h]
 ·rintro (h | h | h | h | h | h | h | h | h) <;> simp [h]
theorem has_more (seen : List Tx) (x : Tx) (hx : x ∉ [nUID,nSTART,nLONG,nROOMS]) : hasAll (seen ++ [x]) = hasAll seen:=by
 have h : ∀ y ∈ [nUID,nSTART,nLONG,nROOMS],(decide (y ∈ seen ++ [x])) = decide (y ∈ seen):=fun y hy => by
  rw [decide_eq_decide,List.mem_append,List.mem_singleton]
  exact ⟨fun g => g.resolve_right fun e => hx (e ▸ hy),Or.inl⟩
 unfold hasAll
 rw [h nUID (by simp),h nSTART (by simp),h nLONG (by simp),h nROOMS (by simp)]
theorem has_first (seen : List Tx) (x : Tx) (hx : x ∉ [nUID,nSTART,nLONG,nROOMS]) : hasAll (x :: seen) = hasAll seen:=by
 have h : ∀ y ∈ [nUID,nSTART,nLONG,nROOMS],(decide (y ∈ x :: seen)) = decide (y ∈ seen):=fun y hy => by
  rw [decide_eq_decide,List.mem_cons]
  exact ⟨fun g => g.resolve_left fun e => hx (e ▸ hy),Or.inr⟩
 unfold hasAll
 rw [h nUID (by simp),h nSTART (by simp),h nLONG (by simp),h nROOMS (by simp)]
theorem goF_go (U : Un) : ∀ (l : List Tx) (i : Nat) (e : E) (seen : List Tx),(∀ x ∈ seen,x ∈ known7) -> goF U i e (nBEGIN :: seen) l = goE U i e seen l
 | [],i,e,seen,_ => by rw [goF,goE]
 | h :: t,i,e,seen,hs => by
  rw [goF,goE]
  cases hl : lineE h with
  | none => rfl
  | some p =>
   obtain ⟨n,v⟩:=p
   simp only
   have d0 : decide (nBEGIN :: seen = []) = false:=by simp
   by_cases h1 : n = nBEGIN
   ·subst h1
    have : takeF U e (nBEGIN :: seen) nBEGIN v = none:=by
     unfold takeF; rw [d0,decide_eq_true rfl,if_pos (by decide)]
    rw [this,if_pos rfl]
   ·have d1 : decide (n = nBEGIN) = false:=decide_eq_false h1
    rw [if_neg h1]
    have e1 : takeF U e (nBEGIN :: seen) n v = if n ∈ seen then none else if n ∈ all9 then (setF U (nBEGIN :: (seen ++ [n])) e n v).map fun e' => (e',nBEGIN :: (seen ++ [n])) else some (e,nBEGIN :: seen):=by
     unfold takeF
     rw [d0,d1,if_neg (by decide)]
     have : (n ∈ nBEGIN :: seen) = (n ∈ seen):=by
      rw [eq_iff_iff,List.mem_cons]; exact ⟨fun g => g.resolve_left h1,Or.inr⟩
     simp only [this,List.cons_append]
    rw [e1]
    clear e1 d0 d1
    by_cases h2 : n = nEND
    ·subst h2
     have hn : nEND ∉ seen:=fun g => (known_not (hs _ g)).2 rfl
     have e2 : setF U (nBEGIN :: (seen ++ [nEND])) e nEND v = if (decide (capE v = wEV) && (hasAll seen && isE e)) = true then some e else none:=by
      unfold setF
      rw [if_neg h1,if_pos rfl,has_first _ _ (by decide),has_more _ _ (by decide)]
     rw [if_neg hn,if_pos ((all9_iff _).2 (Or.inr (Or.inl rfl))),if_pos rfl,e2]
     by_cases hc : (decide (capE v = wEV) && (hasAll seen && isE e)) = true
     ·simp only [if_pos hc,Option.map_some,if_true]
     ·simp only [if_neg hc,Option.map_none]
    ·rw [if_neg h2]
     by_cases h3 : n ∈ known7
     ·rw [if_pos h3]
      by_cases h4 : n ∈ seen
      ·rw [if_pos h4,if_pos h4]
      ·have e2 : setF U (nBEGIN :: (seen ++ [n])) e n v = setE U e n v:=by unfold setF; rw [if_neg h1,if_neg h2]
       rw [if_neg h4,if_neg h4,if_pos ((all9_iff _).2 (Or.inr (Or.inr h3))),e2]
       cases hv : setE U e n v with
       | none => rfl
       | some e' =>
        simp only [Option.map_some]
        rw [if_neg h2]
        exact goF_go U t (i + 1) e' (seen ++ [n]) fun x hx => (List.mem_append.1 hx).elim (hs x) fun g => (List.mem_singleton.1 g) ▸ h3
     ·have h4 : n ∉ seen:=fun g => h3 (hs _ g)
      have h5 : n ∉ all9:=fun g => ((all9_iff _).1 g).elim h1 fun g => g.elim h2 h3
      rw [if_neg h3,if_neg h4,if_neg h5]
      simp only
      rw [if_neg h2]
      exact goF_go U t (i + 1) e seen hs
theorem goF_read (U : Un) (l : List Tx) : goF U 0 e0 [] l = readE U l:=by
 cases l with
 | nil => rw [goF,readE]
 | cons h t =>
  rw [goF,readE]
  cases hl : lineE h with
  | none => rfl
  | some p =>
   obtain ⟨n,v⟩:=p
   simp only
   by_cases h1 : n = nBEGIN
   ·subst h1
    have e1 : takeF U e0 [] nBEGIN v = (if decide (capE v = wEV) = true then some e0 else none).map fun e' => (e',[nBEGIN]):=by
     unfold takeF setF
     rw [decide_eq_true rfl,decide_eq_true rfl,if_neg (by decide),if_neg (by simp),if_pos (by decide),if_pos rfl]
     rfl
    rw [e1]
    by_cases hc : capE v = wEV
    ·rw [if_pos (decide_eq_true hc),if_pos ⟨rfl,hc⟩]
     simp only [Option.map_some]
     rw [if_neg (by decide)]
     exact goF_go U t 1 e0 [] (fun _ h => by cases h)
    ·rw [if_neg (by simpa using hc),if_neg (fun g => hc g.2)]
     rfl
   ·have e1 : takeF U e0 [] n v = none:=by
     unfold takeF
     rw [decide_eq_true rfl,decide_eq_false h1,if_pos (by decide)]
    rw [e1,if_neg (fun g => h1 g.1)]
theorem goF_none {U : Un} {l : List Tx} {j i : Nat} {e : E} {seen : List Tx} (h : j < l.length) (hl : lineE l[j] = none) : goF U i e seen (l.drop j) = (none,i):=by
 rw [drop_at h,goF,hl]
theorem goF_bad {U : Un} {l : List Tx} {j i : Nat} {e : E} {seen : List Tx} {n v : Tx} (h : j < l.length) (hl : lineE l[j] = some (n,v)) (hv : takeF U e seen n v = none) : goF U i e seen (l.drop j) = (none,i):=by
 rw [drop_at h,goF,hl]; simp only; rw [hv]
theorem goF_end {U : Un} {l : List Tx} {j i : Nat} {e e' : E} {seen s' : List Tx} {v : Tx} (h : j < l.length) (hl : lineE l[j] = some (nEND,v)) (hv : takeF U e seen nEND v = some (e',s')) : goF U i e seen (l.drop j) = (some e',i + 1):=by
 rw [drop_at h,goF,hl]; simp only; rw [hv]; simp only [if_true]
theorem goF_next {U : Un} {l : List Tx} {j i : Nat} {e e' : E} {seen s' : List Tx} {n v : Tx} (h : j < l.length) (hl : lineE l[j] = some (n,v)) (hv : takeF U e seen n v = some (e',s')) (hn : n ≠ nEND) : goF U i e seen (l.drop j) = goF U (i + 1) e' s' (l.drop (j + 1)):=by
 rw [drop_at h,goF,hl]; simp only; rw [hv]; simp only; rw [if_neg hn]
theorem goF_out {U : Un} {l : List Tx} {i : Nat} {e : E} {seen : List Tx} : goF U i e seen (l.drop l.length) = (none,i):=by
 rw [List.drop_length,goF]
theorem setE_0 (U : Un) (e : E) (v : Tx) : setE U e nUID v = if uidB v = true then some { e with uid:=v } else none:=by unfold setE; rw [if_pos rfl]
theorem setE_1 (U : Un) (e : E) (v : Tx) : setE U e nSTART v = (U.f v).map fun m => { e with st:=m }:=by unfold setE; rw [if_neg (by decide),if_pos rfl]
theorem setE_2 (U : Un) (e : E) (v : Tx) : setE U e nLONG v = (longE v).map fun m => { e with lg:=m }:=by unfold setE; rw [if_neg (by decide),if_neg (by decide),if_pos rfl]
theorem setE_3 (U : Un) (e : E) (v : Tx) : setE U e nRULE v = (ansC U v).map fun r => { e with r:=r }:=by unfold setE; rw [if_neg (by decide),if_neg (by decide),if_neg (by decide),if_pos rfl]
theorem setE_4 (U : Un) (e : E) (v : Tx) : setE U e nEX v = (exE U v).map fun l => { e with ex:=l }:=by unfold setE; rw [if_neg (by decide),if_neg (by decide),if_neg (by decide),if_neg (by decide),if_pos rfl]
theorem setE_5 (U : Un) (e : E) (v : Tx) : setE U e nROOMS v = (roomsE v).map fun l => { e with rooms:=l }:=by unfold setE; rw [if_neg (by decide),if_neg (by decide),if_neg (by decide),if_neg (by decide),if_neg (by decide),if_pos rfl]
theorem setE_6 (U : Un) (e : E) (v : Tx) : setE U e nTEXT v = (textE v).map fun t => { e with text:=t }:=by unfold setE; rw [if_neg (by decide),if_neg (by decide),if_neg (by decide),if_neg (by decide),if_neg (by decide),if_neg (by decide),if_pos rfl]
end Go.Proofs.YtfecnkhoojnkbaaGreatDoor.Ev
namespace Go.Proofs.YtfecnkhoojnkbaaGreatDoor.Ev
open Go.Proofs.YtfecnkhoojnkbaaGreatDoor Rul Rt Fo Li
def says (e : E) : Fld -> Prop
 | .uid t => e.uid = t
 | .st n => e.st = n
 | .lg n => e.lg = n
 | .ru r => e.r = r
 | .ex l => e.ex = l
 | .ro l => e.rooms = l
 | .tx t => e.text = t
theorem put_same {e : E} {p : Fld} (h : says e p) : p.put e = e:=by
 obtain ⟨u,t,s,l,o,r,x⟩:=e
 cases p <;> simp only [says] at h <;> subst h <;> rfl
theorem says_keep (e : E) (p q : Fld) (h : p.tag ≠ q.tag) (k : says e p) : says (q.put e) p:=by cases p <;> cases q <;> first | exact k | exact absurd rfl h
theorem says_foldl (p : Fld) : ∀ (ps : List Fld) (e : E),(∀ q ∈ ps,p.tag ≠ q.tag) -> says e p -> says (ps.foldl Fld.put e) p
 | [],_,_,h => h
 | q :: ps,e,hn,h => says_foldl p ps (q.put e) (fun x hx => hn x (List.mem_cons_of_mem _ hx)) (says_keep e p q (hn q List.mem_cons_self) h)
theorem tags_all (e : E) : ((allF e).map Fld.tag).Nodup:=by
 have : (allF e).map Fld.tag = [0,1,2,3,4,5,6]:=rfl
 rw [this]; decide
theorem tags_flds (U : Un) (e : E) : ((flds U e).map Fld.tag).Nodup:=by
 unfold flds
 exact List.Sublist.nodup (List.Sublist.map Fld.tag List.filter_sublist) (tags_all e)
theorem fold_perm : ∀ {ps qs : List Fld},ps.Perm qs -> (ps.map Fld.tag).Nodup -> ∀ e : E,ps.foldl Fld.put e = qs.foldl Fld.put e:=by
 intro ps qs h
 induction h with
 | nil => intros; rfl
 | cons p _ ih => intro hn e; exact ih (by rw [List.map_cons,List.nodup_cons] at hn; exact hn.2) (p.put e)
 | swap p q l =>
  intro hn e
  have hne : q.tag ≠ p.tag:=by
   rw [List.map_cons,List.map_cons,List.nodup_cons] at hn
   exact fun g => hn.1 (by rw [g]; exact List.mem_cons_self)
  have:=put_comm e q p hne
  simp only [List.foldl_cons]
  rw [this]
 | trans h1 _ ih1 ih2 =>
  intro hn e
  rw [ih1 hn e]
  exact ih2 ((h1.map Fld.tag).nodup_iff.1 hn) e
theorem print_nil (U : Un) (r : Rul.T) (h : isB r = true) : printE U r = [] ↔ r = once:=by
 constructor
 ·intro hp
  by_cases h0 : r = once
  ·exact h0
  have hr:=rec_of h h0
  have hc : (isB r && !sameB r once) = true:=by
   rw [h,Bool.true_and,Bool.not_eq_true',<- Bool.not_eq_true,sameB_iff]; exact h0
  unfold printE at hp
  rw [if_pos hc] at hp
  have hf:=fields_ne U r hr
  cases hl : fieldsP U r with
  | nil => exact absurd hl hf
  | cons p l =>
   rw [hl,List.map_cons] at hp
   have ht : textP U p ≠ []:=by unfold textP; simp
   cases l with
   | nil => exact absurd hp ht
   | cons q l => simp [joinAt] at hp
 ·rintro rfl; rfl
theorem esc_nil (s : Tx) : escE s = [] ↔ s = []:=by
 constructor
 ·intro h
  have:=unE_escE s
  rw [h] at this
  have h2 : unE [] = some []:=rfl
  rw [h2] at this
  injection this with this
  exact this.symm
 ·rintro rfl; rfl
theorem texts_nil (U : Un) (l : List Int) (h : exB l = true) : listT U.text l = [] ↔ l = []:=by
 constructor
 ·intro hv
  cases l with
  | nil => rfl
  | cons a l =>
   have ha : U.text a ≠ []:=by
    have:=((exB_iff _).1 h).2.1 a (by simp)
    rw [minB_iff] at this
    exact U.some a this.1 this.2
   unfold listT at hv
   cases l with
   | nil => exact absurd hv ha
   | cons x l => simp [joinAt] at hv
 ·rintro rfl; rfl
theorem long_ne (n : Int) : longT n ≠ []:=by simp [longT,wPT]
theorem says_0 (U : Un) (e : E) (h : Is e) (p : Fld) (hp : p ∈ allF e) (hv : p.val U = []) : says e0 p:=by
 simp only [allF,List.mem_cons,List.not_mem_nil,or_false] at hp
 rcases hp with rfl | rfl | rfl | rfl | rfl | rfl | rfl
 ·exact hv.symm
 ·have:=(minB_iff e.st).1 h.st
  exact absurd hv (U.some _ this.1 this.2)
 ·exact absurd hv (long_ne _)
 ·exact ((print_nil U e.r h.r).1 hv).symm
 ·exact ((texts_nil U e.ex h.ex).1 hv).symm
 ·exact ((listT_nil _ itoa_ne e.rooms).1 hv).symm
 ·exact ((esc_nil _).1 hv).symm
theorem fold_flds (U : Un) (e : E) (h : Is e) : (flds U e).foldl Fld.put e0 = e:=by
 have gen : ∀ (ps : List Fld) (q : E),(ps.map Fld.tag).Nodup -> (∀ p ∈ ps,p.val U = [] -> says q p) -> (ps.filter fun p => decide (p.val U ≠ [])).foldl Fld.put q = ps.foldl Fld.put q:=by
  intro ps
  induction ps with
  | nil => intro q _ _; rfl
  | cons p ps ih =>
   intro q hn hq
   rw [List.map_cons,List.nodup_cons] at hn
   have hrest : ∀ x ∈ ps,x.tag ≠ p.tag:=fun x hx e => hn.1 (List.mem_map.2 ⟨x,hx,e⟩)
   by_cases hv : p.val U = []
   ·rw [List.filter_cons_of_neg (by simpa using hv),List.foldl_cons,put_same (hq p (by simp) hv)]
    exact ih q hn.2 fun x hx => hq x (List.mem_cons_of_mem _ hx)
   ·rw [List.filter_cons_of_pos (by simpa using hv),List.foldl_cons,List.foldl_cons]
    exact ih _ hn.2 fun x hx g => says_keep q x p (hrest x hx) (hq x (List.mem_cons_of_mem _ hx) g)
 have e1:=gen (allF e) e0 (tags_all e) (says_0 U e h)
 unfold flds
 rw [e1]
 rfl
theorem set_back (U : Un) (hU : Good U) (e : E) (h : Is e) (x : E) (p : Fld) (hp : p ∈ flds U e) : setE U x p.name (p.val U) = some (p.put x):=by
 obtain ⟨hp,hv⟩:=List.mem_filter.1 hp
 rw [decide_eq_true_eq] at hv
 simp only [allF,List.mem_cons,List.not_mem_nil,or_false] at hp
 rcases hp with rfl | rfl | rfl | rfl | rfl | rfl | rfl
 ·show setE U x nUID e.uid = _
  unfold setE
  rw [if_pos rfl,if_pos h.uid]
  rfl
 ·show setE U x nSTART (U.text e.st) = _
  have:=(minB_iff e.st).1 h.st
  unfold setE
  rw [if_neg (by decide),if_pos rfl,U.back _ this.1 this.2]
  rfl
 ·show setE U x nLONG (longT e.lg) = _
  unfold setE
  rw [if_neg (by decide),if_neg (by decide),if_pos rfl,long_back _ h.lg]
  rfl
 ·show setE U x nRULE (printE U e.r) = _
  have h0 : e.r ≠ once:=fun g => hv ((print_nil U e.r h.r).2 g)
  have hr:=rec_of h.r h0
  have hc : (isB e.r && !sameB e.r once) = true:=by
   rw [h.r,Bool.true_and,Bool.not_eq_true',<- Bool.not_eq_true,sameB_iff]; exact h0
  have hb : ansC U (printE U e.r) = some e.r:=by
   unfold printE
   rw [if_pos hc]
   exact back_perm U e.r hr _ (List.Perm.refl _)
  unfold setE
  rw [if_neg (by decide),if_neg (by decide),if_neg (by decide),if_pos rfl,hb]
  rfl
 ·show setE U x nEX (listT U.text e.ex) = _
  have h0 : e.ex ≠ []:=fun g => hv ((texts_nil U e.ex h.ex).2 g)
  obtain ⟨h1,h2,h3⟩:=(exB_iff e.ex).1 h.ex
  have hb : exE U (listT U.text e.ex) = some e.ex :=
   keepL_some.2 ⟨list_backN ordI 12 U.f U.text minB (fun y hy => U.back y ((minB_iff y).1 hy).1 ((minB_iff y).1 hy).2) hU.free e.ex (by omega) h2 h3 h0,h.ex⟩
  unfold setE
  rw [if_neg (by decide),if_neg (by decide),if_neg (by decide),if_neg (by decide),if_pos rfl,hb]
  rfl
 ·show setE U x nROOMS (listT Lib.itoa e.rooms) = _
  obtain ⟨h1,h2,h3⟩:=(roomsB_iff e.rooms).1 h.rooms
  have hb : roomsE (listT Lib.itoa e.rooms) = some e.rooms :=
   keepL_some.2 ⟨list_backN ordI 4 numC Lib.itoa roomB (fun y hy => numC_itoa y (by rw [roomB,btw_iff] at hy; unfold in64; omega)) (fun y => itoa_free y 44 (by decide)) e.rooms (by omega) h2 h3 (fun g => by rw [g] at h1; simp at h1),h.rooms⟩
  unfold setE
  rw [if_neg (by decide),if_neg (by decide),if_neg (by decide),if_neg (by decide),if_neg (by decide),if_pos rfl,hb]
  rfl
 ·show setE U x nTEXT (escE e.text) = _
  unfold setE
  rw [if_neg (by decide),if_neg (by decide),if_neg (by decide),if_neg (by decide),if_neg (by decide),if_neg (by decide),if_pos rfl,text_back _ h.text]
  rfl
theorem go_cons {U : Un} {i : Nat} {x x' : E} {seen : List Tx} {h n v : Tx} {t : List Tx} (hl : lineE h = some (n,v)) (hk : n ∈ known7) (hs : n ∉ seen) (hv : setE U x n v = some x') : goE U i x seen (h :: t) = goE U (i + 1) x' (seen ++ [n]) t:=by
 rw [goE,hl]
 simp only
 rw [if_neg (known_not hk).1,if_neg (known_not hk).2,if_pos hk,if_neg hs,hv]
theorem go_cons_end {U : Un} {i : Nat} {x : E} {seen : List Tx} {h v : Tx} {t : List Tx} (hl : lineE h = some (nEND,v)) (hv : capE v = wEV) : goE U i x seen (h :: t) = if hasAll seen && isE x then (some x,i + 1) else (none,i):=by
 rw [goE,hl]
 simp only
 rw [if_neg (by decide),if_pos trivial,decide_eq_true hv,Bool.true_and]
theorem go_run (U : Un) (hU : Good U) (e : E) (h : Is e) : ∀ (ps : List Fld) (i : Nat) (x : E) (seen rest : List Tx),(∀ p ∈ ps,p ∈ flds U e) -> (ps.map Fld.tag).Nodup -> (∀ p ∈ ps,p.name ∉ seen) →
  goE U i x seen (lns U ps ++ rest) = goE U (i + ps.length) (ps.foldl Fld.put x) (seen ++ ps.map Fld.name) rest
 | [],i,x,seen,rest,_,_,_ => by simp [lns]
 | p :: ps,i,x,seen,rest,hm,hn,hs => by
  rw [List.map_cons,List.nodup_cons] at hn
  have e1 : lns U (p :: ps) ++ rest = line2 (p.pair U) :: (lns U ps ++ rest):=rfl
  rw [e1,go_cons (line_name p U) (name_known p) (hs p List.mem_cons_self) (set_back U hU e h x p (hm p List.mem_cons_self)),
   go_run U hU e h ps (i + 1) (p.put x) (seen ++ [p.name]) rest (fun q hq => hm q (List.mem_cons_of_mem _ hq)) hn.2 (fun q hq g => by
    rcases List.mem_append.1 g with g | g
    ·exact hs q (List.mem_cons_of_mem _ hq) g
    ·rw [List.mem_singleton] at g
     exact hn.1 (List.mem_map.2 ⟨q,hq,(name_tag q p).1 g⟩))]
  simp only [List.length_cons,List.foldl_cons,List.map_cons,List.append_assoc,List.singleton_append]
  congr 1
  omega
theorem first_line : lineE firstL = some (nBEGIN,wEV):=by unfold firstL; exact name_line nBEGIN wEV (by decide)
theorem last_line : lineE lastL = some (nEND,wEV):=by unfold lastL; exact name_line nEND wEV (by decide)
theorem cap_wEV : capE wEV = wEV:=by decide
theorem read_first (U : Un) (h v : Tx) (t : List Tx) (hl : lineE h = some (nBEGIN,v)) (hv : capE v = wEV) : readE U (h :: t) = goE U 1 e0 [] t:=by
 rw [readE,hl]
 simp only
 rw [if_pos ⟨trivial,hv⟩]
theorem mem_names (ps : List Fld) (p : Fld) (h : p ∈ ps) : p.name ∈ ps.map Fld.name:=List.mem_map.2 ⟨p,h,rfl⟩
theorem has_flds (U : Un) (e : E) (h : Is e) (ps : List Fld) (hp : ps.Perm (flds U e)) : hasAll (ps.map Fld.name) = true:=by
 have hin : ∀ p ∈ allF e,p.val U ≠ [] -> p.name ∈ ps.map Fld.name:=fun p hp1 hv => mem_names ps p (hp.mem_iff.2 (List.mem_filter.2 ⟨hp1,by rw [decide_eq_true_eq]; exact hv⟩))
 have g1 : nUID ∈ ps.map Fld.name:=hin (.uid e.uid) (by simp [allF]) (fun g => by have:=(uidB_len h.uid).1; have g2 : e.uid = []:=g; rw [g2] at this; simp at this)
 have g2 : nSTART ∈ ps.map Fld.name:=hin (.st e.st) (by simp [allF]) (U.some _ ((minB_iff e.st).1 h.st).1 ((minB_iff e.st).1 h.st).2)
 have g3 : nLONG ∈ ps.map Fld.name:=hin (.lg e.lg) (by simp [allF]) (long_ne _)
 have g4 : nROOMS ∈ ps.map Fld.name:=hin (.ro e.rooms) (by simp [allF]) (fun g => by
  have g2:=(listT_nil _ itoa_ne e.rooms).1 g
  have:=((roomsB_iff e.rooms).1 h.rooms).1.1
  rw [g2] at this; simp at this)
 unfold hasAll
 rw [decide_eq_true g1,decide_eq_true g2,decide_eq_true g3,decide_eq_true g4]; rfl
theorem read_back (U : Un) (hU : Good U) (e : E) (h : Is e) (ps : List Fld) (hp : ps.Perm (flds U e)) (rest : List Tx) : readE U (firstL :: (lns U ps ++ lastL :: rest)) = (some e,ps.length + 2):=by
 have hn : (ps.map Fld.tag).Nodup:=(hp.map Fld.tag).nodup_iff.2 (tags_flds U e)
 rw [read_first U firstL wEV _ first_line cap_wEV,go_run U hU e h ps 1 e0 [] _ (fun p hp1 => hp.mem_iff.1 hp1) hn (fun _ _ g => by cases g),go_cons_end last_line cap_wEV,List.nil_append,has_flds U e h ps hp,fold_perm hp hn,fold_flds U e h,(isE_iff e).2 h]
 simp only [Bool.and_self,if_true,Prod.mk.injEq,true_and]
 omega
end Go.Proofs.YtfecnkhoojnkbaaGreatDoor.Ev
namespace Go.Proofs.YtfecnkhoojnkbaaGreatDoor.Ev
open Go.Proofs.YtfecnkhoojnkbaaGreatDoor Rul Rt Fo Li
theorem no_of {e : E} (h : ¬ Is e) : isE e = false:=by rw [Bool.eq_false_iff]; exact fun g => h ((isE_iff e).1 g)
theorem lines_no (U : Un) {x : E} (h : isE x = false) : linesE U x = []:=by unfold linesE; rw [h]; rfl
end Go.Proofs.YtfecnkhoojnkbaaGreatDoor.Ev
namespace Go.Proofs.YtfecnkhoojnkbaaGreatDoor.Ev
open Go.Proofs.YtfecnkhoojnkbaaGreatDoor Rul Rt Fo Li
def segL (b : Bool) (n v : Tx) : List Tx:=if b = true then [line2 (n,v)] else []
def docA (U : Un) (e : E) : List Tx:=[firstL,line2 (nUID,e.uid),line2 (nSTART,U.text e.st),line2 (nLONG,longT e.lg)]
def docB (U : Un) (e : E) : List Tx:=docA U e ++ segL (decide (e.r.fr ≠ 0)) nRULE (printE U e.r)
def docC (U : Un) (e : E) : List Tx:=docB U e ++ segL (decide (listT U.text e.ex ≠ [])) nEX (listT U.text e.ex)
def docD (U : Un) (e : E) : List Tx:=docC U e ++ [line2 (nROOMS,listT Lib.itoa e.rooms)]
def docE (U : Un) (e : E) : List Tx:=docD U e ++ segL (decide (e.text ≠ [])) nTEXT (escE e.text)
def docL (U : Un) (e : E) : List Tx:=docE U e ++ [lastL]
theorem rule_fr {r : Rul.T} (h : isB r = true) : r.fr = 0 ↔ r = once:=by
 constructor
 ·intro h0
  have:=isB_0 r h0
  rw [h] at this
  exact (sameB_iff r once).1 this.symm
 ·rintro rfl; rfl
theorem doc_lines (U : Un) (e : E) (h : Is e) : docL U e = linesE U e:=by
 have h1 : e.uid ≠ []:=fun g => by have:=(uidB_len h.uid).1; rw [g] at this; simp at this
 have h2 : U.text e.st ≠ []:=U.some _ ((minB_iff e.st).1 h.st).1 ((minB_iff e.st).1 h.st).2
 have h3:=long_ne e.lg
 have h4 : listT Lib.itoa e.rooms ≠ []:=fun g => by
  have g2:=(listT_nil _ itoa_ne e.rooms).1 g
  have:=((roomsB_iff e.rooms).1 h.rooms).1.1
  rw [g2] at this; simp at this
 have h5 : printE U e.r = [] ↔ e.r.fr = 0:=(print_nil U e.r h.r).trans (rule_fr h.r).symm
 have h6:=esc_nil e.text
 unfold linesE wri
 rw [if_pos ((isE_iff e).2 h)]
 have e0 : wEV ≠ []:=by decide
 have d4 : escE [] = []:=rfl
 unfold docL docE docD docC docB docA segL firstL lastL items
 by_cases c1 : e.r.fr = 0 <;> by_cases c2 : listT U.text e.ex = [] <;> by_cases c3 : e.text = []
 all_goals
  first | (have d1:=h5.2 c1) | (have d1 : printE U e.r ≠ []:=fun g => c1 (h5.1 g))
  first | (have d3:=h6.2 c3) | (have d3 : escE e.text ≠ []:=fun g => c3 (h6.1 g))
  simp [e0,h1,h2,h3,h4,c1,c2,c3,d1,d3,d4]
theorem joinAt_next (c : UInt8) (f : Int -> Tx) (l : List Int) (j : Nat) (h : j < l.length) : joinAt c ((l.take (j + 1)).map f) = if j = 0 then f l[j] else joinAt c ((l.take j).map f) ++ c :: f l[j]:=by
 rw [List.take_succ_eq_append_getElem h,List.map_append]
 by_cases hj : j = 0
 ·subst hj; simp [joinAt]
 ·rw [if_neg hj]
  have hne : (l.take j).map f ≠ []:=by
   intro g
   have:=congrArg List.length g
   rw [List.length_map,List.length_take,List.length_nil] at this
   omega
  generalize (l.take j).map f = k at *
  have gen : ∀ k : List Tx,k ≠ [] -> joinAt c (k ++ [f l[j]]) = joinAt c k ++ c :: f l[j]:=by
   intro k
   induction k with
   | nil => intro g; exact absurd rfl g
   | cons a k ih =>
    intro _
    cases k with
    | nil => simp [joinAt]
    | cons b k =>
     have:=ih (by simp)
     simp only [List.cons_append] at this ⊢
     simp only [joinAt] at this ⊢
     rw [this]
     simp
  exact gen k hne
end Go.Proofs.YtfecnkhoojnkbaaGreatDoor.Ev

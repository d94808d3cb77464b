/- CaMath; CaMathB; CaMathC of the recipes, what is needed of them. -/
import Derived.Test.YtfecnkhoojnkbaaGreatDoorZM3
import Derived.Test.YtfecnkhoojnkbaaGreatDoorZM2
namespace Go.Proofs.YtfecnkhoojnkbaaGreatDoor.Ca
open Go.Proofs.YtfecnkhoojnkbaaGreatDoor Rul Rt Fo Li Ev
def wCAL : Tx:=[86,67,65,76,69,78,68,65,82]
def nVER : Tx:=[86,69,82,83,73,79,78]
def vVER : Tx:=[50,46,48]
def firstC : Tx:=line2 (nBEGIN,wCAL)
def verC : Tx:=line2 (nVER,vVER)
def endC : Tx:=line2 (nEND,wCAL)
def bodyC (U : Un) (l : List E) : List Tx:=l.flatMap (Ev.linesE U)
def allC (U : Un) (l : List E) : List Tx:=firstC :: verC :: (bodyC U l ++ [endC])
def textC (U : Un) (l : List E) : Tx:=Fo.flat (allC U l)
def uidsC (l : List E) : List Tx:=l.map E.uid
def okC (l : List E) : Bool:=l.all isE && decide (uidsC l).Nodup
theorem okC_iff (l : List E) : okC l = true ↔ (∀ e ∈ l,isE e = true) /\ (uidsC l).Nodup:=by
 unfold okC; rw [Bool.and_eq_true,List.all_eq_true,decide_eq_true_eq]
def printC (U : Un) (l : List E) : Tx × Int:=if okC l = true then (if 8000 < (textC U l).length then ([],15) else (textC U l,0)) else ([],14)
def evsC (U : Un) (i : Nat) (ver : Bool) (out : List E) : List Tx -> List E × Nat × Int
 | [] => ([],i,14)
 | h :: t => match lineE h with
  | none => ([],i,14)
  | some (n,v) =>
   if n = nVER then (if ver = true ∨ v ≠ vVER then ([],i,14) else evsC U (i + 1) true out t)
   else if n = nBEGIN then (if capE v = wEV then match readE U (h :: t) with
     | (none,k) => ([],i + k,14)
     | (some e,k) => if e.uid ∈ uidsC out then ([],i + k - 1,14) else evsC U (i + k) ver (out ++ [e]) (t.drop (k - 1))
    else ([],i,14))
   else if n = nEND then (if capE v = wCAL then (if t = [] then (out,i + 1,0) else ([],i + 1,14)) else ([],i,14))
   else evsC U (i + 1) ver out t
 termination_by rest => rest.length
 decreasing_by all_goals (simp only [List.length_cons,List.length_drop]; omega)
def linC (U : Un) : List Tx -> List E × Nat × Int
 | [] => ([],0,14)
 | h :: t => match lineE h with
  | none => ([],0,14)
  | some (n,v) => if n = nBEGIN /\ capE v = wCAL then evsC U 1 false [] t else ([],0,14)
def parseC (U : Un) (s : Tx) : List E × Nat × Int:=if 8000 < s.length then ([],0,15) else if 200 < (unfoldE s).length then ([],0,15) else linC U (unfoldE s)
def Clean (U : Un) : Prop:=∀ n,(13 : UInt8) ∉ U.text n
theorem uid_clean {s : Tx} (h : uidB s = true) : (13 : UInt8) ∉ s:=fun g => by
 unfold uidB at h
 rw [Bool.and_eq_true,List.all_eq_true] at h
 have:=h.2 _ g
 revert this; decide
theorem esc_clean {s : Tx} (h : textB s = true) : (13 : UInt8) ∉ escE s:=fun g => by
 unfold textB at h
 rw [Bool.and_eq_true,List.all_eq_true] at h
 unfold escE at g
 obtain ⟨c,hc,g⟩:=List.mem_flatMap.1 g
 have h1:=h.2 _ hc
 unfold escB at g
 have h13 : c ≠ 13:=fun e => by subst e; revert h1; decide
 split at g
 ·simp only [List.mem_cons,List.not_mem_nil,or_false] at g
  rcases g with g | g
  ·revert g; decide
  ·exact h13 g.symm
 ·split at g
  ·simp only [List.mem_cons,List.not_mem_nil,or_false] at g
   rcases g with g | g <;> (revert g; decide)
  ·simp only [List.mem_cons,List.not_mem_nil,or_false] at g
   exact h13 g.symm
theorem itoa_clean (n : Int) : (13 : UInt8) ∉ Lib.itoa n:=itoa_free n 13 (by decide)
theorem part_clean (U : Un) (hU : Clean U) (p : Part) : (13 : UInt8) ∉ valT U p:=by
 have hu : ∀ a n,(13 : UInt8) ∉ unlessT a n:=fun a n => by
  unfold unlessT; split
  ·simp
  ·exact itoa_clean n
 cases p with
 | fr n =>
  show (13 : UInt8) ∉ freqWs.getD (n.toNat - 1) []
  rw [List.getD_eq_getElem?_getD]
  cases hk : freqWs[n.toNat - 1]? with
  | none => simp
  | some w =>
   have : ∀ w ∈ freqWs,(13 : UInt8) ∉ w:=by decide
   exact this w (List.mem_of_getElem? hk)
 | ev n => exact hu _ _
 | ct n => exact hu _ _
 | un n => exact hU n
 | ys l => exact listT_free _ 13 (by decide) itoa_clean l
 | ms l => exact listT_free _ 13 (by decide) itoa_clean l
 | ds l => exact listT_free _ 13 (by decide) (fun x => dayT_free x 13 (by decide) (by decide)) l
theorem print_clean (U : Un) (hU : Clean U) (r : Rul.T) : (13 : UInt8) ∉ printE U r:=fun g => by
 unfold printE at g
 split at g
 ·rcases join_mem 59 13 _ g with g | ⟨t,ht,g⟩
  ·revert g; decide
  ·obtain ⟨p,_,rfl⟩:=List.mem_map.1 ht
   unfold textP at g
   rcases List.mem_append.1 g with g | g
   ·have : (13 : UInt8) ∉ nameOf p:=by cases p <;> simp only [nameOf] <;> decide
    exact this g
   ·rcases List.mem_cons.1 g with g | g
    ·revert g; decide
    ·exact part_clean U hU p g
 ·cases g
theorem long_clean (n : Int) : (13 : UInt8) ∉ longT n:=fun g => by
 unfold longT at g
 rcases List.mem_append.1 g with g | g
 ·rcases List.mem_append.1 g with g | g
  ·revert g; decide
  ·exact itoa_clean n g
 ·revert g; decide
theorem fld_clean (U : Un) (hU : Clean U) (e : E) (h : isE e = true) (p : Fld) (hp : p ∈ allF e) : (13 : UInt8) ∉ p.val U:=by
 have hi:=(isE_iff e).1 h
 unfold allF at hp
 simp only [List.mem_cons,List.not_mem_nil,or_false] at hp
 rcases hp with rfl | rfl | rfl | rfl | rfl | rfl | rfl
 ·exact uid_clean hi.uid
 ·exact hU _
 ·exact long_clean _
 ·exact print_clean U hU _
 ·exact listT_free _ 13 (by decide) hU _
 ·exact listT_free _ 13 (by decide) itoa_clean _
 ·exact esc_clean hi.text
def Okay (s : Tx) : Prop:=s.head? ≠ some 32 /\ (13 : UInt8) ∉ s
theorem line_okay {n v : Tx} (h : n.head? ≠ some 32) (h0 : n ≠ []) (hn : (13 : UInt8) ∉ n) (hv : (13 : UInt8) ∉ v) : Okay (line2 (n,v)):=by
 refine ⟨?_,fun g => ?_⟩
 ·cases n with
  | nil => exact absurd rfl h0
  | cons a n => exact h
 ·rcases List.mem_append.1 g with g | g
  ·exact hn g
  ·rcases List.mem_cons.1 g with g | g
   ·revert g; decide
   ·exact hv g
theorem name_okay (p : Fld) : p.name.head? ≠ some 32 /\ p.name ≠ [] /\ (13 : UInt8) ∉ p.name:=by cases p <;> simp only [Fld.name] <;> decide
theorem lines_okay (U : Un) (hU : Clean U) (e : E) (h : isE e = true) : ∀ s ∈ Ev.linesE U e,Okay s:=fun s hs => by
 rw [lines_flds U e h] at hs
 rcases List.mem_cons.1 hs with rfl | hs
 ·exact line_okay (by decide) (by decide) (by decide) (by decide)
 ·rcases List.mem_append.1 hs with hs | hs
  ·obtain ⟨p,hp,rfl⟩:=List.mem_map.1 hs
   have hn:=name_okay p
   exact line_okay hn.1 hn.2.1 hn.2.2 (fld_clean U hU e h p (List.mem_filter.1 hp).1)
  ·rw [List.mem_singleton] at hs; subst hs
   exact line_okay (by decide) (by decide) (by decide) (by decide)
theorem all_okay (U : Un) (hU : Clean U) (l : List E) (h : ∀ e ∈ l,isE e = true) : ∀ s ∈ allC U l,Okay s:=fun s hs => by
 unfold allC at hs
 rcases List.mem_cons.1 hs with rfl | hs
 ·exact line_okay (by decide) (by decide) (by decide) (by decide)
 ·rcases List.mem_cons.1 hs with rfl | hs
  ·exact line_okay (by decide) (by decide) (by decide) (by decide)
  ·rcases List.mem_append.1 hs with hs | hs
   ·obtain ⟨e,he,hs⟩:=List.mem_flatMap.1 hs
    exact lines_okay U hU e (h e he) s hs
   ·rw [List.mem_singleton] at hs; subst hs
    exact line_okay (by decide) (by decide) (by decide) (by decide)
theorem unfold_text (U : Un) (hU : Clean U) (l : List E) (h : ∀ e ∈ l,isE e = true) : unfoldE (textC U l) = allC U l :=
 unfold_flat _ (fun s hs => all_okay U hU l h s hs)
theorem line_at (n v : Tx) (hn : nameE n = true) : lineE (line2 (n,v)) = some (n,v):=name_line n v hn
theorem evs_event (U : Un) (hg : Ev.Good U) (e : E) (h : isE e = true) (i : Nat) (ver : Bool) (out : List E) (rest : List Tx) (hu : e.uid ∉ uidsC out) :
  evsC U i ver out (Ev.linesE U e ++ rest) = evsC U (i + (Ev.linesE U e).length) ver (out ++ [e]) rest:=by
 have hi:=(isE_iff e).1 h
 have hr:=read_back U hg e hi (flds U e) (List.Perm.refl _) rest
 rw [lines_flds U e h]
 have hl : lineE firstL = some (nBEGIN,wEV):=line_at nBEGIN wEV (by decide)
 rw [List.cons_append,List.append_assoc,List.singleton_append,evsC,hl]
 simp only
 rw [if_neg (by decide),if_pos trivial,if_pos (by decide),hr]
 simp only
 rw [if_neg hu]
 congr 1
 ·simp [lns]
 ·have e1 : lns U (flds U e) ++ lastL :: rest = (lns U (flds U e) ++ [lastL]) ++ rest:=by simp
  rw [e1,show (flds U e).length + 2 - 1 = (lns U (flds U e) ++ [lastL]).length by simp [lns],List.drop_left]
theorem evs_body (U : Un) (hg : Ev.Good U) (rest : List Tx) : ∀ (l out : List E) (i : Nat) (ver : Bool),(∀ e ∈ l,isE e = true) -> (uidsC (out ++ l)).Nodup →
  evsC U i ver out (bodyC U l ++ rest) = evsC U (i + (bodyC U l).length) ver (out ++ l) rest
 | [],out,i,ver,_,_ => by rw [bodyC,List.flatMap_nil,List.nil_append,List.append_nil]; rfl
 | e :: l,out,i,ver,h,hn => by
  have hn2 : (uidsC ((out ++ [e]) ++ l)).Nodup:=by rw [List.append_assoc,List.singleton_append]; exact hn
  have hu : e.uid ∉ uidsC out:=by
   unfold uidsC at hn ⊢
   rw [List.map_append,List.map_cons] at hn
   intro g
   exact List.nodup_append.1 hn |>.2.2 _ g _ (List.mem_cons_self ..) rfl
  have hb : bodyC U (e :: l) = Ev.linesE U e ++ bodyC U l:=by unfold bodyC; rw [List.flatMap_cons]
  rw [hb,List.append_assoc,evs_event U hg e (h e (List.mem_cons_self ..)) i ver out _ hu,evs_body U hg rest l (out ++ [e]) _ ver (fun x hx => h x (List.mem_cons_of_mem _ hx)) hn2,List.append_assoc,List.singleton_append,List.length_append,Nat.add_assoc]
theorem lin_all (U : Un) (hg : Ev.Good U) (l : List E) (h : okC l = true) : linC U (allC U l) = (l,(allC U l).length,0):=by
 obtain ⟨h1,h2⟩:=(okC_iff l).1 h
 have hf : lineE firstC = some (nBEGIN,wCAL):=line_at nBEGIN wCAL (by decide)
 have hv : lineE verC = some (nVER,vVER):=line_at nVER vVER (by decide)
 have he : lineE endC = some (nEND,wCAL):=line_at nEND wCAL (by decide)
 unfold allC
 rw [linC,hf]
 simp only
 rw [if_pos ⟨trivial,by decide⟩,evsC,hv]
 simp only
 rw [if_pos trivial,if_neg (by decide),evs_body U hg [endC] l [] 2 true h1 (by rw [List.nil_append]; exact h2),evsC,he]
 simp only
 rw [if_neg (by decide),if_neg (by decide),if_pos trivial,if_pos (by decide),if_pos trivial,List.nil_append]
 simp only [List.length_cons,List.length_append,List.length_nil,Prod.mk.injEq,true_and,and_true]
 omega
theorem parse_text (U : Un) (hU : Clean U) (hg : Ev.Good U) (l : List E) (h : okC l = true) (hl : (textC U l).length <= 8000) : parseC U (textC U l) = if 200 < (allC U l).length then ([],0,15) else (l,(allC U l).length,0):=by
 unfold parseC
 rw [if_neg (by omega),unfold_text U hU l ((okC_iff l).1 h).1,lin_all U hg l h]
theorem go_is {U : Un} : ∀ (l : List Tx) (i : Nat) (e : E) (seen : List Tx) (x : E) (k : Nat),goE U i e seen l = (some x,k) -> isE x = true
 | [],i,e,seen,x,k,h => by rw [goE] at h; cases h
 | a :: t,i,e,seen,x,k,h => by
  rw [goE] at h
  cases hl : lineE a with
  | none => rw [hl] at h; cases h
  | some p =>
   obtain ⟨n,v⟩:=p
   rw [hl] at h
   simp only at h
   split at h
   ·cases h
   ·split at h
    ·split at h
     ·rename_i hc
      rw [Bool.and_eq_true,Bool.and_eq_true] at hc
      injection h with h _
      injection h with h
      exact h ▸ hc.2.2
     ·cases h
    ·split at h
     ·split at h
      ·cases h
      ·split at h
       ·cases h
       ·exact go_is t _ _ _ _ _ h
     ·exact go_is t _ _ _ _ _ h
theorem read_is {U : Un} {l : List Tx} {x : E} {k : Nat} (h : readE U l = (some x,k)) : isE x = true:=by
 cases l with
 | nil => rw [readE] at h; cases h
 | cons a t =>
  rw [readE] at h
  cases hl : lineE a with
  | none => rw [hl] at h; cases h
  | some p =>
   obtain ⟨n,v⟩:=p
   rw [hl] at h
   simp only at h
   split at h
   ·exact go_is t _ _ _ _ _ h
   ·cases h
theorem evs_is {U : Un} : ∀ (m : Nat) (rest : List Tx) (i : Nat) (ver : Bool) (out : List E),rest.length <= m -> okC out = true →
  ((evsC U i ver out rest).2.2 = 0 /\ okC (evsC U i ver out rest).1 = true) ∨ ((evsC U i ver out rest).2.2 = 14 /\ (evsC U i ver out rest).1 = [])
 | m,[],i,ver,out,_,_ => by rw [evsC]; exact Or.inr ⟨rfl,rfl⟩
 | 0,h :: t,i,ver,out,hm,_ => absurd hm (by simp)
 | m + 1,h :: t,i,ver,out,hm,ho => by
  have ht : t.length <= m:=by simpa using hm
  have bad : ∀ j : Nat,(((([] : List E),j,(14 : Int)).2.2 = 0 /\ okC (([] : List E),j,(14 : Int)).1 = true) ∨ ((([] : List E),j,(14 : Int)).2.2 = 14 /\ (([] : List E),j,(14 : Int)).1 = [])):=fun j => Or.inr ⟨rfl,rfl⟩
  rw [evsC]
  cases hl : lineE h with
  | none => exact bad _
  | some p =>
   obtain ⟨n,v⟩:=p
   simp only
   split
   ·split
    ·exact bad _
    ·exact evs_is m t _ _ _ ht ho
   ·split
    ·split
     ·rcases hr : readE U (h :: t) with ⟨_ | e,k⟩
      ·exact bad _
      ·simp only
       split
       ·exact bad _
       ·rename_i hu
        refine evs_is m (t.drop (k - 1)) _ _ _ (by rw [List.length_drop]; omega) ?_
        obtain ⟨h1,h2⟩:=(okC_iff out).1 ho
        refine (okC_iff _).2 ⟨fun x hx => ?_,?_⟩
        ·rcases List.mem_append.1 hx with hx | hx
         ·exact h1 x hx
         ·rw [List.mem_singleton] at hx; subst hx; exact read_is hr
        ·unfold uidsC at h2 hu ⊢
         rw [List.map_append]
         refine List.nodup_append.2 ⟨h2,by simp,fun a ha b hb hab => hu ?_⟩
         rw [List.map_cons,List.map_nil,List.mem_singleton] at hb
         rw [<- hb,<- hab]; exact ha
     ·exact bad _
    ·split
     ·split
      ·split
       ·exact Or.inl ⟨rfl,ho⟩
       ·exact bad _
      ·exact bad _
     ·exact evs_is m t _ _ _ ht ho
theorem lin_is (U : Un) (l : List Tx) : ((linC U l).2.2 = 0 /\ okC (linC U l).1 = true) ∨ ((linC U l).2.2 = 14 /\ (linC U l).1 = []):=by
 cases l with
 | nil => exact Or.inr ⟨rfl,rfl⟩
 | cons h t =>
  rw [linC]
  cases hl : lineE h with
  | none => exact Or.inr ⟨rfl,rfl⟩
  | some p =>
   obtain ⟨n,v⟩:=p
   simp only
   split
   ·exact evs_is t.length t _ _ _ (Nat.le_refl _) rfl
   ·exact Or.inr ⟨rfl,rfl⟩
theorem parse_is (U : Un) (s : Tx) : ((parseC U s).2.2 = 0 /\ okC (parseC U s).1 = true) ∨ (((parseC U s).2.2 = 14 ∨ (parseC U s).2.2 = 15) /\ (parseC U s).1 = []):=by
 unfold parseC
 split
 ·exact Or.inr ⟨Or.inr rfl,rfl⟩
 ·split
  ·exact Or.inr ⟨Or.inr rfl,rfl⟩
  ·rcases lin_is U (unfoldE s) with h | h
   ·exact Or.inl h
   ·exact Or.inr ⟨Or.inl h.1,h.2⟩
theorem go_len {U : Un} : ∀ (l : List Tx) (i : Nat) (e : E) (seen : List Tx) (x : E) (k : Nat),goE U i e seen l = (some x,k) -> i + 1 <= k /\ k <= i + l.length
 | [],i,e,seen,x,k,h => by rw [goE] at h; cases h
 | a :: t,i,e,seen,x,k,h => by
  rw [goE] at h
  rw [List.length_cons]
  cases hl : lineE a with
  | none => rw [hl] at h; cases h
  | some p =>
   obtain ⟨n,v⟩:=p
   rw [hl] at h
   simp only at h
   split at h
   ·cases h
   ·split at h
    ·split at h
     ·injection h with _ h
      omega
     ·cases h
    ·split at h
     ·split at h
      ·cases h
      ·split at h
       ·cases h
       ·have:=go_len t _ _ _ _ _ h; omega
     ·have:=go_len t _ _ _ _ _ h; omega
theorem read_len {U : Un} {l : List Tx} {x : E} {k : Nat} (h : readE U l = (some x,k)) : 2 <= k /\ k <= l.length:=by
 cases l with
 | nil => rw [readE] at h; cases h
 | cons a t =>
  rw [readE] at h
  rw [List.length_cons]
  cases hl : lineE a with
  | none => rw [hl] at h; cases h
  | some p =>
   obtain ⟨n,v⟩:=p
   rw [hl] at h
   simp only at h
   split at h
   ·have:=go_len t _ _ _ _ _ h; omega
   ·cases h
theorem go_bad_len {U : Un} : ∀ (l : List Tx) (i : Nat) (e : E) (seen : List Tx) (k : Nat),goE U i e seen l = (none,k) -> k <= i + l.length
 | [],i,e,seen,k,h => by rw [goE] at h; injection h with _ h; omega
 | a :: t,i,e,seen,k,h => by
  have stop : (none,i) = ((none,k) : Option E × Nat) -> k <= i + (a :: t).length:=fun g => by injection g with _ g; omega
  rw [goE] at h
  cases hl : lineE a with
  | none => rw [hl] at h; exact stop h
  | some p =>
   obtain ⟨n,v⟩:=p
   rw [hl] at h
   simp only at h
   split at h
   ·exact stop h
   ·split at h
    ·split at h
     ·cases h
     ·exact stop h
    ·rw [List.length_cons]
     split at h
     ·split at h
      ·have:=stop h; rw [List.length_cons] at this; exact this
      ·split at h
       ·have:=stop h; rw [List.length_cons] at this; exact this
       ·have:=go_bad_len t _ _ _ _ h; omega
     ·have:=go_bad_len t _ _ _ _ h; omega
theorem read_bad_len {U : Un} {l : List Tx} {k : Nat} (h : readE U l = (none,k)) : k <= l.length:=by
 cases l with
 | nil => rw [readE] at h; injection h with _ h; omega
 | cons a t =>
  rw [readE] at h
  cases hl : lineE a with
  | none => rw [hl] at h; injection h with _ h; omega
  | some p =>
   obtain ⟨n,v⟩:=p
   rw [hl] at h
   simp only at h
   split at h
   ·have:=go_bad_len t _ _ _ _ h; rw [List.length_cons]; omega
   ·injection h with _ h; omega
section
variable {U : Un} {l : List Tx} {j : Nat} {ver : Bool} {out : List E} {n v : Tx}
theorem evs_out : evsC U j ver out (l.drop l.length) = ([],j,14):=by rw [List.drop_length,evsC]
theorem evs_none (h : j < l.length) (hl : lineE l[j] = none) : evsC U j ver out (l.drop j) = ([],j,14):=by
 rw [drop_at h,evsC,hl]
theorem evs_ver_no (h : j < l.length) (hl : lineE l[j] = some (nVER,v)) (hb : ver = true ∨ v ≠ vVER) : evsC U j ver out (l.drop j) = ([],j,14):=by
 rw [drop_at h,evsC,hl]
 simp only
 rw [if_pos trivial,if_pos hb]
theorem evs_ver (h : j < l.length) (hl : lineE l[j] = some (nVER,vVER)) : evsC U j false out (l.drop j) = evsC U (j + 1) true out (l.drop (j + 1)):=by
 rw [drop_at h,evsC,hl]
 simp only
 rw [if_pos trivial,if_neg (by simp)]
theorem evs_begin_no (h : j < l.length) (hl : lineE l[j] = some (nBEGIN,v)) (hv : capE v ≠ wEV) : evsC U j ver out (l.drop j) = ([],j,14):=by
 rw [drop_at h,evsC,hl]
 simp only
 rw [if_neg (by decide),if_pos trivial,if_neg hv]
theorem evs_begin_bad {k : Nat} (h : j < l.length) (hl : lineE l[j] = some (nBEGIN,v)) (hv : capE v = wEV) (hr : readE U (l.drop j) = (none,k)) : evsC U j ver out (l.drop j) = ([],j + k,14):=by
 rw [drop_at h] at hr ⊢
 rw [evsC,hl]
 simp only
 rw [if_neg (by decide),if_pos trivial,if_pos hv,hr]
theorem evs_begin_dup {e : E} {k : Nat} (h : j < l.length) (hl : lineE l[j] = some (nBEGIN,v)) (hv : capE v = wEV) (hr : readE U (l.drop j) = (some e,k)) (hu : e.uid ∈ uidsC out) : evsC U j ver out (l.drop j) = ([],j + k - 1,14):=by
 rw [drop_at h] at hr ⊢
 rw [evsC,hl]
 simp only
 rw [if_neg (by decide),if_pos trivial,if_pos hv,hr]
 simp only
 rw [if_pos hu]
theorem evs_begin {e : E} {k : Nat} (h : j < l.length) (hl : lineE l[j] = some (nBEGIN,v)) (hv : capE v = wEV) (hr : readE U (l.drop j) = (some e,k)) (hu : e.uid ∉ uidsC out) : evsC U j ver out (l.drop j) = evsC U (j + k) ver (out ++ [e]) (l.drop (j + k)):=by
 have hk:=(read_len hr).1
 rw [drop_at h] at hr ⊢
 rw [evsC,hl]
 simp only
 rw [if_neg (by decide),if_pos trivial,if_pos hv,hr]
 simp only
 rw [if_neg hu,List.drop_drop,show j + 1 + (k - 1) = j + k by omega]
theorem evs_end_no (h : j < l.length) (hl : lineE l[j] = some (nEND,v)) (hv : capE v ≠ wCAL) : evsC U j ver out (l.drop j) = ([],j,14):=by
 rw [drop_at h,evsC,hl]
 simp only
 rw [if_neg (by decide),if_neg (by decide),if_pos trivial,if_neg hv]
theorem evs_end_more (h : j + 1 < l.length) (hl : lineE l[j] = some (nEND,v)) (hv : capE v = wCAL) : evsC U j ver out (l.drop j) = ([],j + 1,14):=by
 have hne : l.drop (j + 1) ≠ []:=fun e => by have:=congrArg List.length e; rw [List.length_drop,List.length_nil] at this; omega
 rw [drop_at (by omega),evsC,hl]
 simp only
 rw [if_neg (by decide),if_neg (by decide),if_pos trivial,if_pos hv,if_neg hne]
theorem evs_end (h : j + 1 = l.length) (hl : lineE (l[j]'(by omega)) = some (nEND,v)) (hv : capE v = wCAL) : evsC U j ver out (l.drop j) = (out,l.length,0):=by
 have hne : l.drop (j + 1) = []:=List.drop_eq_nil_of_le (by omega)
 rw [drop_at (by omega),evsC,hl]
 simp only
 rw [if_neg (by decide),if_neg (by decide),if_pos trivial,if_pos hv,if_pos hne,h]
theorem evs_other (h : j < l.length) (hl : lineE l[j] = some (n,v)) (h1 : n ≠ nVER) (h2 : n ≠ nBEGIN) (h3 : n ≠ nEND) : evsC U j ver out (l.drop j) = evsC U (j + 1) ver out (l.drop (j + 1)):=by
 rw [drop_at h,evsC,hl]
 simp only
 rw [if_neg h1,if_neg h2,if_neg h3]
end
end Go.Proofs.YtfecnkhoojnkbaaGreatDoor.Ca
namespace Go.Proofs.YtfecnkhoojnkbaaGreatDoor.Ca
open Rul Rt Li Fo Ev
def isCal (n t : Tx) : Bool:=match lineE t with
 | none => false
 | some (m,v) => decide (m = n) && decide (capE v = wCAL)
theorem isCal_none {n t : Tx} (h : lineE t = none) : isCal n t = false:=by unfold isCal; rw [h]
theorem isCal_some {n t m v : Tx} (h : lineE t = some (m,v)) : isCal n t = (decide (m = n) && decide (capE v = wCAL)):=by unfold isCal; rw [h]
theorem lin_first (U : Un) (h : Tx) (t : List Tx) : linC U (h :: t) = if isCal nBEGIN h = true then evsC U 1 false [] t else ([],0,14):=by
 unfold linC isCal
 cases hl : lineE h with
 | none => simp [hl]
 | some p => obtain ⟨n,v⟩:=p; simp [hl]
def takC (U : Un) (ver : Bool) (out : List E) (l : List Tx) : Option (Bool × List E) × Nat:=match l with
 | [] => (none,0)
 | h :: t => match lineE h with
  | none => (none,0)
  | some (n,v) =>
   if n = nEND then (none,0)
   else if n = nVER then (if ver = true ∨ v ≠ vVER then (none,0) else (some (true,out),1))
   else if n = nBEGIN then match readE U (h :: t) with
    | (none,k) => (none,k)
    | (some e,k) => if e.uid ∈ uidsC out then (none,k - 1) else (some (ver,out ++ [e]),k)
   else (some (ver,out),1)
theorem ver_begin : nVER ≠ nBEGIN:=by decide
theorem ver_end : nVER ≠ nEND:=by decide
theorem begin_end : nBEGIN ≠ nEND:=by decide
theorem read_first {U : Un} {h : Tx} {t : List Tx} {v : Tx} (hl : lineE h = some (nBEGIN,v)) (hv : capE v ≠ wEV) : readE U (h :: t) = (none,0):=by
 rw [readE,hl]
 show (if nBEGIN = nBEGIN /\ capE v = wEV then _ else _) = _
 rw [if_neg (fun g => hv g.2)]
theorem evs_tak {U : Un} {l : List Tx} {j : Nat} {ver : Bool} {out : List E} (h : j < l.length) (hc : isCal nEND l[j] = false) :
  evsC U j ver out (l.drop j) = match takC U ver out (l.drop j) with
   | (none,k) => ([],j + k,14)
   | (some (v2,o2),k) => evsC U (j + k) v2 o2 (l.drop (j + k)):=by
 have hd : l.drop j = l[j] :: l.drop (j + 1):=List.drop_eq_getElem_cons h
 cases hl : lineE l[j] with
 | none =>
  rw [evs_none h hl]
  have : takC U ver out (l.drop j) = (none,0):=by rw [hd,takC,hl]
  rw [this]
  rfl
 | some p =>
  obtain ⟨n,v⟩:=p
  rw [isCal_some hl] at hc
  by_cases hE : n = nEND
  ·subst hE
   have hv : capE v ≠ wCAL:=fun g => by rw [g] at hc; simp at hc
   have : takC U ver out (l.drop j) = (none,0):=by rw [hd,takC,hl]; simp only [if_true]
   rw [evs_end_no h hl hv,this]
   rfl
  ·by_cases hV : n = nVER
   ·subst hV
    by_cases hb : ver = true ∨ v ≠ vVER
    ·have : takC U ver out (l.drop j) = (none,0):=by rw [hd,takC,hl]; simp only [if_neg ver_end,if_true,if_pos hb]
     rw [evs_ver_no h hl hb,this]
     rfl
    ·have hver : ver = false:=by cases ver with | false => rfl | true => exact absurd (Or.inl rfl) hb
     have hv : v = vVER:=Classical.byContradiction fun g => hb (Or.inr g)
     subst hver hv
     have : takC U false out (l.drop j) = (some (true,out),1):=by rw [hd,takC,hl]; simp only [if_neg ver_end,if_true,if_neg hb]
     rw [evs_ver h hl,this]
   ·by_cases hB : n = nBEGIN
    ·subst hB
     have ht : takC U ver out (l.drop j) = match readE U (l.drop j) with
       | (none,k) => (none,k)
       | (some e,k) => if e.uid ∈ uidsC out then (none,k - 1) else (some (ver,out ++ [e]),k):=by
      rw [hd,takC,hl]
      simp only [if_neg begin_end,if_neg (Ne.symm ver_begin),if_true]
     rw [ht]
     by_cases hv : capE v = wEV
     ·rcases hr : readE U (l.drop j) with ⟨_ | e,k⟩
      ·rw [evs_begin_bad h hl hv hr]
      ·by_cases hu : e.uid ∈ uidsC out
       ·have hk:=(read_len hr).1
        rw [evs_begin_dup h hl hv hr hu]
        simp only [if_pos hu]
        rw [show j + k - 1 = j + (k - 1) by omega]
       ·rw [evs_begin h hl hv hr hu]
        simp only [if_neg hu]
     ·rw [evs_begin_no h hl hv]
      have : readE U (l.drop j) = (none,0):=by rw [hd]; exact read_first hl hv
      rw [this]
      rfl
    ·have : takC U ver out (l.drop j) = (some (ver,out),1):=by rw [hd,takC,hl]; simp only [if_neg hE,if_neg hV,if_neg hB]
     rw [evs_other h hl hV hB hE,this]
theorem tak_len {U : Un} {ver v2 : Bool} {out o2 : List E} {l : List Tx} {k : Nat} (h : takC U ver out l = (some (v2,o2),k)) : 1 <= k /\ k <= l.length /\ o2.length <= out.length + 1:=by
 unfold takC at h
 cases l with
 | nil => simp at h
 | cons a t =>
  simp only at h
  split at h
  ·simp at h
  ·split at h
   ·simp at h
   ·split at h
    ·split at h
     ·simp at h
     ·simp only [Prod.mk.injEq,Option.some.injEq] at h
      obtain ⟨⟨rfl,rfl⟩,rfl⟩:=h
      simp
    ·split at h
     ·rcases hr : readE U (a :: t) with ⟨_ | e,n⟩
      ·rw [hr] at h; simp at h
      ·rw [hr] at h
       simp only at h
       split at h
       ·simp at h
       ·simp only [Prod.mk.injEq,Option.some.injEq] at h
        obtain ⟨⟨rfl,rfl⟩,rfl⟩:=h
        have:=read_len hr
        simp only [List.length_append,List.length_singleton]
        omega
     ·simp only [Prod.mk.injEq,Option.some.injEq] at h
      obtain ⟨⟨rfl,rfl⟩,rfl⟩:=h
      simp
theorem tak_bad {U : Un} {ver : Bool} {out : List E} {l : List Tx} {k : Nat} (h : takC U ver out l = (none,k)) : k <= l.length:=by
 unfold takC at h
 cases l with
 | nil => simp at h; omega
 | cons a t =>
  simp only at h
  split at h
  ·simp only [Prod.mk.injEq,true_and] at h; omega
  ·split at h
   ·simp only [Prod.mk.injEq,true_and] at h; omega
   ·split at h
    ·split at h
     ·simp only [Prod.mk.injEq,true_and] at h; omega
     ·simp at h
    ·split at h
     ·rcases hr : readE U (a :: t) with ⟨_ | e,n⟩
      ·rw [hr] at h
       simp only [Prod.mk.injEq,true_and] at h
       subst h
       exact read_bad_len hr
      ·rw [hr] at h
       simp only at h
       split at h
       ·simp only [Prod.mk.injEq,true_and] at h
        have:=read_len hr
        omega
       ·simp at h
     ·simp at h
theorem okC_snoc (l : List E) (e : E) : okC (l ++ [e]) = (okC l && (isE e && !decide (e.uid ∈ uidsC l))):=by
 unfold okC uidsC
 rw [List.all_append,List.map_append,List.map_singleton]
 have h : decide ((l.map E.uid ++ [e.uid]).Nodup) = (decide (l.map E.uid).Nodup && !decide (e.uid ∈ l.map E.uid)):=by
  rw [Bool.eq_iff_iff]
  simp only [decide_eq_true_eq,Bool.and_eq_true,Bool.not_eq_true',decide_eq_false_iff_not]
  rw [List.nodup_append]
  constructor
  ·rintro ⟨h1,_,h3⟩
   exact ⟨h1,fun g => h3 _ g _ (List.mem_singleton.2 rfl) rfl⟩
  ·rintro ⟨h1,h2⟩
   exact ⟨h1,by simp,fun a ha b hb => by rw [List.mem_singleton] at hb; subst hb; exact fun q => h2 (q ▸ ha)⟩
 rw [h]
 simp only [List.all_cons,List.all_nil,Bool.and_true]
 cases l.all isE <;> cases decide (l.map E.uid).Nodup <;> cases isE e <;> simp
theorem okC_take {l : List E} (h : okC l = true) (k : Nat) : okC (l.take k) = true:=by
 rw [okC_iff] at h ⊢
 refine ⟨fun e he => h.1 e (List.mem_of_mem_take he),?_⟩
 unfold uidsC
 rw [List.map_take]
 exact h.2.sublist (List.take_sublist _ _)
theorem okC_out {l : List E} {k : Nat} (h : okC (l.take k) = false) : okC l = false:=by
 cases g : okC l with
 | false => rfl
 | true => rw [okC_take g k] at h; exact absurd h (by decide)
theorem uids_take (l : List E) (k : Nat) : (uidsC (l.take k)).length <= k:=by
 unfold uidsC; rw [List.length_map]; exact List.length_take_le _ _
theorem unfold_size (s : Tx) : ∀ p ∈ unfoldE s,p.length <= s.length:=fun p hp => by
 have h1:=(linesE_bounds (fin (Lib.split s crlf))).2 p hp
 have h2:=fin_flat (Lib.split s crlf)
 have h3:=split_flat_len s
 omega
end Go.Proofs.YtfecnkhoojnkbaaGreatDoor.Ca
namespace Go.Proofs.YtfecnkhoojnkbaaGreatDoor.Ca
open Rul Rt Li Fo Ev
def evsF (U : Un) : Nat -> Nat -> Bool -> List E -> List Tx -> List E × Nat × Int
 | 0,i,_,_,_ => ([],i,14)
 | _ + 1,i,_,_,[] => ([],i,14)
 | f + 1,i,ver,out,h :: t => match lineE h with
  | none => ([],i,14)
  | some (n,v) =>
   if n = nVER then (if ver = true ∨ v ≠ vVER then ([],i,14) else evsF U f (i + 1) true out t)
   else if n = nBEGIN then (if capE v = wEV then match readE U (h :: t) with
     | (none,k) => ([],i + k,14)
     | (some e,k) => if e.uid ∈ uidsC out then ([],i + k - 1,14) else evsF U f (i + k) ver (out ++ [e]) (t.drop (k - 1))
    else ([],i,14))
   else if n = nEND then (if capE v = wCAL then (if t = [] then (out,i + 1,0) else ([],i + 1,14)) else ([],i,14))
   else evsF U f (i + 1) ver out t
theorem evsF_is (U : Un) : ∀ (f i : Nat) (ver : Bool) (out : List E) (l : List Tx),l.length < f -> evsC U i ver out l = evsF U f i ver out l
 | 0,_,_,_,l,h => absurd h (Nat.not_lt_zero _)
 | f + 1,i,ver,out,[],_ => by rw [evsC,evsF]
 | f + 1,i,ver,out,h :: t,hl => by
  have hl2 : t.length < f:=by simp only [List.length_cons] at hl; omega
  rw [evsC,evsF]
  cases lineE h with
  | none => rfl
  | some p =>
   obtain ⟨n,v⟩:=p
   simp only
   rw [evsF_is U f (i + 1) true out t hl2,evsF_is U f (i + 1) ver out t hl2]
   rcases readE U (h :: t) with ⟨_ | e,k⟩
   ·rfl
   ·simp only
    rw [evsF_is U f (i + k) ver (out ++ [e]) (t.drop (k - 1)) (by rw [List.length_drop]; omega)]
def linF (U : Un) (f : Nat) : List Tx -> List E × Nat × Int
 | [] => ([],0,14)
 | h :: t => match lineE h with
  | none => ([],0,14)
  | some (n,v) => if n = nBEGIN /\ capE v = wCAL then evsF U f 1 false [] t else ([],0,14)
theorem linF_is (U : Un) (f : Nat) (l : List Tx) (h : l.length <= f) : linC U l = linF U f l:=by
 cases l with
 | nil => rfl
 | cons a t =>
  unfold linC linF
  cases hl : lineE a with
  | none => simp [hl]
  | some p =>
   obtain ⟨n,v⟩:=p
   simp only [hl]
   rw [evsF_is U f 1 false [] t (by simp only [List.length_cons] at h; omega)]
def flatS (l : List Tx) : Tx:=l.flatMap fun s => s ++ crlf
theorem flatS_is : ∀ (l : List Tx),(l.all fun s => decide (s.length <= 75)) = true -> flat l = flatS l
 | [],_ => rfl
 | s :: l,h => by
  rw [List.all_cons,Bool.and_eq_true] at h
  rw [flat,flatS_is l h.2,foldE_short s (of_decide_eq_true h.1)]
  rfl
def fit1 (s : Tx) : Bool:=decide (s.length <= 75) && (decide (s.head? ≠ some 32) && decide ((13 : UInt8) ∉ s))
theorem parse_short (U : Un) (l : List Tx) (h : l.all fit1 = true) (hn : l.length <= 100) (hs : (flatS l).length <= 8000) : parseC U (flatS l) = linF U 100 l:=by
 have h1 : (l.all fun s => decide (s.length <= 75)) = true:=by
  rw [List.all_eq_true] at h ⊢
  exact fun s hs => by have:=h s hs; unfold fit1 at this; rw [Bool.and_eq_true] at this; exact this.1
 have h2 : unfoldE (flatS l) = l:=by
  rw [<- flatS_is l h1]
  refine unfold_flat l fun s hs => ?_
  have:=List.all_eq_true.1 h s hs
  unfold fit1 at this
  simp only [Bool.and_eq_true,decide_eq_true_eq] at this
  exact this.2
 unfold parseC
 rw [if_neg (by omega),h2,if_neg (by omega),linF_is U 100 l hn]
def badOK (p : List E × Nat × Int) (n : Nat) : Bool:=p.1.isEmpty && (decide (p.2.1 = n) && decide (p.2.2 = 14))
theorem badOK_is {p : List E × Nat × Int} {n : Nat} (h : badOK p n = true) : p = ([],n,14):=by
 obtain ⟨a,b,c⟩:=p
 unfold badOK at h
 simp only [Bool.and_eq_true,List.isEmpty_iff,decide_eq_true_eq] at h
 obtain ⟨rfl,rfl,rfl⟩:=h
 rfl
def oneOK (p : List E × Nat × Int) (n : Nat) : Bool:=decide (p.1.length = 1) && (decide (p.2.1 = n) && decide (p.2.2 = 0))
theorem oneOK_is {p : List E × Nat × Int} {n : Nat} (h : oneOK p n = true) : ∃ e,p = ([e],n,0):=by
 obtain ⟨a,b,c⟩:=p
 unfold oneOK at h
 simp only [Bool.and_eq_true,decide_eq_true_eq] at h
 obtain ⟨h1,rfl,rfl⟩:=h
 obtain ⟨e,rfl⟩:=List.length_eq_one_iff.1 h1
 exact ⟨e,rfl⟩
end Go.Proofs.YtfecnkhoojnkbaaGreatDoor.Ca

/- BM4; ClMathB; ClKF of the recipes, what is needed of them. -/
import Derived.Test.YtgihekokbgggcaaGreatZBM3
import Derived.Test.YtgihekokbgggcaaGreatZW4
import Derived.Test.YtgihekokbgggcaaGreatZM2
import Derived.Test.YtgihekokbgggcaaGreatZBM1
namespace Go.Proofs.YtgihekokbgggcaaGreat.Rul
open Go.Proofs.YtgihekokbgggcaaGreat
abbrev dayR (ev ct un : Int) : T:=⟨1,ev,ct,un,[],[],[]⟩
theorem dayR_rec (ev ct un : Int) (h1 : 1 <= ev) (h2 : ev <= 100) (h3 : 0 <= ct) (h4 : ct <= 40) (h5 : -1 <= un) (h6 : un <= 52595999) (h7 : ct = 0 ∨ un = -1) : recB (dayR ev ct un) = true:=by
 have a : rngB 1 ev ct un = true:=by
  unfold rngB
  rw [(btw_iff _ _ _).2 ⟨by omega,by omega⟩,(btw_iff _ _ _).2 ⟨h1,h2⟩,(btw_iff _ _ _).2 ⟨h3,h4⟩,(btw_iff _ _ _).2 ⟨h5,h6⟩]
  rcases h7 with g | g
  ·rw [g]; rfl
  ·rw [g]; simp
 rw [recB_is,a]; rfl
theorem dayR_days (ev ct un d : Int) (k : Nat) (hr : recB (dayR ev ct un) = true) (d0 : 0 <= d) (hd : d + ev * k < 36525) : perK (dayR ev ct un) d k = true /\ daysL (dayR ev ct un) d k = [d + ev * k]:=by
 have e:=recB_ev _ hr
 simp only at e
 have hk0 : 0 <= ev * (k : Int):=Int.mul_nonneg (by omega) (by omega)
 have hk1 : 1 * (k : Int) <= ev * k:=Int.mul_le_mul_of_nonneg_right e.1 (by omega)
 have hK : perK (dayR ev ct un) d k = true:=(perK_iff _ _ _).2 ⟨⟨d0,by omega⟩,hr,⟨by omega,by omega⟩,by show pA 1 d (ev * k) < 36525; rw [pA_1]; exact hd⟩
 refine ⟨hK,?_⟩
 have ea : perA (dayR ev ct un) d k = d + ev * k:=by unfold perA; rw [if_pos hK]; show max (pA 1 d (ev * k)) 0 = _; rw [pA_1]; omega
 have eb : perB (dayR ev ct un) d k = d + ev * k + 1:=by unfold perB; rw [if_pos hK]; show min (pB 1 d (ev * k)) 36525 = _; rw [pB_1]; omega
 have ho : ofB (dayR ev ct un) d (d + ev * k) = true:=by
  have hf : fitsB (dayR ev ct un) (d + ev * k) = true:=by
   unfold fitsB dayB; rw [hr,decide_eq_true (show 0 <= d + ev * k /\ d + ev * k < 36525 from ⟨by omega,hd⟩)]; rfl
  unfold ofB
  rw [hf,Bool.and_true]
  simp [hasB,wkA,dyA,moA]
 rw [daysL_yes _ _ _ hK,ea,eb,upto_succ _ _ (Int.le_refl _),upto_nil,List.nil_append,List.filter_cons,ho]
 simp
theorem dayR_candK (ev ct un s : Int) (k : Nat) (hr : recB (dayR ev ct un) = true) (s0 : 0 <= s) (hd : s / 1440 + ev * k < 36525) : candK (dayR ev ct un) s k = [s + ev * k * 1440]:=by
 have e:=recB_ev _ hr
 simp only at e
 have hk0 : 0 <= ev * (k : Int):=Int.mul_nonneg (by omega) (by omega)
 unfold candK
 rw [(dayR_days ev ct un (s / 1440) k hr (by omega) hd).2]
 have h1 : (s / 1440 + ev * k) * 1440 + s % 1440 = s + ev * k * 1440:=by rw [Int.add_mul]; omega
 have h2 : s <= s + ev * k * 1440:=by
  have : 0 <= ev * (k : Int) * 1440:=Int.mul_nonneg hk0 (by omega)
  omega
 simp [h1,h2]
theorem dayR_candT (ev ct un s : Int) (n : Nat) (hr : recB (dayR ev ct un) = true) (s0 : 0 <= s) (hd : s / 1440 + ev * ((n : Int) - 1) < 36525) : candT (dayR ev ct un) s n = (List.range n).map fun (i : Nat) => s + ev * i * 1440:=by
 have e:=recB_ev _ hr
 simp only at e
 induction n with
 | zero => rfl
 | succ n ih =>
  have h : ev * ((n : Int) - 1) <= ev * n:=Int.mul_le_mul_of_nonneg_left (by omega) (by omega)
  rw [show ((n + 1 : Nat) : Int) - 1 = n by omega] at hd
  rw [candT_succ,ih (by omega),dayR_candK ev ct un s n hr s0 hd,List.range_succ,List.map_append]
  rfl
theorem dayR_count (ev s : Int) (n : Nat) (hr : recB (dayR ev n (-1)) = true) (hn : 0 < n) (s0 : 0 <= s) (hd : s / 1440 + ev * ((n : Int) - 1) < 36525) : allL (dayR ev n (-1)) s = (List.range n).map fun (i : Nat) => s + ev * i * 1440:=by
 have e:=recB_ev _ hr
 simp only at e
 have f : ev * ((n : Int) - 1) ≥ 1 * ((n : Int) - 1):=Int.mul_le_mul_of_nonneg_right e.1 (by omega)
 obtain ⟨t,ht,_⟩:=cand_split (dayR ev n (-1)) s n (by omega)
 have hc : capN (dayR ev n (-1)) = n:=by unfold capN; rw [if_pos (by show 0 < (n : Int); omega)]; show ((n : Int)).toNat = n; omega
 rw [<- dayR_candT ev n (-1) s n hr s0 hd]
 have hl : (candT (dayR ev n (-1)) s n).length = n:=by rw [dayR_candT ev n (-1) s n hr s0 hd]; simp
 exact all_is _ _ _ t ht (fun m _ => keepU_lo _ _ (by show (-1 : Int) < 0; omega)) (by rw [hl,hc]; exact Nat.le_refl _) (Or.inr (Or.inl (by rw [hl,hc])))
end Go.Proofs.YtgihekokbgggcaaGreat.Rul
namespace Go.Proofs.YtgihekokbgggcaaGreat.Rul
open Go.Proofs.YtgihekokbgggcaaGreat
theorem isB_of_rec (r : T) (h : recB r = true) : isB r = true:=by unfold isB; rw [h,Bool.or_true]
theorem startsE_ok (r : T) (s : Int) (ex l o : List Int) (h : recB r = true) (h1 : 0 <= s) (h2 : s < 52596000) (hl : allL r s = l) (hn : l.length <= 40) (ho : (l.filter fun m => !outB ex m) = o) (hne : o ≠ []) : startsE r s ex = (o,0):=by
 have f:=recB_fr r h
 unfold startsE
 rw [if_neg (by rw [isB_of_rec r h]; simp),if_neg (by omega),if_neg (show r.fr ≠ 0 by omega),hl,if_neg (by omega),ho,if_neg hne]
theorem spansE_ok (r : T) (s g : Int) (ex l : List Int) (h : recB r = true) (h1 : 0 <= s) (h2 : s < 52596000) (hg1 : 1 <= g) (hg2 : g <= 10080) (hS : startsE r s ex = (l,0)) (ha : ∀ m ∈ l,m + g <= 52596000) : spansE r s g ex = (l.map fun m => (m,m + g),0):=by
 unfold spansE
 rw [if_neg (by rw [isB_of_rec r h]; simp),if_neg (by omega),if_neg (by omega),hS,if_neg (by simp),if_neg]
 rw [Bool.not_eq_false,List.all_eq_true]; exact fun m hm => decide_eq_true (ha m hm)
theorem filter_none (l : List Int) : (l.filter fun m => !outB [] m) = l:=List.filter_eq_self.2 fun _ _ => rfl
theorem daily_starts (ev s : Int) (n : Nat) (e1 : 1 <= ev) (e2 : ev <= 100) (hn : 0 < n) (hn2 : n <= 40) (s0 : 0 <= s) (hd : s / 1440 + ev * ((n : Int) - 1) < 36525) :
  startsE (dayR ev n (-1)) s [] = ((List.range n).map fun (i : Nat) => s + ev * i * 1440,0):=by
 have hr:=dayR_rec ev n (-1) e1 e2 (by omega) (by omega) (by omega) (by omega) (Or.inr rfl)
 have f : 1 * ((n : Int) - 1) <= ev * ((n : Int) - 1):=Int.mul_le_mul_of_nonneg_right e1 (by omega)
 refine startsE_ok _ s [] _ _ hr s0 (by omega) (dayR_count ev s n hr hn s0 hd) (by simp; omega) (filter_none _) ?_
 intro hc
 have:=congrArg List.length hc
 simp at this
 omega
end Go.Proofs.YtgihekokbgggcaaGreat.Rul
namespace Go.Proofs.YtgihekokbgggcaaGreat.Rul
open Go.Proofs.YtgihekokbgggcaaGreat
theorem cand_laterC (r : T) (s x y : Int) (i k : Nat) (hik : i < k) (hx : x ∈ candK r s i) (hy : y ∈ candK r s k) : x < y:=by
 have a:=candK_mem r s x i hx
 have b:=candK_mem r s y k hy
 have:=per_before r (s / 1440) i k hik b.1
 omega
theorem candK_upC (r : T) (s : Int) (k : Nat) : (candK r s k).Pairwise (· < ·):=by
 unfold candK
 have hp : (daysL r (s / 1440) k).Pairwise (· < ·):=by
  cases hK : perK r (s / 1440) k
  ·rw [daysL_no _ _ _ hK]; exact List.Pairwise.nil
  ·rw [daysL_yes _ _ _ hK]; exact (upto_rise _ _).filter _
 refine List.Pairwise.filter _ (List.pairwise_map.2 (hp.imp fun h => ?_))
 omega
theorem candT_upC (r : T) (s : Int) (k : Nat) : (candT r s k).Pairwise (· < ·):=by
 induction k with
 | zero => exact List.Pairwise.nil
 | succ k ih =>
  rw [candT_succ,List.pairwise_append]
  refine ⟨ih,candK_upC r s k,fun x hx y hy => ?_⟩
  obtain ⟨i,hi,hx⟩:=(candT_mem r s x k).1 hx
  exact cand_laterC r s x y i k hi hx hy
theorem allL_upC (r : T) (s : Int) : (allL r s).Pairwise (· < ·):=by
 unfold allL
 exact ((candT_upC r s 36525).filter _).take
structure Times (ts : List (Int × Int)) (g : Int) : Prop where
 g1 : 1 <= g
 len : ts.length <= 41
 pos : ts ≠ []
 lg : ∀ t ∈ ts,t.2 = t.1 + g
 ok : ∀ t ∈ ts,0 <= t.1 /\ t.2 <= 52596000
 up : ts.Pairwise fun a b => a.1 < b.1
theorem startsE_cases (r : T) (s : Int) (ex : List Int) : (startsE r s ex).1 = [] /\ (startsE r s ex).2 ≠ 0 ∨ ∃ L,L = (if r.fr = 0 then [s] else allL r s) /\ startsE r s ex = (L.filter fun m => !outB ex m,0) /\ (L.filter fun m => !outB ex m) ≠ [] /\ L.length <= 40 /\ 0 <= s:=by
 unfold startsE
 by_cases h1 : isB r = false
 ·rw [if_pos h1]; exact Or.inl ⟨rfl,by simp⟩
 ·rw [if_neg h1]
  by_cases h2 : s < 0 ∨ 52596000 <= s
  ·rw [if_pos h2]; exact Or.inl ⟨rfl,by simp⟩
  ·rw [if_neg h2]
   obtain ⟨L,hL⟩ : ∃ L,L = (if r.fr = 0 then [s] else allL r s):=⟨_,rfl⟩
   rw [<- hL]
   by_cases h3 : 40 < L.length
   ·rw [if_pos h3]; exact Or.inl ⟨rfl,by simp⟩
   ·rw [if_neg h3]
    by_cases h4 : (L.filter fun m => !outB ex m) = []
    ·rw [if_pos h4]; exact Or.inl ⟨rfl,by simp⟩
    ·rw [if_neg h4]; exact Or.inr ⟨L,rfl,rfl,h4,by omega,by omega⟩
theorem startsE_up (r : T) (s : Int) (ex : List Int) : (startsE r s ex).1.Pairwise (· < ·):=by
 rcases startsE_cases r s ex with ⟨h,_⟩ | ⟨L,hL,h,_⟩
 ·rw [h]; exact List.Pairwise.nil
 ·rw [h,hL]
  refine List.Pairwise.filter _ ?_
  split
  ·exact List.pairwise_singleton _ _
  ·exact allL_upC r s
theorem startsE_ne (r : T) (s : Int) (ex : List Int) (h : (startsE r s ex).2 = 0) : (startsE r s ex).1 ≠ []:=by
 rcases startsE_cases r s ex with ⟨_,h2⟩ | ⟨L,hL,h2,h3,_⟩
 ·exact absurd h h2
 ·rw [h2]; exact h3
theorem startsE_bd (r : T) (s : Int) (ex : List Int) : (∀ m ∈ (startsE r s ex).1,0 <= m) /\ (startsE r s ex).1.length <= 41:=by
 rcases startsE_cases r s ex with ⟨h,_⟩ | ⟨L,hL,h,_,h3,h4⟩
 ·rw [h]; exact ⟨fun m hm => absurd hm List.not_mem_nil,Nat.zero_le _⟩
 ·rw [h]
  refine ⟨fun m hm => ?_,Nat.le_trans (List.length_filter_le _ _) (by omega)⟩
  have hm:=(List.mem_filter.1 hm).1
  rw [hL] at hm
  split at hm
  ·rw [List.mem_singleton.1 hm]; exact h4
  ·obtain ⟨i,_,hi⟩:=(candT_mem r s m 36525).1 (allL_sub r s m hm).1
   have:=(candK_mem r s m i hi).2.2.2.2.1
   omega
theorem spansE_cases (r : T) (s g : Int) (ex : List Int) : (spansE r s g ex).1 = [] /\ (spansE r s g ex).2 ≠ 0 ∨ (spansE r s g ex = ((startsE r s ex).1.map fun m => (m,m + g),0) /\ 1 <= g /\ (startsE r s ex).2 = 0 /\ ∀ m ∈ (startsE r s ex).1,m + g <= 52596000):=by
 unfold spansE
 by_cases h1 : isB r = false
 ·rw [if_pos h1]; exact Or.inl ⟨rfl,by simp⟩
 ·rw [if_neg h1]
  by_cases h2 : s < 0 ∨ 52596000 <= s
  ·rw [if_pos h2]; exact Or.inl ⟨rfl,by simp⟩
  ·rw [if_neg h2]
   by_cases h3 : g < 1 ∨ 10080 < g
   ·rw [if_pos h3]; exact Or.inl ⟨rfl,by simp⟩
   ·rw [if_neg h3]
    by_cases h4 : (startsE r s ex).2 ≠ 0
    ·rw [if_pos h4]; exact Or.inl ⟨rfl,h4⟩
    ·rw [if_neg h4]
     by_cases h5 : ((startsE r s ex).1.all fun m => decide (m + g <= 52596000)) = false
     ·rw [if_pos h5]; exact Or.inl ⟨rfl,by simp⟩
     ·rw [if_neg h5]
      exact Or.inr ⟨rfl,by omega,by simpa using h4,by simpa using h5⟩
theorem spansE_none (r : T) (s g : Int) (ex : List Int) (h : (spansE r s g ex).2 ≠ 0) : (spansE r s g ex).1 = []:=by
 rcases spansE_cases r s g ex with ⟨h1,_⟩ | ⟨h1,_⟩
 ·exact h1
 ·rw [h1] at h; exact absurd rfl h
theorem spansE_times (r : T) (s g : Int) (ex : List Int) (h : (spansE r s g ex).2 = 0) : Times (spansE r s g ex).1 g:=by
 rcases spansE_cases r s g ex with ⟨_,h1⟩ | ⟨h1,hg,h2,ha⟩
 ·exact absurd h h1
 ·rw [h1]
  have hb:=startsE_bd r s ex
  have hu:=startsE_up r s ex
  have he:=startsE_ne r s ex h2
  generalize (startsE r s ex).1 = L at *
  refine ⟨hg,by simpa using hb.2,by simpa using he,fun t ht => ?_,fun t ht => ?_,?_⟩
  ·obtain ⟨m,_,rfl⟩:=List.mem_map.1 ht; rfl
  ·obtain ⟨m,hm,rfl⟩:=List.mem_map.1 ht; exact ⟨hb.1 m hm,ha m hm⟩
  ·exact List.pairwise_map.2 hu
end Go.Proofs.YtgihekokbgggcaaGreat.Rul
namespace Go.Proofs.YtgihekokbgggcaaGreat.S2
open Go.Proofs.YtgihekokbgggcaaGreat Go.Proofs.YtgihekokbgggcaaGreat.Rul Spn Cl
def eachL (rooms : List Int) (ts : List Sp) : List C:=rooms.flatMap fun q => ts.map fun t => (q,t)
def eachT (rooms : List Int) (ts : List Sp) : List C:=ts.flatMap fun t => rooms.map fun q => (q,t)
def lapAt (l : List Sp) (j : Nat) : Bool:=okB (meet (l.getD j (0,0)) (l.getD (j + 1) (0,0)))
def lapB (l : List Sp) : Bool:=(List.range (l.length - 1)).any (lapAt l)
def ofC (e : Ev.E) : List C × Int :=
 if Ev.isE e = false then ([],14)
 else if (spansE e.r e.st e.lg e.ex).2 ≠ 0 then ([],(spansE e.r e.st e.lg e.ex).2)
 else if lapB (spansE e.r e.st e.lg e.ex).1 = true then ([],13)
 else (neatC (eachL e.rooms (spansE e.r e.st e.lg e.ex).1),0)
theorem lapB_yes (l : List Sp) (j : Nat) (h : j + 1 < l.length) (hl : lapAt l j = true) : lapB l = true:=by
 unfold lapB; rw [List.any_eq_true]; exact ⟨j,List.mem_range.2 (by omega),hl⟩
theorem lapB_no (l : List Sp) (h : ∀ j,j + 1 < l.length -> lapAt l j = false) : lapB l = false:=by
 unfold lapB; rw [List.any_eq_false]; intro j hj; have:=List.mem_range.1 hj; rw [h j (by omega)]; simp
theorem lapB_at (l : List Sp) (h : lapB l = false) (j : Nat) (hj : j + 1 < l.length) : lapAt l j = false:=by
 unfold lapB at h; rw [List.any_eq_false] at h; simpa using h j (List.mem_range.2 (by omega))
theorem getD_lt (l : List Sp) (j : Nat) (h : j < l.length) : l.getD j (0,0) = l[j]:=by rw [List.getD_eq_getElem?_getD,List.getElem?_eq_getElem h]; rfl
theorem lapAt_eq (l : List Sp) (j : Nat) (h : j + 1 < l.length) : lapAt l j = okB (meet l[j] l[j + 1]):=by unfold lapAt; rw [getD_lt l j (by omega),getD_lt l (j + 1) h]
theorem lap_times (l : List Sp) (g : Int) (ht : Times l g) (j : Nat) (h : j + 1 < l.length) : lapAt l j = decide (l[j + 1].1 < l[j].2):=by
 rw [lapAt_eq l j h]
 have h1:=ht.lg l[j] (List.getElem_mem _)
 have h2:=ht.lg l[j + 1] (List.getElem_mem _)
 have o1:=ht.ok l[j] (List.getElem_mem _)
 have o2:=ht.ok l[j + 1] (List.getElem_mem _)
 have hu:=List.pairwise_iff_getElem.1 ht.up j (j + 1) (by omega) h (by omega)
 have hg:=ht.g1
 rw [Bool.eq_iff_iff,okB_iff,ok_meet,decide_eq_true_eq]
 constructor
 ·rintro ⟨_,_,h3⟩; omega
 ·intro h3; refine ⟨?_,?_,?_⟩
  ·unfold Ok; omega
  ·unfold Ok; omega
  ·omega
theorem times_apart (l : List Sp) (g : Int) (ht : Times l g) (hl : lapB l = false) : l.Pairwise fun a b => a.2 <= b.1:=by
 refine List.pairwise_iff_getElem.2 fun i j hi hj hij => ?_
 have h:=lapB_at l hl i (by omega)
 rw [lap_times l g ht i (by omega),decide_eq_false_iff_not] at h
 rcases Nat.lt_or_ge (i + 1) j with hlt | hge
 ·have:=List.pairwise_iff_getElem.1 ht.up (i + 1) j (by omega) hj hlt
  omega
 ·obtain rfl : j = i + 1:=by omega
  omega
theorem times_okS (l : List Sp) (g : Int) (ht : Times l g) : ∀ t ∈ l,Ok t:=fun t h => by
 have h1:=ht.lg t h
 have h2:=ht.ok t h
 have h3:=ht.g1
 unfold Ok; omega
theorem sum_apart : ∀ (l : List Sp),(∀ t ∈ l,Ok t) -> (l.Pairwise fun a b => a.2 <= b.1) -> sumL (canon l) = sumL l:=fun l => by
 induction l using snoc_ind with
 | h0 => intro _ _; rfl
 | h1 l a ih =>
  intro hok hp
  have h1:=ih (fun t ht => hok t (List.mem_append_left _ ht)) (List.pairwise_append.1 hp).1
  have ha:=hok a (by simp)
  have hn : Neat [a]:=⟨ha,fun b hb => by simp at hb,trivial⟩
  have e : sumL (l ++ [a]) = sumL l + long a:=by unfold sumL; simp
  have e2 : sumL [a] = long a:=by unfold sumL; simp
  rw [e,<- h1,<- e2]
  refine sum_add (canon l) [a] (canon (l ++ [a])) (canon_neat l).1 hn (canon_neat _).1 (fun m => ?_) fun m hm hc => ?_
  ·rw [(canon_neat (l ++ [a])).2 m,(canon_neat l).2 m,has_append]
  ·rw [(canon_neat l).2 m] at hm
   obtain ⟨b,hb,_,b1,b2⟩:=hm
   have:=(List.pairwise_append.1 hp).2.2 b hb a (by simp)
   have h3:=(has_one a m).1 hc
   omega
theorem sum_same (l : List Sp) (g : Int) (h : ∀ t ∈ l,Ok t /\ t.2 = t.1 + g) : sumL l = (l.length : Int) * g:=by
 induction l with
 | nil => simp [sumL]
 | cons a l ih =>
  have e : sumL (a :: l) = long a + sumL l:=by unfold sumL; simp
  have ha:=h a List.mem_cons_self
  rw [e,ih fun t ht => h t (List.mem_cons_of_mem _ ht),(long_pos a ha.1).1,List.length_cons,Int.natCast_succ,Int.add_mul,Int.one_mul]
  omega
theorem each_has (rooms : List Int) (ts : List Sp) (r m : Int) : HasC (eachL rooms ts) r m ↔ r ∈ rooms /\ Has ts m:=by
 unfold HasC eachL Has
 constructor
 ·rintro ⟨s,hs,h⟩
  obtain ⟨q,hq,hs⟩:=List.mem_flatMap.1 hs
  obtain ⟨t,ht,e⟩:=List.mem_map.1 hs
  injection e with e1 e2
  subst e1 e2
  exact ⟨hq,t,ht,h⟩
 ·rintro ⟨hr,s,hs,h⟩
  exact ⟨s,List.mem_flatMap.2 ⟨r,hr,List.mem_map.2 ⟨s,hs,rfl⟩⟩,h⟩
theorem eachT_has (rooms : List Int) (ts : List Sp) (r m : Int) : HasC (eachT rooms ts) r m ↔ r ∈ rooms /\ Has ts m:=by
 unfold HasC eachT Has
 constructor
 ·rintro ⟨s,hs,h⟩
  obtain ⟨t,ht,hs⟩:=List.mem_flatMap.1 hs
  obtain ⟨q,hq,e⟩:=List.mem_map.1 hs
  injection e with e1 e2
  subst e1 e2
  exact ⟨hq,t,ht,h⟩
 ·rintro ⟨hr,s,hs,h⟩
  exact ⟨s,List.mem_flatMap.2 ⟨s,hs,List.mem_map.2 ⟨r,hr,rfl⟩⟩,h⟩
theorem each_neat (rooms : List Int) (ts : List Sp) : neatC (eachT rooms ts) = neatC (eachL rooms ts):=neatC_ext fun r _ m => by rw [eachT_has,each_has]
theorem eachL_len (rooms : List Int) (ts : List Sp) : (eachL rooms ts).length = rooms.length * ts.length:=by
 unfold eachL
 induction rooms with
 | nil => simp
 | cons a l ih => rw [List.flatMap_cons,List.length_append,ih,List.length_map,List.length_cons,Nat.succ_mul]; omega
theorem eachT_len (rooms : List Int) (ts : List Sp) : (eachT rooms ts).length = ts.length * rooms.length:=by
 unfold eachT
 induction ts with
 | nil => simp
 | cons a l ih => rw [List.flatMap_cons,List.length_append,ih,List.length_map,List.length_cons,Nat.succ_mul]; omega
def roomF (rooms : List Int) (ts : List Sp) (r : Nat) : List Sp:=if (r : Int) ∈ rooms then canon ts else []
theorem each_room (rooms : List Int) (ts : List Sp) (r : Nat) (hr : r < 8) : neatF (eachL rooms ts) r = roomF rooms ts r:=by
 refine neat_ext _ _ (neatF_neat _ r) ?_ fun m => ?_
 ·unfold roomF; split
  ·exact (canon_neat ts).1
  ·trivial
 ·rw [neatF_has _ r hr,each_has]
  unfold roomF
  by_cases h : (r : Int) ∈ rooms
  ·rw [if_pos h,(canon_neat ts).2 m]; exact ⟨fun k => k.2,fun k => ⟨h,k⟩⟩
  ·rw [if_neg h]; exact ⟨fun k => absurd k.1 h,fun k => absurd k (has_nil m)⟩
theorem one_room (a S : Int) (h0 : 0 <= a) (h1 : a < 8) : ((List.range 8).map fun (r : Nat) => if (r : Int) = a then S else 0).sum = S:=by
 rcases (by omega : a = 0 ∨ a = 1 ∨ a = 2 ∨ a = 3 ∨ a = 4 ∨ a = 5 ∨ a = 6 ∨ a = 7) with rfl | rfl | rfl | rfl | rfl | rfl | rfl | rfl <;> simp [List.range_succ]
theorem sum_two (f g h : Nat -> Int) (e : ∀ r,f r = g r + h r) : ∀ n,((List.range n).map f).sum = ((List.range n).map g).sum + ((List.range n).map h).sum
 | 0 => rfl
 | n + 1 => by
  rw [List.range_succ]; simp only [List.map_append,List.sum_append_int,List.map_cons,List.map_nil,List.sum_cons,List.sum_nil]
  rw [sum_two f g h e n,e n]; omega
theorem rooms_sum (S : Int) : ∀ (l : List Int),l.Nodup -> (∀ q ∈ l,0 <= q /\ q < 8) -> ((List.range 8).map fun (r : Nat) => if (r : Int) ∈ l then S else 0).sum = (l.length : Int) * S
 | [],_,_ => by simp [List.range_succ]
 | a :: l,hn,hb => by
  have hn:=List.nodup_cons.1 hn
  have ih:=rooms_sum S l hn.2 fun q hq => hb q (List.mem_cons_of_mem _ hq)
  have ha:=hb a List.mem_cons_self
  rw [sum_two (fun (r : Nat) => if (r : Int) ∈ a :: l then S else 0) (fun (r : Nat) => if (r : Int) = a then S else 0) (fun (r : Nat) => if (r : Int) ∈ l then S else 0) (fun r => ?_) 8,ih,one_room a S ha.1 ha.2,List.length_cons,Int.natCast_succ,Int.add_mul,Int.one_mul]
  ·omega
  ·by_cases h1 : (r : Int) = a
   ·have h2 : ¬ (r : Int) ∈ l:=by rw [h1]; exact hn.1
    simp [h1,hn.1]
   ·simp [h1]
theorem each_long (rooms : List Int) (ts : List Sp) (hn : rooms.Nodup) (hb : ∀ q ∈ rooms,0 <= q /\ q < 8) : longC (eachL rooms ts) = (rooms.length : Int) * sumL (canon ts):=by
 unfold longC
 rw [longF_ext (g:=roomF rooms ts) fun r hr => each_room rooms ts r hr,<- rooms_sum _ rooms hn hb]
 unfold longF roomF
 congr 1
 refine List.map_congr_left fun r _ => ?_
 split <;> simp [sumL]
theorem longC_neat (l : List C) : longC (neatC l) = longC l:=longF_ext fun r hr => neatF_out _ r hr (neatF_neat l r)
theorem is_rooms {e : Ev.E} (h : Ev.isE e = true) : e.rooms.Nodup /\ (∀ q ∈ e.rooms,0 <= q /\ q < 8) /\ e.rooms.length <= 4:=by
 obtain ⟨h1,h2,h3⟩:=(Ev.roomsB_iff e.rooms).1 ((Ev.isE_iff e).1 h).rooms
 refine ⟨List.Pairwise.imp (fun {a b} hab => ?_) h3,fun q hq => ?_,h1.2⟩
 ·have : a < b:=by simpa [inLt] using hab
  omega
 ·have:=h2 q hq
  unfold Ev.roomB at this
  rw [btw_iff] at this
  omega
end Go.Proofs.YtgihekokbgggcaaGreat.S2
namespace Go.Proofs.YtgihekokbgggcaaGreat.S2
open Go.Proofs.YtgihekokbgggcaaGreat Spn Cl
def eK : Ev.E:=⟨[97],[],90,60,[1,3],Rul.once,[]⟩
def eZ : Ev.E:=⟨[],[],0,0,[],⟨0,0,0,0,[],[],[]⟩,[]⟩
def lK : List C:=[(1,(90,150)),(3,(90,150))]
def mK : List C:=[(2,(5,9)),(1,(0,3)),(2,(9,10))]
def nK : List C:=[(1,(0,3)),(2,(5,10))]
theorem kOf : ofC eK = (lK,0):=by decide +kernel
theorem kOfZ : ofC eZ = ([],14):=by decide +kernel
theorem kNeat : neatC mK = nK:=by decide +kernel
theorem kLong : longC lK = 120:=by decide +kernel
theorem kIs : okC (0,(0,1)) = true:=by decide +kernel
theorem kNot : okC (8,(0,1)) = false:=by decide +kernel
theorem kLess : lessC (1,(5,6)) (2,(0,1)) = true:=by decide +kernel
theorem kApart (r m : Int) (h : HasC lK r m) : ¬ HasC nK r m:=by
 rintro ⟨s,hs,h2⟩
 obtain ⟨t,ht,h3⟩:=h
 simp only [lK,nK,List.mem_cons,List.not_mem_nil,or_false,Prod.mk.injEq] at hs ht
 rcases hs with ⟨e1,e2⟩ | ⟨e1,e2⟩ <;> rcases ht with ⟨f1,f2⟩ | ⟨f1,f2⟩ <;> subst e2 <;> subst f2 <;> simp only at h2 h3 <;> omega
theorem kMeet : meetC lK nK = []:=by
 have : meetC lK nK = outC fun _ => []:=outC_ext fun r hr => neat_empty _ (com_neatF lK nK r) fun m => by
  rw [comF_has lK nK r hr]; exact fun h => kApart r m h.1 h.2
 rw [this]; rfl
theorem kMinus : neatC (minusC lK nK) = neatC lK:=neatC_ext fun r hr m => by
 rw [minusC_has lK nK r hr]; exact ⟨fun h => h.1,fun h => ⟨h,kApart r m h⟩⟩
end Go.Proofs.YtgihekokbgggcaaGreat.S2

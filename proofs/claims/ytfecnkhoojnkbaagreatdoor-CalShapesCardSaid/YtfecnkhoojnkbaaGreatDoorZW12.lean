/- EvP; RtRot; RtBacF of the recipes, what is needed of them. -/
import Derived.Test.YtfecnkhoojnkbaaGreatDoorZEvG
import Derived.Test.YtfecnkhoojnkbaaGreatDoorZM2
import Derived.Test.YtfecnkhoojnkbaaGreatDoorZW5b
set_option maxHeartbeats 8000000
set_option maxRecDepth 100000
namespace Go.Proofs.YtfecnkhoojnkbaaGreatDoor
open Go.RowKit Rul Rt Go.Sort
def ParseN (w : World) (o : Option T) (e : Ending) (w' : World) : Prop:=Below w.heap.size w w' ∧
 ((o = none /\ e = .returned (.tuple #[noRule,.int .i64 12])) ∨ ∃ r D dn dc M mn mc Y yn yc,o = some r /\ e = .returned (.tuple #[ruleV r D dn dc M mn mc Y yn yc,.int .i64 0]) /\ Lies w' D dn M mn Y yn r.ds r.ms r.ys ∧
  (∀ g o,D = some ⟨g,o,none⟩ -> w.heap.size <= g) /\ (∀ g o,M = some ⟨g,o,none⟩ -> w.heap.size <= g) /\ (∀ g o,Y = some ⟨g,o,none⟩ -> w.heap.size <= g))
theorem parse_new (s : ByteArray) (w : World) (he : Env w) (hs : s.size <= 100000) :
  Calls Tryz.prog 229 #[.string s] w (ParseN w (ansC unU s.data.toList)):=by
 have HE:=hide he
 have HZ:=hide (rule_new w 44)
 have HZB : Hid (Below w.heap.size w (w.alloc (.cells #[.int .i64 0,.int .i64 0,.int .i64 0,.int .i64 0,.slice none 0 0,.slice none 0 0,.slice none 0 0] 44))):=hide (more (start w) _)
 clear he
 go_enter Tryz.func229,Tryz.ntmps229
 go_wp2_with fail
 refine (partsOf_at s _ (HE.out.keep HZB.out) hs).mono ?_
 rintro e w1 ⟨A,cap,rfl,hr,hb1⟩
 have hle:=splitN_le 59 7 s.data.toList
 rw [len_of] at hle
 have HRD:=hide (fun w hr he => read_any A _ cap (Lib.splitN s.data.toList [59] 8) w hr rfl (Nat.le_trans hle.2 (by omega)) (fun p hp => Nat.le_trans (hle.1 p hp) hs) he)
 obtain ⟨O,hO⟩ : ∃ O,readC unU (Lib.splitN s.data.toList [59] 8) = O:=⟨_,rfl⟩
 have hA:=ansC_of unU s.data.toList
 rw [hO] at HRD hA
 have HA:=hide hA
 replace HZ:=hide (HZ.out.keep hb1)
 replace HZB:=hide (andthen HZB.out hb1)
 have HRR:=hide hr
 generalize Lib.splitN s.data.toList [59] 8 = L at *
 clear hO hle hb1 hr hA
 go_wp2_with fail
 refine (HRD.out _ HRR.out (HE.out.keep HZB.out)).mono ?_
 rintro e w2 ⟨hb2,⟨rfl,rfl⟩ | ⟨r,D,dn,dc,M,mn,mc,Y,yn,yc,rfl,rfl,hlies⟩⟩
 ·have HF : Hid (ansC unU s.data.toList = none):=HA
  unfold noRule
  replace HZ:=hide ((HZ.out.keep hb2).keep (more (start w2) (.cells #[.int .i64 0,.int .i64 0,.int .i64 0,.int .i64 0,.slice none 0 0,.slice none 0 0,.slice none 0 0] 44)))
  replace HZB:=hide (more (andthen HZB.out hb2) (.cells #[.int .i64 0,.int .i64 0,.int .i64 0,.int .i64 0,.slice none 0 0,.slice none 0 0,.slice none 0 0] 44))
  clear hb2
  have z0:=HZ.out.c0
  have z1:=HZ.out.c1
  have z2:=HZ.out.c2
  have z3:=HZ.out.c3
  have z4:=HZ.out.c4
  have z5:=HZ.out.c5
  have z6:=HZ.out.c6
  have f0:=HZ.out.f0
  have f1:=HZ.out.f1
  have f2:=HZ.out.f2
  have f3:=HZ.out.f3
  have f4:=HZ.out.f4
  have f5:=HZ.out.f5
  have f6:=HZ.out.f6
  have hlz:=HZ.out.lt
  go_wp2_with fail
  refine ret_gen (ZeroAt w) (zero_7 HZ.out HZB.out) ?_
  rintro WF ⟨⟨c0,c1,c2,c3,c4,c5,c6⟩,hb⟩
  exact bodyPost_ret (v:=.tuple #[noRule,.int .i64 12]) (by simp [results,Tryz.results229,go_sem,c0,c1,c2,c3,c4,c5,c6,noRule]) rfl ⟨hb,Or.inl ⟨HF.out,rfl⟩⟩
 ·have HL:=hide hlies
  unfold ruleV
  obtain ⟨fr,ev,ct,un,ds,ms,ys⟩:=r
  simp only at HL ⊢
  have hR:=fun w h => ruleIs_any fr ev ct un D M Y dn dc mn mc yn yc ds ms ys w h
  have hO : ruleOnly (some ⟨fr,ev,ct,un,ds,ms,ys⟩) = if isB ⟨fr,ev,ct,un,ds,ms,ys⟩ = true then some ⟨fr,ev,ct,un,ds,ms,ys⟩ else none:=rfl
  rw [hO] at HA
  have h01:=HZ.out.lt
  obtain ⟨X,hX⟩ : ∃ X,w2.heap.size = X:=⟨_,rfl⟩
  obtain ⟨q0,q1,q2,q3,q4,q5,q6⟩:=box_cells w2 44 (.int .i64 fr) (.int .i64 ev) (.int .i64 ct) (.int .i64 un) (.slice D dn dc) (.slice M mn mc) (.slice Y yn yc) hX
  replace HL:=hide (HL.out.keep (more (start w2) (.cells #[.int .i64 fr,.int .i64 ev,.int .i64 ct,.int .i64 un,.slice D dn dc,.slice M mn mc,.slice Y yn yc] 44)))
  replace HZ:=hide ((HZ.out.keep hb2).keep (more (start w2) (.cells #[.int .i64 fr,.int .i64 ev,.int .i64 ct,.int .i64 un,.slice D dn dc,.slice M mn mc,.slice Y yn yc] 44)))
  replace HZB:=hide (more (andthen HZB.out hb2) (.cells #[.int .i64 fr,.int .i64 ev,.int .i64 ct,.int .i64 un,.slice D dn dc,.slice M mn mc,.slice Y yn yc] 44))
  have HQ:=hide (And.intro q0 (And.intro q1 (And.intro q2 (And.intro q3 (And.intro q4 (And.intro q5 q6))))))
  clear hb2 hlies hO q0 q1 q2 q3 q4 q5 q6
  by_cases hb : isB ⟨fr,ev,ct,un,ds,ms,ys⟩ = true
  ·rw [if_pos hb] at HA
   rw [hb] at hR
   have HRR2:=hide hR
   clear hR hb
   obtain ⟨q0,q1,q2,q3,q4,q5,q6⟩:=HQ.out
   go_wp2_with fail
   refine (HRR2.out _ HL.out.lies).mono ?_
   rintro e w3 ⟨rfl,hb3⟩
   replace HL:=hide (HL.out.keep hb3)
   replace HZ:=hide (HZ.out.keep hb3)
   replace HZB:=hide (andthen HZB.out hb3)
   have x0:=cell_keep hb3 HQ.out.1
   have x1:=cell_keep hb3 HQ.out.2.1
   have x2:=cell_keep hb3 HQ.out.2.2.1
   have x3:=cell_keep hb3 HQ.out.2.2.2.1
   have x4:=cell_keep hb3 HQ.out.2.2.2.2.1
   have x5:=cell_keep hb3 HQ.out.2.2.2.2.2.1
   have x6:=cell_keep hb3 HQ.out.2.2.2.2.2.2
   rw [hX] at *
   have HCP:=hide (HZ.out.copy HL.out h01)
   have z0:=HZ.out.c0
   have z1:=HZ.out.c1
   have z2:=HZ.out.c2
   have z3:=HZ.out.c3
   have z4:=HZ.out.c4
   have z5:=HZ.out.c5
   have z6:=HZ.out.c6
   have f0:=HZ.out.f0
   have f1:=HZ.out.f1
   have f2:=HZ.out.f2
   have f3:=HZ.out.f3
   have f4:=HZ.out.f4
   have f5:=HZ.out.f5
   have f6:=HZ.out.f6
   have hlz:=HZ.out.lt
   clear hb3 HQ q0 q1 q2 q3 q4 q5 q6
   go_wp2_with fail
   refine ret_gen (RuleIn w ⟨fr,ev,ct,un,ds,ms,ys⟩ D dn dc M mn mc Y yn yc) ⟨_,HCP.out,below_7 HZB.out (Nat.le_refl _)⟩ ?_
   rintro WF ⟨_,hr,hb⟩
   exact bodyPost_ret (v:=.tuple #[ruleV ⟨fr,ev,ct,un,ds,ms,ys⟩ D dn dc M mn mc Y yn yc,.int .i64 0]) (by simp [results,Tryz.results229,go_sem,hr.c0,hr.c1,hr.c2,hr.c3,hr.c4,hr.c5,hr.c6,ruleV]) rfl ⟨hb,Or.inr ⟨_,_,_,_,_,_,_,_,_,_,HA.out,rfl,hr.lies,fun g o e => Nat.le_of_lt (hr.od g o e).2.2.2,fun g o e => Nat.le_of_lt (hr.om g o e).2.2.2,fun g o e => Nat.le_of_lt (hr.oy g o e).2.2.2⟩⟩
  ·rw [if_neg hb] at HA
   rw [Bool.eq_false_iff.2 hb] at hR
   have HF:=HA
   have HRR2:=hide hR
   clear hR hb
   obtain ⟨q0,q1,q2,q3,q4,q5,q6⟩:=HQ.out
   go_wp2_with fail
   refine (HRR2.out _ HL.out.lies).mono ?_
   rintro e w3 ⟨rfl,hb3⟩
   replace HZ:=hide (HZ.out.keep hb3)
   replace HZB:=hide (andthen HZB.out hb3)
   have z0:=HZ.out.c0
   have z1:=HZ.out.c1
   have z2:=HZ.out.c2
   have z3:=HZ.out.c3
   have z4:=HZ.out.c4
   have z5:=HZ.out.c5
   have z6:=HZ.out.c6
   have f0:=HZ.out.f0
   have f1:=HZ.out.f1
   have f2:=HZ.out.f2
   have f3:=HZ.out.f3
   have f4:=HZ.out.f4
   have f5:=HZ.out.f5
   have f6:=HZ.out.f6
   have hlz:=HZ.out.lt
   clear hb3 HQ q0 q1 q2 q3 q4 q5 q6
   go_wp2_with fail
   refine ret_gen (ZeroAt w) (zero_7 HZ.out HZB.out) ?_
   rintro WF ⟨⟨c0,c1,c2,c3,c4,c5,c6⟩,hb⟩
   exact bodyPost_ret (v:=.tuple #[noRule,.int .i64 12]) (by simp [results,Tryz.results229,go_sem,c0,c1,c2,c3,c4,c5,c6,noRule]) rfl ⟨hb,Or.inl ⟨HF.out,rfl⟩⟩
def MayN (w : World) (o : Option T) (e : Ending) (w' : World) : Prop:=Below w.heap.size w w' /\ ∃ r D dn dc M mn mc Y yn yc,e = .returned (.tuple #[ruleV r D dn dc M mn mc Y yn yc,.bool o.isSome]) ∧
 (∀ q,o = some q -> q = r /\ Lies w' D dn M mn Y yn r.ds r.ms r.ys /\ (∀ g o,D = some ⟨g,o,none⟩ -> w.heap.size <= g) /\ (∀ g o,M = some ⟨g,o,none⟩ -> w.heap.size <= g) /\ (∀ g o,Y = some ⟨g,o,none⟩ -> w.heap.size <= g))
theorem Lies.grow {w w' : World} {c : Nat} {D M Y : Option Addr} {dn mn yn : Nat} {ds : List Wd} {ms ys : List Int} (h : Lies w D dn M mn Y yn ds ms ys) (g : w.grownBy w' (some c)) (hd : ∀ b o,D = some ⟨b,o,none⟩ -> b ≠ c) (hm : ∀ b o,M = some ⟨b,o,none⟩ -> b ≠ c) (hy : ∀ b o,Y = some ⟨b,o,none⟩ -> b ≠ c) : Lies w' D dn M mn Y yn ds ms ys :=
 ⟨h.d.grow g (fun b o e k => hd b o e (by injection k)),h.dn,h.dl,h.m.grow g (fun b o e k => hm b o e (by injection k)),h.mn,h.ml,h.y.grow g (fun b o e k => hy b o e (by injection k)),h.yn,h.yl⟩
theorem parse_all (s : ByteArray) (w : World) (he : Env w) (hs : s.size <= 100000) :
  Calls Tryz.prog 229 #[.string s] w fun e w' => Below w.heap.size w w' /\ ∃ (r : T) (er : Int) (D : Option Addr) (dn dc : Nat) (M : Option Addr) (mn mc : Nat) (Y : Option Addr) (yn yc : Nat),e = .returned (.tuple #[.agg #[.int .i64 r.fr,.int .i64 r.ev,.int .i64 r.ct,.int .i64 r.un,.slice D dn dc,.slice M mn mc,.slice Y yn yc],.int .i64 er]) /\ (er == 0) = (ansC unU s.data.toList).isSome /\ (∀ q,ansC unU s.data.toList = some q -> q = r) /\ Lies w' D dn M mn Y yn r.ds r.ms r.ys ∧
   (∀ g o,D = some ⟨g,o,none⟩ -> w.heap.size <= g) /\ (∀ g o,M = some ⟨g,o,none⟩ -> w.heap.size <= g) /\ (∀ g o,Y = some ⟨g,o,none⟩ -> w.heap.size <= g):=by
 refine (parse_new s w he hs).mono ?_
 rintro e w' ⟨hb,⟨h1,h2⟩ | ⟨r,D,dn,dc,M,mn,mc,Y,yn,yc,h1,h2,h3,h4,h5,h6⟩⟩
 ·exact ⟨hb,⟨0,0,0,0,[],[],[]⟩,12,none,0,0,none,0,0,none,0,0,h2,by rw [h1]; rfl,fun q hq => (by rw [h1] at hq; cases hq),lies_once _,(fun _ _ h => by cases h),(fun _ _ h => by cases h),(fun _ _ h => by cases h)⟩
 ·exact ⟨hb,r,0,D,dn,dc,M,mn,mc,Y,yn,yc,h2,by rw [h1]; rfl,fun q hq => (by rw [h1] at hq; injection hq with hq; exact hq.symm),h3,h4,h5,h6⟩
theorem recur_any (s : ByteArray) (w : World) (he : Env w) (hs : s.size <= 100000) :
  Calls Tryz.prog 219 #[.string s] w (MayN w (ansC unU s.data.toList)):=by
 have hb0:=more (start w) (.cells #[.int .i64 0,.int .i64 0,.int .i64 0,.int .i64 0,.slice none 0 0,.slice none 0 0,.slice none 0 0] 44)
 have hz:=blk_new w #[.int .i64 0,.int .i64 0,.int .i64 0,.int .i64 0,.slice none 0 0,.slice none 0 0,.slice none 0 0] 44
 have HP:=hide (fun w he => parse_all s w he hs)
 have HE:=hide (he.keep hb0)
 have HZ:=hide hz
 have HB:=hide hb0
 clear he hz hb0
 obtain ⟨O,hO⟩ : ∃ O,ansC unU s.data.toList = O:=⟨_,rfl⟩
 rw [hO] at HP ⊢
 clear hO
 go_enter Tryz.func219,Tryz.ntmps219
 go_wp2_with fail
 refine (HP.out _ HE.out).mono ?_
 rintro e w1 ⟨hb,r,er,D,dn,dc,M,mn,mc,Y,yn,yc,rfl,h1,h2,h3,h4,h5,h6⟩
 obtain ⟨fr,ev,ct,un,ds,ms,ys⟩:=r
 simp only at h3 ⊢
 have H1:=hide h1
 have H2:=hide h2
 have hb2:=more (start w1) (.cells #[.int .i64 fr,.int .i64 ev,.int .i64 ct,.int .i64 un,.slice D dn dc,.slice M mn mc,.slice Y yn yc] 44)
 have HZ2:=hide ((HZ.out.keep hb).keep hb2)
 have HB2:=hide (andthen (andthen HB.out hb) hb2)
 have H3:=hide (h3.keep hb2)
 simp only [World.size_alloc] at h4 h5 h6
 have H4:=hide h4
 have H5:=hide h5
 have H6:=hide h6
 clear HZ HB h1 h2 h3 h4 h5 h6 hb hb2
 have z0 : (w1.alloc (.cells #[.int .i64 fr,.int .i64 ev,.int .i64 ct,.int .i64 un,.slice D dn dc,.slice M mn mc,.slice Y yn yc] 44)).cell? ⟨w.heap.size,0,none⟩ = some (.int .i64 0):=HZ2.out.cell 0 (by simp)
 have g0:=HZ2.out.free 0
 have z1 : (w1.alloc (.cells #[.int .i64 fr,.int .i64 ev,.int .i64 ct,.int .i64 un,.slice D dn dc,.slice M mn mc,.slice Y yn yc] 44)).cell? ⟨w.heap.size,1,none⟩ = some (.int .i64 0):=HZ2.out.cell 1 (by simp)
 have g1:=HZ2.out.free 1
 have z2 : (w1.alloc (.cells #[.int .i64 fr,.int .i64 ev,.int .i64 ct,.int .i64 un,.slice D dn dc,.slice M mn mc,.slice Y yn yc] 44)).cell? ⟨w.heap.size,2,none⟩ = some (.int .i64 0):=HZ2.out.cell 2 (by simp)
 have g2:=HZ2.out.free 2
 have z3 : (w1.alloc (.cells #[.int .i64 fr,.int .i64 ev,.int .i64 ct,.int .i64 un,.slice D dn dc,.slice M mn mc,.slice Y yn yc] 44)).cell? ⟨w.heap.size,3,none⟩ = some (.int .i64 0):=HZ2.out.cell 3 (by simp)
 have g3:=HZ2.out.free 3
 have z4 : (w1.alloc (.cells #[.int .i64 fr,.int .i64 ev,.int .i64 ct,.int .i64 un,.slice D dn dc,.slice M mn mc,.slice Y yn yc] 44)).cell? ⟨w.heap.size,4,none⟩ = some (.slice none 0 0):=HZ2.out.cell 4 (by simp)
 have g4:=HZ2.out.free 4
 have z5 : (w1.alloc (.cells #[.int .i64 fr,.int .i64 ev,.int .i64 ct,.int .i64 un,.slice D dn dc,.slice M mn mc,.slice Y yn yc] 44)).cell? ⟨w.heap.size,5,none⟩ = some (.slice none 0 0):=HZ2.out.cell 5 (by simp)
 have g5:=HZ2.out.free 5
 have z6 : (w1.alloc (.cells #[.int .i64 fr,.int .i64 ev,.int .i64 ct,.int .i64 un,.slice D dn dc,.slice M mn mc,.slice Y yn yc] 44)).cell? ⟨w.heap.size,6,none⟩ = some (.slice none 0 0):=HZ2.out.cell 6 (by simp)
 have g6:=HZ2.out.free 6
 have hlt:=HZ2.out.lt
 go_wp2_with fail
 refine ret_gen (fun W => BlkAt W w.heap.size [.int .i64 fr,.int .i64 ev,.int .i64 ct,.int .i64 un,.slice D dn dc,.slice M mn mc,.slice Y yn yc] /\ Lies W D dn M mn Y yn ds ms ys /\ Below w.heap.size w W) ⟨HZ2.out.all [.int .i64 fr,.int .i64 ev,.int .i64 ct,.int .i64 un,.slice D dn dc,.slice M mn mc,.slice Y yn yc] rfl,H3.out.grow (all_grown [.int .i64 fr,.int .i64 ev,.int .i64 ct,.int .i64 un,.slice D dn dc,.slice M mn mc,.slice Y yn yc] _ w.heap.size 0) (fun b o e => by have:=H4.out b o e; omega) (fun b o e => by have:=H5.out b o e; omega) (fun b o e => by have:=H6.out b o e; omega),all_below [.int .i64 fr,.int .i64 ev,.int .i64 ct,.int .i64 un,.slice D dn dc,.slice M mn mc,.slice Y yn yc] _ _ HB2.out (Nat.le_refl _)⟩ ?_
 rintro WF ⟨hk,hl,hb⟩
 have k0:=hk.cell 0 (by simp)
 have k1:=hk.cell 1 (by simp)
 have k2:=hk.cell 2 (by simp)
 have k3:=hk.cell 3 (by simp)
 have k4:=hk.cell 4 (by simp)
 have k5:=hk.cell 5 (by simp)
 have k6:=hk.cell 6 (by simp)
 simp only [List.getElem_cons_zero,List.getElem_cons_succ] at k0 k1 k2 k3 k4 k5 k6
 have q:=H1.out
 exact bodyPost_ret (v:=.tuple #[.agg #[.int .i64 fr,.int .i64 ev,.int .i64 ct,.int .i64 un,.slice D dn dc,.slice M mn mc,.slice Y yn yc],.bool O.isSome]) (by simp [results,Tryz.results219,go_sem,k0,k1,k2,k3,k4,k5,k6,q]) rfl ⟨hb,⟨fr,ev,ct,un,ds,ms,ys⟩,D,dn,dc,M,mn,mc,Y,yn,yc,rfl,fun q hq => ⟨H2.out q hq,hl,fun g o e => Nat.le_of_succ_le (H4.out g o e),fun g o e => Nat.le_of_succ_le (H5.out g o e),fun g o e => Nat.le_of_succ_le (H6.out g o e)⟩⟩
end Go.Proofs.YtfecnkhoojnkbaaGreatDoor
namespace Go.Proofs.YtfecnkhoojnkbaaGreatDoor.Rt
open Go.Proofs.YtfecnkhoojnkbaaGreatDoor Rul
def rot {α : Type} (k : Nat) (l : List α) : List α:=l.drop k ++ l.take k
theorem rot_perm {α : Type} (k : Nat) (l : List α) : (rot k l).Perm l:=by
 have:=List.perm_append_comm (l₁:=l.drop k) (l₂:=l.take k)
 rw [List.take_append_drop] at this
 exact this
theorem rot_map {α β : Type} (f : α -> β) (k : Nat) (l : List α) : (rot k l).map f = rot k (l.map f):=by
 unfold rot
 rw [List.map_append,List.map_drop,List.map_take]
theorem back_rot (U : Un) (r : T) (h : recB r = true) (k : Nat) : ansC U (joinAt 59 (rot k ((fieldsP U r).map (textP U)))) = some r:=by
 rw [<- rot_map]
 exact back_perm U r h _ (rot_perm k _)
theorem rot_twice (U : Un) (r : T) (h : recB r = true) (k : Nat) (x : Tx) (hx : x ∈ (fieldsP U r).map (textP U)) : ansC U (joinAt 59 (rot k ((fieldsP U r).map (textP U))) ++ 59 :: x) = none:=by
 have hp:=rot_perm k ((fieldsP U r).map (textP U))
 refine twice_none U _ (fun e => ?_) (fun t ht => ?_) x (hp.mem_iff.2 hx)
 ·rw [e] at hp
  have:=List.perm_nil.1 hp.symm
  rw [List.map_eq_nil_iff] at this
  exact fields_ne U r h this
 ·obtain ⟨y,_,rfl⟩:=List.mem_map.1 (hp.mem_iff.1 ht)
  exact text_free U y
end Go.Proofs.YtfecnkhoojnkbaaGreatDoor.Rt
namespace Go.Proofs.YtfecnkhoojnkbaaGreatDoor
open Go.RowKit Rul Rt
theorem name_len (p : Rt.Part) : (nameOf p).length <= 10:=by cases p <;> simp only [nameOf] <;> decide
theorem textP_len (p : Rt.Part) (n : Nat) (h : (valT unU p).length <= n) : (textP unU p).length <= n + 11:=by
 unfold textP
 rw [List.length_append,List.length_cons]
 have:=name_len p
 omega
theorem field_len (r : T) (h : recB r = true) : ∀ p ∈ fieldsP unU r,(textP unU p).length <= 1000:=by
 have k:=rec_facts h
 have k1:=k.f1
 have k2:=k.f2
 have k3:=k.e1
 have k4:=k.e2
 have k5:=k.c1
 have k6:=k.c2
 have hul : ∀ a n,in64 n -> (unlessT a n).length <= 30:=fun a n h => by
  unfold unlessT; split
  ·simp
  ·exact Nat.le_trans (Lib.itoa_length_le n h.1 h.2) (by omega)
 have hll : ∀ l : List Int,l.length <= 12 -> (∀ x ∈ l,in64 x) -> (listT Lib.itoa l).length <= 900:=fun l h1 h2 => by
  have:=listT_len Lib.itoa 30 l fun x hx => Nat.le_trans (Lib.itoa_length_le x (h2 x hx).1 (h2 x hx).2) (by omega)
  omega
 obtain ⟨d1,d2,_⟩:=(listB_iff ordW (0,0) r.ds).1 k.ds
 obtain ⟨m1,m2,_⟩:=(listB_iff ordI 0 r.ms).1 k.ms
 obtain ⟨y1,y2,_⟩:=(listB_iff ordI 0 r.ys).1 k.ys
 have hld : (listT dayT r.ds).length <= 900:=by
  have:=listT_len dayT 40 r.ds fun x hx => dayT_len x (by
   have:=d2 x hx
   rw [wdOk,Bool.and_eq_true,btw_iff] at this
   unfold in64; omega)
  omega
 have hlm:=hll r.ms m1 fun x hx => by
  have:=m2 x hx
  rw [mdOk,Bool.and_eq_true,btw_iff] at this
  unfold in64; omega
 have hly:=hll r.ys y1 fun x hx => by
  have:=y2 x hx
  rw [moOk,btw_iff] at this
  unfold in64; omega
 have hfl : (freqT r.fr).length <= 100:=by
  have : ∀ n : Nat,n < 4 -> (freqWs.getD n []).length <= 100:=by decide
  exact this (r.fr.toNat - 1) (by omega)
 have htl:=text_len r.un
 have u1:=hul 1 r.ev (by unfold in64; omega)
 have u2:=hul 0 r.ct (by unfold in64; omega)
 intro p hp
 have hp2 : p ∈ allP r:=(List.mem_filter.1 hp).1
 simp only [allP,List.mem_cons,List.not_mem_nil,or_false] at hp2
 rcases hp2 with rfl | rfl | rfl | rfl | rfl | rfl | rfl
 ·exact Nat.le_trans (textP_len _ 100 hfl) (by omega)
 ·exact Nat.le_trans (textP_len _ 30 u1) (by omega)
 ·exact Nat.le_trans (textP_len _ 30 u2) (by omega)
 ·exact Nat.le_trans (textP_len _ 15 htl) (by omega)
 ·exact Nat.le_trans (textP_len _ 900 hly) (by omega)
 ·exact Nat.le_trans (textP_len _ 900 hlm) (by omega)
 ·exact Nat.le_trans (textP_len _ 900 hld) (by omega)
structure Backs (r : T) (ws : List Tx) : Prop where
 text : printE unU r = joinAt 59 ws
 cut : cutAt 59 (printE unU r) = ws
 pos : 0 < ws.length
 le : ws.length <= 7
 len : ∀ p ∈ ws,p.length <= 1000
 back : ansC unU (printE unU r) = some r
 turn : ∀ k,ansC unU (joinAt 59 (Rt.rot k ws)) = some r
 twice : ∀ k,∀ x ∈ ws,ansC unU (joinAt 59 (Rt.rot k ws) ++ 59 :: x) = none
theorem backs_of (r : T) (hi : isB r = true) (hf : r.fr ≠ 0) : ∃ ws,Backs r ws:=by
 have hs : sameB r once = false:=by
  cases h : sameB r once with
  | false => rfl
  | true =>
   have e:=(sameB_iff _ _).1 h
   exact absurd (by rw [e]; rfl) hf
 have hr : recB r = true:=by
  unfold isB at hi
  rw [Bool.or_eq_true] at hi
  rcases hi with h | h
  ·rw [sameB_iff] at h
   exact absurd (by rw [h]; rfl) hf
  ·exact h
 have ht:=print_yes unU r hi hs
 have hne : (fieldsP unU r).map (textP unU) ≠ []:=fun e => fields_ne unU r hr (List.map_eq_nil_iff.1 e)
 refine ⟨(fieldsP unU r).map (textP unU),ht,?_,?_,?_,?_,?_,back_rot unU r hr,rot_twice unU r hr⟩
 ·rw [ht]
  exact cut_join 59 _ hne fun p hp => by
   obtain ⟨x,_,rfl⟩:=List.mem_map.1 hp
   exact text_free unU x
 ·exact List.length_pos_iff.2 hne
 ·rw [List.length_map]
  exact Nat.le_trans (List.length_filter_le _ _) (by simp [allP])
 ·intro p hp
  obtain ⟨x,hx,rfl⟩:=List.mem_map.1 hp
  exact field_len r hr x hx
 ·rw [ht]
  exact back_perm unU r hr _ (List.Perm.refl _)
end Go.Proofs.YtfecnkhoojnkbaaGreatDoor

/- Walk of the reference of layer 6: Spans. Written by recipes/ex3.py. -/
import Derived.Test.YtgihekokbgggcaaGreatZX1
import Derived.Test.YtgihekokbgggcaaGreatZS1
import Derived.Test.YtgihekokbgggcaaGreatZS4
set_option maxHeartbeats 8000000
set_option maxRecDepth 1000000
namespace Go.Proofs.YtgihekokbgggcaaGreat.R
open Go.RowKit Rul Go.Sort Spn
theorem _root_.Go.Proofs.YtgihekokbgggcaaGreat.S2.Own.none (w : World) (B : Nat) : S2.Own w B (.slice none 0 0) []:=World.ownsRow_nil _ _ _ _
theorem _root_.Go.Proofs.YtgihekokbgggcaaGreat.S2.okB_yes (f t : Int) (h0 : 0 <= f) (h1 : f < t) (h2 : t <= 52596000) : okB (f,t) = true:=by unfold okB; exact decide_eq_true (show Ok (f,t) from ⟨h0,h1,h2⟩)
def GivesP (w : World) (x : List (Int × Int) × Int) (e : Ending) (w' : World) : Prop:=∃ v,e = .returned (.tuple #[v,.int .i64 x.2]) /\ S2.Own w' w.heap.size v x.1 /\ Below w.heap.size w w'
theorem gives_p {w w' : World} {x : List (Int × Int) × Int} {l : List (Int × Int)} {n : Int} {v : Value} {e : Ending} (hx : x = (l,n)) (he : e = .returned (.tuple #[v,.int .i64 n])) (ho : S2.Own w' w.heap.size v l) (hb : Below w.heap.size w w') : GivesP w x e w':=by
 subst hx; exact ⟨v,he,ho,hb⟩
theorem spis (f t : Int) (b : Bool) (w : World) (h : okB (f,t) = b) :
  Calls Tryz.prog 36 #[.agg #[.int .i64 f,.int .i64 t]] w (Ans w (.bool b)):=by subst h; exact S2.R.is_any f t w
theorem spans_12 (r : Rul.T) (s g : Int) (ex : List Int) (h : isB r = false) : spansE r s g ex = ([],12):=by unfold spansE; rw [if_pos h]
theorem spans_10 (r : Rul.T) (s g : Int) (ex : List Int) (h : isB r = true) (hs : s < 0 ∨ 52596000 <= s) : spansE r s g ex = ([],10):=by unfold spansE; rw [if_neg (by rw [h]; simp),if_pos hs]
theorem spans_15 (r : Rul.T) (s g : Int) (ex : List Int) (h : isB r = true) (h1 : 0 <= s) (h2 : s < 52596000) (hg : g < 1 ∨ 10080 < g) : spansE r s g ex = ([],15):=by
 unfold spansE; rw [if_neg (by rw [h]; simp),if_neg (by omega),if_pos hg]
theorem spans_at (r : Rul.T) (s g e2 : Int) (ex l : List Int) (h : isB r = true) (h1 : 0 <= s) (h2 : s < 52596000) (hg : 1 <= g /\ g <= 10080) (hS : startsE r s ex = (l,e2)) :
  (e2 ≠ 0 -> spansE r s g ex = ([],e2)) /\ (e2 = 0 -> ((∃ m ∈ l,52596000 < m + g) -> spansE r s g ex = ([],10)) /\ ((∀ m ∈ l,m + g <= 52596000) -> spansE r s g ex = (l.map fun m => (m,m + g),0))):=by
 unfold spansE; rw [if_neg (by rw [h]; simp),if_neg (by omega),if_neg (by omega),hS]
 refine ⟨fun g1 => by rw [if_pos g1],fun g1 => ⟨fun ⟨m,hm,hlt⟩ => ?_,fun ha => ?_⟩⟩
 ·rw [if_neg (by simpa using g1),if_pos]
  rw [List.all_eq_false]; exact ⟨m,hm,by simp; omega⟩
 ·rw [if_neg (by simpa using g1),if_neg]
  rw [Bool.not_eq_false,List.all_eq_true]; exact fun m hm => decide_eq_true (ha m hm)
theorem starts_in (r : Rul.T) (s : Int) (ex : List Int) : (∀ m ∈ (startsE r s ex).1,0 <= m /\ m < 52596000) /\ (startsE r s ex).1.length <= 41:=by
 have hn : (∀ m ∈ ([] : List Int),0 <= m /\ m < 52596000) /\ ([] : List Int).length <= 41:=⟨fun m hm => absurd hm List.not_mem_nil,Nat.zero_le _⟩
 unfold startsE
 by_cases a1 : isB r = false
 ·rw [if_pos a1]; exact hn
 rw [if_neg a1]
 by_cases a2 : s < 0 ∨ 52596000 <= s
 ·rw [if_pos a2]; exact hn
 rw [if_neg a2]
 by_cases a3 : 40 < (if r.fr = 0 then [s] else allL r s).length
 ·rw [if_pos a3]; exact hn
 rw [if_neg a3]
 by_cases a4 : ((if r.fr = 0 then [s] else allL r s).filter fun m => !outB ex m) = []
 ·rw [if_pos a4]; exact hn
 rw [if_neg a4]
 refine ⟨fun m hm => ?_,Nat.le_trans (List.length_filter_le _ _) (by omega)⟩
 have hm:=(List.mem_filter.1 hm).1
 by_cases a5 : r.fr = 0
 ·rw [if_pos a5,List.mem_singleton] at hm; omega
 ·rw [if_neg a5] at hm
  have a:=(allL_sub r s m hm).1
  obtain ⟨i,_,hi⟩:=(candT_mem r s m 36525).1 a
  have b:=candK_mem r s m i hi
  have c:=per_bd _ _ _ b.1
  omega
theorem spans_any (fr ev ct un : Int) (D M Y : Option Addr) (dn dc mn mc yn yc : Nat) (ds : List Wd) (ms ys : List Int) (s long : Int) (X : Option Addr) (xn xc : Nat) (ex : List Int) (w : World) (h : Lies w D dn M mn Y yn ds ms ys) (hx : RowI w X ex) (hxn : xn = ex.length) (hxl : ex.length <= 1000) :
  Calls Tryz.prog 30 #[.agg #[.int .i64 fr,.int .i64 ev,.int .i64 ct,.int .i64 un,.slice D dn dc,.slice M mn mc,.slice Y yn yc],.int .i64 s,.int .i64 long,.slice X xn xc] w (GivesP w (spansE ⟨fr,ev,ct,un,ds,ms,ys⟩ s long ex)):=by
 have HBX:=hide (more (start w) (.cells #[.int .i64 fr,.int .i64 ev,.int .i64 ct,.int .i64 un,.slice D dn dc,.slice M mn mc,.slice Y yn yc] 39))
 have HL:=hide (h.keep HBX.out)
 have HX:=hide (hx.keep HBX.out)
 have hAC : ∀ i v,(#[.int .i64 fr,.int .i64 ev,.int .i64 ct,.int .i64 un,.slice D dn dc,.slice M mn mc,.slice Y yn yc] : Array Value)[i]? = some v -> (w.alloc (.cells #[.int .i64 fr,.int .i64 ev,.int .i64 ct,.int .i64 un,.slice D dn dc,.slice M mn mc,.slice Y yn yc] 39)).cell? ⟨w.heap.size,i,none⟩ = some v:=fun i v h => by rw [World.cell?_alloc_at _ _ _ _ rfl]; exact h
 have s0:=hAC 0 _ rfl
 have s1:=hAC 1 _ rfl
 have s2:=hAC 2 _ rfl
 have s3:=hAC 3 _ rfl
 have s4:=hAC 4 _ rfl
 have s5:=hAC 5 _ rfl
 have s6:=hAC 6 _ rfl
 clear hAC
 have HXN:=hide hxn
 clear h hx hxn
 cases hi : isB ⟨fr,ev,ct,un,ds,ms,ys⟩
 ·have HE:=hide (spans_12 ⟨fr,ev,ct,un,ds,ms,ys⟩ s long ex hi)
  have HI:=hide hi
  clear hi
  go_enter Tryz.func30,Tryz.ntmps30
  go_wp2_with fail
  generalize (w.alloc (.cells #[.int .i64 fr,.int .i64 ev,.int .i64 ct,.int .i64 un,.slice D dn dc,.slice M mn mc,.slice Y yn yc] 39)) = W at *
  refine (ans_is (is_any fr ev ct un D M Y dn dc mn mc yn yc ds ms ys _ HL.out) HI.out).mono ?_
  rintro e u1 ⟨rfl,hb⟩
  replace HBX:=hide (andthen HBX.out hb)
  replace HL:=hide (HL.out.keep hb)
  replace s0:=cell_keep hb s0
  replace s1:=cell_keep hb s1
  replace s2:=cell_keep hb s2
  replace s3:=cell_keep hb s3
  replace s4:=cell_keep hb s4
  replace s5:=cell_keep hb s5
  replace s6:=cell_keep hb s6
  replace HX:=hide (HX.out.keep hb)
  clear hb
  go_wp2_with fail
  go_ret2
  exact gives_p HE.out rfl (S2.Own.none _ _) HBX.out
 have HI:=hide hi
 by_cases hs1 : s < 0
 ·have HE:=hide (spans_10 ⟨fr,ev,ct,un,ds,ms,ys⟩ s long ex hi (Or.inl hs1))
  clear hi
  go_enter Tryz.func30,Tryz.ntmps30
  go_wp2_with fail
  generalize (w.alloc (.cells #[.int .i64 fr,.int .i64 ev,.int .i64 ct,.int .i64 un,.slice D dn dc,.slice M mn mc,.slice Y yn yc] 39)) = W at *
  refine (ans_is (is_any fr ev ct un D M Y dn dc mn mc yn yc ds ms ys _ HL.out) HI.out).mono ?_
  rintro e u1 ⟨rfl,hb⟩
  replace HBX:=hide (andthen HBX.out hb)
  replace HL:=hide (HL.out.keep hb)
  replace s0:=cell_keep hb s0
  replace s1:=cell_keep hb s1
  replace s2:=cell_keep hb s2
  replace s3:=cell_keep hb s3
  replace s4:=cell_keep hb s4
  replace s5:=cell_keep hb s5
  replace s6:=cell_keep hb s6
  replace HX:=hide (HX.out.keep hb)
  clear hb
  go_wp2_with fail
  go_ret2
  exact gives_p HE.out rfl (S2.Own.none _ _) HBX.out
 by_cases hs2 : 52596000 <= s
 ·have HE:=hide (spans_10 ⟨fr,ev,ct,un,ds,ms,ys⟩ s long ex hi (Or.inr hs2))
  clear hi
  go_enter Tryz.func30,Tryz.ntmps30
  go_wp2_with fail
  generalize (w.alloc (.cells #[.int .i64 fr,.int .i64 ev,.int .i64 ct,.int .i64 un,.slice D dn dc,.slice M mn mc,.slice Y yn yc] 39)) = W at *
  refine (ans_is (is_any fr ev ct un D M Y dn dc mn mc yn yc ds ms ys _ HL.out) HI.out).mono ?_
  rintro e u1 ⟨rfl,hb⟩
  replace HBX:=hide (andthen HBX.out hb)
  replace HL:=hide (HL.out.keep hb)
  replace s0:=cell_keep hb s0
  replace s1:=cell_keep hb s1
  replace s2:=cell_keep hb s2
  replace s3:=cell_keep hb s3
  replace s4:=cell_keep hb s4
  replace s5:=cell_keep hb s5
  replace s6:=cell_keep hb s6
  replace HX:=hide (HX.out.keep hb)
  clear hb
  go_wp2_with fail
  go_ret2
  exact gives_p HE.out rfl (S2.Own.none _ _) HBX.out
 replace hs1 : 0 <= s:=by omega
 replace hs2 : s < 52596000:=by omega
 by_cases hg1 : long < 1
 ·have HE:=hide (spans_15 ⟨fr,ev,ct,un,ds,ms,ys⟩ s long ex hi hs1 hs2 (Or.inl hg1))
  clear hi
  go_enter Tryz.func30,Tryz.ntmps30
  go_wp2_with fail
  generalize (w.alloc (.cells #[.int .i64 fr,.int .i64 ev,.int .i64 ct,.int .i64 un,.slice D dn dc,.slice M mn mc,.slice Y yn yc] 39)) = W at *
  refine (ans_is (is_any fr ev ct un D M Y dn dc mn mc yn yc ds ms ys _ HL.out) HI.out).mono ?_
  rintro e u1 ⟨rfl,hb⟩
  replace HBX:=hide (andthen HBX.out hb)
  replace HL:=hide (HL.out.keep hb)
  replace s0:=cell_keep hb s0
  replace s1:=cell_keep hb s1
  replace s2:=cell_keep hb s2
  replace s3:=cell_keep hb s3
  replace s4:=cell_keep hb s4
  replace s5:=cell_keep hb s5
  replace s6:=cell_keep hb s6
  replace HX:=hide (HX.out.keep hb)
  clear hb
  go_wp2_with fail
  go_ret2
  exact gives_p HE.out rfl (S2.Own.none _ _) HBX.out
 by_cases hg2 : 10080 < long
 ·have HE:=hide (spans_15 ⟨fr,ev,ct,un,ds,ms,ys⟩ s long ex hi hs1 hs2 (Or.inr hg2))
  clear hi
  go_enter Tryz.func30,Tryz.ntmps30
  go_wp2_with fail
  generalize (w.alloc (.cells #[.int .i64 fr,.int .i64 ev,.int .i64 ct,.int .i64 un,.slice D dn dc,.slice M mn mc,.slice Y yn yc] 39)) = W at *
  refine (ans_is (is_any fr ev ct un D M Y dn dc mn mc yn yc ds ms ys _ HL.out) HI.out).mono ?_
  rintro e u1 ⟨rfl,hb⟩
  replace HBX:=hide (andthen HBX.out hb)
  replace HL:=hide (HL.out.keep hb)
  replace s0:=cell_keep hb s0
  replace s1:=cell_keep hb s1
  replace s2:=cell_keep hb s2
  replace s3:=cell_keep hb s3
  replace s4:=cell_keep hb s4
  replace s5:=cell_keep hb s5
  replace s6:=cell_keep hb s6
  replace HX:=hide (HX.out.keep hb)
  clear hb
  go_wp2_with fail
  go_ret2
  exact gives_p HE.out rfl (S2.Own.none _ _) HBX.out
 obtain ⟨⟨l,e2⟩,hS⟩ : ∃ x,startsE ⟨fr,ev,ct,un,ds,ms,ys⟩ s ex = x:=⟨_,rfl⟩
 have HSE:=hide hS
 have hsp:=spans_at ⟨fr,ev,ct,un,ds,ms,ys⟩ s long e2 ex l hi hs1 hs2 ⟨by omega,by omega⟩ hS
 have hst:=starts_in ⟨fr,ev,ct,un,ds,ms,ys⟩ s ex
 rw [hS] at hst
 have HM:=hide hst.1
 have HLL:=hide hst.2
 by_cases he : e2 = 0
 ·have HS:=hide (And.intro trivial (hsp.2 he))
  subst he
  clear hi hS hsp hst
  go_enter Tryz.func30,Tryz.ntmps30
  go_wp2_with fail
  generalize (w.alloc (.cells #[.int .i64 fr,.int .i64 ev,.int .i64 ct,.int .i64 un,.slice D dn dc,.slice M mn mc,.slice Y yn yc] 39)) = W at *
  refine (ans_is (is_any fr ev ct un D M Y dn dc mn mc yn yc ds ms ys _ HL.out) HI.out).mono ?_
  rintro e u1 ⟨rfl,hb⟩
  replace HBX:=hide (andthen HBX.out hb)
  replace HL:=hide (HL.out.keep hb)
  replace s0:=cell_keep hb s0
  replace s1:=cell_keep hb s1
  replace s2:=cell_keep hb s2
  replace s3:=cell_keep hb s3
  replace s4:=cell_keep hb s4
  replace s5:=cell_keep hb s5
  replace s6:=cell_keep hb s6
  replace HX:=hide (HX.out.keep hb)
  clear hb
  go_wp2_with fail
  refine (starts_any fr ev ct un D M Y dn dc mn mc yn yc ds ms ys s X xn xc ex _ HL.out HX.out HXN.out hxl).mono ?_
  rintro e u2 ⟨v2,rfl,hown,hb⟩
  rw [HSE.out] at hown ⊢
  replace HBX:=hide (andthen HBX.out hb)
  clear hb
  obtain ⟨A,cap,rfl,hrow⟩:=hown.row
  have HR:=hide hrow
  clear hown hrow
  go_wp2_with fail
  generalize u2 = U at *
  go_loopw [12,13,14] (fun v i _ wr => ∃ j : Nat,j <= l.length /\ i = .int .i64 j /\ S2.Own wr U.heap.size v ((l.take j).map (fun m => (m,m + long))) /\ Hid (∀ q ∈ l.take j,q + long <= 52596000) /\ Below U.heap.size U wr) (fun _ i _ _ => l.length - (intOf i).toNat)
  case atStart => exact ⟨0,Nat.zero_le _,rfl,S2.Own.none _ _,hide (fun q hq => by simp at hq),start _⟩
  case round =>
   obtain ⟨j,hj,rfl,hown,HQ,hbw⟩:=hrel
   have HO:=hide hown
   have HBR:=hide hbw
   clear hown hbw
   by_cases hlt : j < l.length
   ·obtain ⟨b1,o1,rfl,hb1,hc1⟩:=HR.out (by intro h0; rw [h0] at hlt; exact absurd hlt (Nat.not_lt_zero _))
    obtain ⟨m,hm⟩ : ∃ m,l[j] = m:=⟨_,rfl⟩
    have hmr:=HM.out l[j] (List.getElem_mem _)
    rw [hm] at hmr
    have HTK : Hid (l.take (j + 1) = l.take j ++ [m]):=hide (by rw [List.take_succ_eq_append_getElem hlt,hm])
    have hml : m ∈ l:=by rw [<- hm]; exact List.getElem_mem _
    have p1 : wr.cell? ⟨b1,o1 + j,none⟩ = some (.int .i64 m):=by rw [<- hm]; exact (HBR.out.cell (p:=⟨b1,_,none⟩) hb1).trans (hc1 j hlt)
    have hi0 : (0 : Int) <= (j : Int):=by omega
    have hi1 : (j : Int) < (l.length : Int):=by omega
    have hi2 : (j : Int) <= 41:=by have:=HLL.out; omega
    have hbw1 : b1 < wr.heap.size:=block_lt_of_cell p1
    clear hc1 hm
    by_cases hk : m + long <= 52596000
    ·have HK : Hid (okB (m,m + long) = true):=hide (S2.okB_yes _ _ (by omega) (by omega) hk)
     go_wp2_with fail
     go_region_held3 (fun w' => w'.cell? ⟨b1,o1 + j,none⟩ = some (.int .i64 m)) (first | exact cell_keep (start _).drew p1 | exact cell_keep (more (start _) _) (by assumption) | exact cell_keep (more (start _).drew _) p1) (fail)
     all_goals
      have hbV:=(more (start wr) (.cells #[.int .i64 m,.int .i64 (m + long)] 23)).drew
      have x0 : (wr.alloc (.cells #[.int .i64 m,.int .i64 (m + long)] 23)).drew.cell? ⟨wr.heap.size,0,none⟩ = some (.int .i64 m):=cell_keep (start _).drew (by rw [World.cell?_alloc_at _ _ _ _ rfl]; rfl)
      have x1 : (wr.alloc (.cells #[.int .i64 m,.int .i64 (m + long)] 23)).drew.cell? ⟨wr.heap.size,1,none⟩ = some (.int .i64 (m + long)):=cell_keep (start _).drew (by rw [World.cell?_alloc_at _ _ _ _ rfl]; rfl)
      replace HBR:=hide (andthen HBR.out hbV)
      replace HO:=hide (HO.out.keep hbV)
      clear hbV p1
      go_wp2_with fail
      generalize (wr.alloc (.cells #[.int .i64 m,.int .i64 (m + long)] 23)).drew = V at *
      generalize wr.heap.size = XS at *
      refine (spis m (m + long) _ _ HK.out).mono ?_
      rintro e v1 ⟨rfl,hb⟩
      replace HBR:=hide (andthen HBR.out hb)
      replace HO:=hide (HO.out.keep hb)
      replace x0:=cell_keep hb x0
      replace x1:=cell_keep hb x1
      clear hb
      have hsz:=HBR.out.size
      have hown:=HO.out
      have hln : ((l.take j).map (fun m => (m,m + long))).length <= 1000000:=by rw [List.length_map]; exact Nat.le_trans (List.length_take_le _ _) (by omega)
      go_wp2_with (at_builtin; refine S2.wp_one (l:=(l.take j).map (fun m => (m,m + long))) (p:=(m,m + long)) rfl _ _ rfl rfl rfl rfl hown hsz hln ?_; intro v3 w3 hown3 hb3)
      have HO3:=hide hown3
      have HB3:=hide (HBR.out.trans hb3)
      clear hown hown3 hb3 hsz hln
      go_wp2_with fail
      go_roundw
      case rel => exact ⟨j + 1,by omega,by go_num,by rw [HTK.out,List.map_append]; exact HO3.out,hide (by rw [HTK.out]; intro q hq; rcases List.mem_append.1 hq with g | g; exact HQ.out q g; rw [List.mem_singleton] at g; subst g; exact hk),HB3.out⟩
      case measure => simp [intOf]; omega
    ·have HK : Hid (okB (m,m + long) = false):=hide (S2.okB_no _ _ fun h => hk h.2.2)
     have HE:=hide (HS.out.2.1 ⟨m,hml,by omega⟩)
     go_wp2_with fail
     go_region_held3 (fun w' => w'.cell? ⟨b1,o1 + j,none⟩ = some (.int .i64 m)) (first | exact cell_keep (start _).drew p1 | exact cell_keep (more (start _) _) (by assumption) | exact cell_keep (more (start _).drew _) p1) (fail)
     all_goals
      have hbV:=(more (start wr) (.cells #[.int .i64 m,.int .i64 (m + long)] 23)).drew
      have x0 : (wr.alloc (.cells #[.int .i64 m,.int .i64 (m + long)] 23)).drew.cell? ⟨wr.heap.size,0,none⟩ = some (.int .i64 m):=cell_keep (start _).drew (by rw [World.cell?_alloc_at _ _ _ _ rfl]; rfl)
      have x1 : (wr.alloc (.cells #[.int .i64 m,.int .i64 (m + long)] 23)).drew.cell? ⟨wr.heap.size,1,none⟩ = some (.int .i64 (m + long)):=cell_keep (start _).drew (by rw [World.cell?_alloc_at _ _ _ _ rfl]; rfl)
      replace HBR:=hide (andthen HBR.out hbV)
      replace HO:=hide (HO.out.keep hbV)
      clear hbV p1
      go_wp2_with fail
      generalize (wr.alloc (.cells #[.int .i64 m,.int .i64 (m + long)] 23)).drew = V at *
      generalize wr.heap.size = XS at *
      refine (spis m (m + long) _ _ HK.out).mono ?_
      rintro e v1 ⟨rfl,hb⟩
      replace HBR:=hide (andthen HBR.out hb)
      replace HO:=hide (HO.out.keep hb)
      replace x0:=cell_keep hb x0
      replace x1:=cell_keep hb x1
      clear hb
      go_wp2_with fail
      go_ret2
      exact gives_p HE.out rfl (S2.Own.none _ _) (andthen HBX.out HBR.out)
   ·obtain rfl : j = l.length:=by omega
    rw [List.take_length] at HO HQ
    have HE:=hide (HS.out.2.2 HQ.out)
    go_wp2_with fail
    go_ret2
    exact gives_p HE.out rfl (S2.Own.low HO.out HBX.out.size) (andthen HBX.out HBR.out)
 ·have HE:=hide (hsp.1 he)
  clear hi hS hsp hst
  go_enter Tryz.func30,Tryz.ntmps30
  go_wp2_with fail
  generalize (w.alloc (.cells #[.int .i64 fr,.int .i64 ev,.int .i64 ct,.int .i64 un,.slice D dn dc,.slice M mn mc,.slice Y yn yc] 39)) = W at *
  refine (ans_is (is_any fr ev ct un D M Y dn dc mn mc yn yc ds ms ys _ HL.out) HI.out).mono ?_
  rintro e u1 ⟨rfl,hb⟩
  replace HBX:=hide (andthen HBX.out hb)
  replace HL:=hide (HL.out.keep hb)
  replace s0:=cell_keep hb s0
  replace s1:=cell_keep hb s1
  replace s2:=cell_keep hb s2
  replace s3:=cell_keep hb s3
  replace s4:=cell_keep hb s4
  replace s5:=cell_keep hb s5
  replace s6:=cell_keep hb s6
  replace HX:=hide (HX.out.keep hb)
  clear hb
  go_wp2_with fail
  refine (starts_any fr ev ct un D M Y dn dc mn mc yn yc ds ms ys s X xn xc ex _ HL.out HX.out HXN.out hxl).mono ?_
  rintro e u2 ⟨v2,rfl,hown,hb⟩
  rw [HSE.out] at hown ⊢
  replace HBX:=hide (andthen HBX.out hb)
  clear hb
  have ge : (e2 != 0) = true:=by rw [bne_iff_ne]; exact he
  clear hown he
  go_wp2_with fail
  go_ret2
  exact gives_p HE.out rfl (S2.Own.none _ _) HBX.out
end Go.Proofs.YtgihekokbgggcaaGreat.R

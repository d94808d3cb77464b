/- Walks of package days: the days that fit. Written by recipes/da4.py. -/
import Derived.Test.YtgihekokbgggcaaGreatZBW11
import Derived.Test.YtgihekokbgggcaaGreatZBDaD
import Derived.Test.YtgihekokbgggcaaGreatZBDaE
set_option maxHeartbeats 8000000
set_option maxRecDepth 1000000
namespace Go.Proofs.YtgihekokbgggcaaGreat
open Go.RowKit Rul Go.Sort
theorem filt_no (p : Int -> Bool) (l : List Int) (j : Nat) (h : j < l.length) (hp : p l[j] = false) : (l.take (j + 1)).filter p = (l.take j).filter p:=by
 rw [filter_step p l j h,hp]; simp
theorem filt_yes (p : Int -> Bool) (l : List Int) (j : Nat) (h : j < l.length) (hp : p l[j] = true) : (l.take (j + 1)).filter p = (l.take j).filter p ++ [l[j]]:=by
 rw [filter_step p l j h,hp]; simp
theorem fitting_any (fr ev ct un : Int) (D M Y : Option Addr) (dn dc mn mc yn yc : Nat) (ds : List Wd) (ms ys : List Int) (wk dy mo : Int) (A : Option Addr) (n c : Nat) (l : List Int) (w : World) (h : Lies w D dn M mn Y yn ds ms ys) (hl : RowI w A l) (hn : n = l.length) (hsz : l.length <= 1000) (hd : ∀ x ∈ l,0 <= x /\ x < 36525) :
  Calls Tryz.prog 136 #[.agg #[.int .i64 fr,.int .i64 ev,.int .i64 ct,.int .i64 un,.slice D dn dc,.slice M mn mc,.slice Y yn yc],.agg #[.int .i64 wk,.int .i64 dy,.int .i64 mo],.slice A n c] w (GivesI w (l.filter (fun d => hasB wk dy mo d && fitsB ⟨fr,ev,ct,un,ds,ms,ys⟩ d))):=by
 subst hn
 have hbx:=more (more (start w) (.cells #[.int .i64 fr,.int .i64 ev,.int .i64 ct,.int .i64 un,.slice D dn dc,.slice M mn mc,.slice Y yn yc] 39)) (.cells #[.int .i64 wk,.int .i64 dy,.int .i64 mo] 159)
 have HL:=hide (h.keep hbx)
 have HR:=hide (hl.keep hbx)
 have HBX:=hide hbx
 have s0 : ((w.alloc (.cells #[.int .i64 fr,.int .i64 ev,.int .i64 ct,.int .i64 un,.slice D dn dc,.slice M mn mc,.slice Y yn yc] 39)).alloc (.cells #[.int .i64 wk,.int .i64 dy,.int .i64 mo] 159)).cell? ⟨w.heap.size,0,none⟩ = some (.int .i64 fr):=by rw [World.cell?_alloc_past _ _ _ (by simp),World.cell?_alloc_at _ _ _ _ rfl]; rfl
 have s1 : ((w.alloc (.cells #[.int .i64 fr,.int .i64 ev,.int .i64 ct,.int .i64 un,.slice D dn dc,.slice M mn mc,.slice Y yn yc] 39)).alloc (.cells #[.int .i64 wk,.int .i64 dy,.int .i64 mo] 159)).cell? ⟨w.heap.size,1,none⟩ = some (.int .i64 ev):=by rw [World.cell?_alloc_past _ _ _ (by simp),World.cell?_alloc_at _ _ _ _ rfl]; rfl
 have s2 : ((w.alloc (.cells #[.int .i64 fr,.int .i64 ev,.int .i64 ct,.int .i64 un,.slice D dn dc,.slice M mn mc,.slice Y yn yc] 39)).alloc (.cells #[.int .i64 wk,.int .i64 dy,.int .i64 mo] 159)).cell? ⟨w.heap.size,2,none⟩ = some (.int .i64 ct):=by rw [World.cell?_alloc_past _ _ _ (by simp),World.cell?_alloc_at _ _ _ _ rfl]; rfl
 have s3 : ((w.alloc (.cells #[.int .i64 fr,.int .i64 ev,.int .i64 ct,.int .i64 un,.slice D dn dc,.slice M mn mc,.slice Y yn yc] 39)).alloc (.cells #[.int .i64 wk,.int .i64 dy,.int .i64 mo] 159)).cell? ⟨w.heap.size,3,none⟩ = some (.int .i64 un):=by rw [World.cell?_alloc_past _ _ _ (by simp),World.cell?_alloc_at _ _ _ _ rfl]; rfl
 have s4 : ((w.alloc (.cells #[.int .i64 fr,.int .i64 ev,.int .i64 ct,.int .i64 un,.slice D dn dc,.slice M mn mc,.slice Y yn yc] 39)).alloc (.cells #[.int .i64 wk,.int .i64 dy,.int .i64 mo] 159)).cell? ⟨w.heap.size,4,none⟩ = some (.slice D dn dc):=by rw [World.cell?_alloc_past _ _ _ (by simp),World.cell?_alloc_at _ _ _ _ rfl]; rfl
 have s5 : ((w.alloc (.cells #[.int .i64 fr,.int .i64 ev,.int .i64 ct,.int .i64 un,.slice D dn dc,.slice M mn mc,.slice Y yn yc] 39)).alloc (.cells #[.int .i64 wk,.int .i64 dy,.int .i64 mo] 159)).cell? ⟨w.heap.size,5,none⟩ = some (.slice M mn mc):=by rw [World.cell?_alloc_past _ _ _ (by simp),World.cell?_alloc_at _ _ _ _ rfl]; rfl
 have s6 : ((w.alloc (.cells #[.int .i64 fr,.int .i64 ev,.int .i64 ct,.int .i64 un,.slice D dn dc,.slice M mn mc,.slice Y yn yc] 39)).alloc (.cells #[.int .i64 wk,.int .i64 dy,.int .i64 mo] 159)).cell? ⟨w.heap.size,6,none⟩ = some (.slice Y yn yc):=by rw [World.cell?_alloc_past _ _ _ (by simp),World.cell?_alloc_at _ _ _ _ rfl]; rfl
 have k0 : ((w.alloc (.cells #[.int .i64 fr,.int .i64 ev,.int .i64 ct,.int .i64 un,.slice D dn dc,.slice M mn mc,.slice Y yn yc] 39)).alloc (.cells #[.int .i64 wk,.int .i64 dy,.int .i64 mo] 159)).cell? ⟨w.heap.size + 1,0,none⟩ = some (.int .i64 wk):=by rw [World.cell?_alloc_at _ _ _ _ (by simp)]; rfl
 have k1 : ((w.alloc (.cells #[.int .i64 fr,.int .i64 ev,.int .i64 ct,.int .i64 un,.slice D dn dc,.slice M mn mc,.slice Y yn yc] 39)).alloc (.cells #[.int .i64 wk,.int .i64 dy,.int .i64 mo] 159)).cell? ⟨w.heap.size + 1,1,none⟩ = some (.int .i64 dy):=by rw [World.cell?_alloc_at _ _ _ _ (by simp)]; rfl
 have k2 : ((w.alloc (.cells #[.int .i64 fr,.int .i64 ev,.int .i64 ct,.int .i64 un,.slice D dn dc,.slice M mn mc,.slice Y yn yc] 39)).alloc (.cells #[.int .i64 wk,.int .i64 dy,.int .i64 mo] 159)).cell? ⟨w.heap.size + 1,2,none⟩ = some (.int .i64 mo):=by rw [World.cell?_alloc_at _ _ _ _ (by simp)]; rfl
 clear h hl hbx
 go_enter Tryz.func136,Tryz.ntmps136
 go_wp2_with fail
 generalize ((w.alloc (.cells #[.int .i64 fr,.int .i64 ev,.int .i64 ct,.int .i64 un,.slice D dn dc,.slice M mn mc,.slice Y yn yc] 39)).alloc (.cells #[.int .i64 wk,.int .i64 dy,.int .i64 mo] 159)) = W at *
 go_loopw [7,9,12] (fun v _ i wr => ∃ j : Nat,j <= l.length /\ i = .int .i64 j /\ OwnI wr W.heap.size v ((l.take j).filter (fun d => hasB wk dy mo d && fitsB ⟨fr,ev,ct,un,ds,ms,ys⟩ d)) /\ Below W.heap.size W wr) (fun _ _ i _ => l.length - (intOf i).toNat)
 case atStart => exact ⟨0,Nat.zero_le _,rfl,ownI_nil _ _,start _⟩
 case round =>
  obtain ⟨j,hj,rfl,hown,hbw⟩:=hrel
  have HO:=hide hown
  have HBR:=hide hbw
  clear hown hbw
  by_cases hlt : j < l.length
  ·obtain ⟨b,off,rfl,hb,hcl⟩:=HR.out (by intro h0; rw [h0] at hlt; exact absurd hlt (Nat.not_lt_zero _))
   have hr:=hd l[j] (List.getElem_mem _)
   have g0 : wr.cell? ⟨b,off + j,none⟩ = some (.int .i64 l[j]):=(HBR.out.cell (p:=⟨b,_,none⟩) hb).trans (hcl j hlt)
   have hi0 : (0 : Int) <= (j : Int):=by omega
   have hi1 : (j : Int) < (l.length : Int):=by omega
   clear hcl
   cases hh : hasB wk dy mo l[j]
   ·have HN:=hide (filt_no (fun d => hasB wk dy mo d && fitsB ⟨fr,ev,ct,un,ds,ms,ys⟩ d) l j hlt (by rw [hh]; rfl))
    have HH:=hide hh
    clear hh
    replace s0:=cell_keep HBR.out s0
    replace s1:=cell_keep HBR.out s1
    replace s2:=cell_keep HBR.out s2
    replace s3:=cell_keep HBR.out s3
    replace s4:=cell_keep HBR.out s4
    replace s5:=cell_keep HBR.out s5
    replace s6:=cell_keep HBR.out s6
    replace k0:=cell_keep HBR.out k0
    replace k1:=cell_keep HBR.out k1
    replace k2:=cell_keep HBR.out k2
    replace HL:=hide (HL.out.keep HBR.out)
    go_wp2_with fail
    refine (ans_is (has_any wk dy mo l[j] _ hr.1 hr.2) HH.out).mono ?_
    rintro e u1 ⟨rfl,hb⟩
    replace HBR:=hide (andthen HBR.out hb)
    replace HO:=hide (HO.out.keep hb)
    clear hb
    go_wp2_with fail
    go_roundw
    case rel => exact ⟨j + 1,by omega,by go_num,by rw [HN.out]; exact HO.out,HBR.out⟩
    case measure => simp [intOf]; omega
   ·cases hf : fitsB ⟨fr,ev,ct,un,ds,ms,ys⟩ l[j]
    ·have HN:=hide (filt_no (fun d => hasB wk dy mo d && fitsB ⟨fr,ev,ct,un,ds,ms,ys⟩ d) l j hlt (by rw [hh,hf]; rfl))
     have HH:=hide hh
     have HF:=hide hf
     clear hh hf
     replace s0:=cell_keep HBR.out s0
     replace s1:=cell_keep HBR.out s1
     replace s2:=cell_keep HBR.out s2
     replace s3:=cell_keep HBR.out s3
     replace s4:=cell_keep HBR.out s4
     replace s5:=cell_keep HBR.out s5
     replace s6:=cell_keep HBR.out s6
     replace k0:=cell_keep HBR.out k0
     replace k1:=cell_keep HBR.out k1
     replace k2:=cell_keep HBR.out k2
     replace HL:=hide (HL.out.keep HBR.out)
     go_wp2_with fail
     refine (ans_is (has_any wk dy mo l[j] _ hr.1 hr.2) HH.out).mono ?_
     rintro e u1 ⟨rfl,hb⟩
     replace HBR:=hide (andthen HBR.out hb)
     replace HO:=hide (HO.out.keep hb)
     replace s0:=cell_keep hb s0
     replace s1:=cell_keep hb s1
     replace s2:=cell_keep hb s2
     replace s3:=cell_keep hb s3
     replace s4:=cell_keep hb s4
     replace s5:=cell_keep hb s5
     replace s6:=cell_keep hb s6
     replace k0:=cell_keep hb k0
     replace k1:=cell_keep hb k1
     replace k2:=cell_keep hb k2
     replace HL:=hide (HL.out.keep hb)
     clear hb
     go_wp2_with fail
     refine (ans_is (fits_any fr ev ct un D M Y dn dc mn mc yn yc ds ms ys l[j] _ HL.out) HF.out).mono ?_
     rintro e u2 ⟨rfl,hb⟩
     replace HBR:=hide (andthen HBR.out hb)
     replace HO:=hide (HO.out.keep hb)
     clear hb
     go_wp2_with fail
     go_roundw
     case rel => exact ⟨j + 1,by omega,by go_num,by rw [HN.out]; exact HO.out,HBR.out⟩
     case measure => simp [intOf]; omega
    ·have HN:=hide (filt_yes (fun d => hasB wk dy mo d && fitsB ⟨fr,ev,ct,un,ds,ms,ys⟩ d) l j hlt (by rw [hh,hf]; rfl))
     have HH:=hide hh
     have HF:=hide hf
     clear hh hf
     replace s0:=cell_keep HBR.out s0
     replace s1:=cell_keep HBR.out s1
     replace s2:=cell_keep HBR.out s2
     replace s3:=cell_keep HBR.out s3
     replace s4:=cell_keep HBR.out s4
     replace s5:=cell_keep HBR.out s5
     replace s6:=cell_keep HBR.out s6
     replace k0:=cell_keep HBR.out k0
     replace k1:=cell_keep HBR.out k1
     replace k2:=cell_keep HBR.out k2
     replace HL:=hide (HL.out.keep HBR.out)
     go_wp2_with fail
     refine (ans_is (has_any wk dy mo l[j] _ hr.1 hr.2) HH.out).mono ?_
     rintro e u1 ⟨rfl,hb⟩
     replace HBR:=hide (andthen HBR.out hb)
     replace HO:=hide (HO.out.keep hb)
     replace s0:=cell_keep hb s0
     replace s1:=cell_keep hb s1
     replace s2:=cell_keep hb s2
     replace s3:=cell_keep hb s3
     replace s4:=cell_keep hb s4
     replace s5:=cell_keep hb s5
     replace s6:=cell_keep hb s6
     replace k0:=cell_keep hb k0
     replace k1:=cell_keep hb k1
     replace k2:=cell_keep hb k2
     replace HL:=hide (HL.out.keep hb)
     clear hb
     go_wp2_with fail
     refine (ans_is (fits_any fr ev ct un D M Y dn dc mn mc yn yc ds ms ys l[j] _ HL.out) HF.out).mono ?_
     rintro e u2 ⟨rfl,hb⟩
     replace HBR:=hide (andthen HBR.out hb)
     replace HO:=hide (HO.out.keep hb)
     clear hb
     have hsz:=HBR.out.size
     have hown:=HO.out
     have hlen : ((l.take j).filter (fun d => hasB wk dy mo d && fitsB ⟨fr,ev,ct,un,ds,ms,ys⟩ d)).length <= 1000000:=Nat.le_trans (List.length_filter_le _ _) (Nat.le_trans (List.length_take_le _ _) (by omega))
     go_wp2_with (at_builtin; refine wp_oneI (l:=(l.take j).filter (fun d => hasB wk dy mo d && fitsB ⟨fr,ev,ct,un,ds,ms,ys⟩ d)) (p:=l[j]) rfl _ _ rfl rfl rfl rfl hown hsz hlen ?_; intro v1 w1 hown1 hb1)
     replace HO:=hide hown1
     replace HBR:=hide (HBR.out.trans hb1)
     clear hown hown1 hb1 hsz hlen
     go_wp2_with fail
     go_roundw
     case rel => exact ⟨j + 1,by omega,by go_num,by rw [HN.out]; exact HO.out,HBR.out⟩
     case measure => simp [intOf]; omega
  ·obtain rfl : j = l.length:=by omega
   rw [List.take_length] at HO
   go_wp2_with fail
   go_ret
   exact ⟨_,rfl,HO.out.low HBX.out.size,andthen HBX.out HBR.out⟩
theorem period_is (fr ev ct un : Int) (D M Y : Option Addr) (dn dc mn mc yn yc : Nat) (ds : List Wd) (ms ys : List Int) (s k a b : Int) (q : Bool) (w : World) (h : Lies w D dn M mn Y yn ds ms ys) (ha : perA ⟨fr,ev,ct,un,ds,ms,ys⟩ s k = a) (hb : perB ⟨fr,ev,ct,un,ds,ms,ys⟩ s k = b) (hq : perK ⟨fr,ev,ct,un,ds,ms,ys⟩ s k = q) :
  Calls Tryz.prog 112 #[.agg #[.int .i64 fr,.int .i64 ev,.int .i64 ct,.int .i64 un,.slice D dn dc,.slice M mn mc,.slice Y yn yc],.int .i64 s,.int .i64 k] w (Ans w (.tuple #[.int .i64 a,.int .i64 b,.bool q])):=by
 subst ha hb hq; exact period_any fr ev ct un D M Y dn dc mn mc yn yc ds ms ys s k w h
theorem keep7d {W W1 : World} (hb : Below W.heap.size W W1) {b : Nat} {v0 v1 v2 v3 v4 v5 v6 : Value} (h : W.cell? ⟨b,0,none⟩ = some v0 /\ W.cell? ⟨b,1,none⟩ = some v1 /\ W.cell? ⟨b,2,none⟩ = some v2 /\ W.cell? ⟨b,3,none⟩ = some v3 /\ W.cell? ⟨b,4,none⟩ = some v4 /\ W.cell? ⟨b,5,none⟩ = some v5 /\ W.cell? ⟨b,6,none⟩ = some v6) : W1.cell? ⟨b,0,none⟩ = some v0 /\ W1.cell? ⟨b,1,none⟩ = some v1 /\ W1.cell? ⟨b,2,none⟩ = some v2 /\ W1.cell? ⟨b,3,none⟩ = some v3 /\ W1.cell? ⟨b,4,none⟩ = some v4 /\ W1.cell? ⟨b,5,none⟩ = some v5 /\ W1.cell? ⟨b,6,none⟩ = some v6 :=
 ⟨cell_keep hb h.1,cell_keep hb h.2.1,cell_keep hb h.2.2.1,cell_keep hb h.2.2.2.1,cell_keep hb h.2.2.2.2.1,cell_keep hb h.2.2.2.2.2.1,cell_keep hb h.2.2.2.2.2.2⟩
theorem of_any (fr ev ct un : Int) (D M Y : Option Addr) (dn dc mn mc yn yc : Nat) (ds : List Wd) (ms ys : List Int) (s k : Int) (w : World) (h : Lies w D dn M mn Y yn ds ms ys) :
  Calls Tryz.prog 114 #[.agg #[.int .i64 fr,.int .i64 ev,.int .i64 ct,.int .i64 un,.slice D dn dc,.slice M mn mc,.slice Y yn yc],.int .i64 s,.int .i64 k] w (GivesI w (daysL ⟨fr,ev,ct,un,ds,ms,ys⟩ s k)):=by
 have HBX:=hide (more (start w) (.cells #[.int .i64 fr,.int .i64 ev,.int .i64 ct,.int .i64 un,.slice D dn dc,.slice M mn mc,.slice Y yn yc] 39))
 have HL:=hide (h.keep HBX.out)
 have hAC : ∀ i v,(#[.int .i64 fr,.int .i64 ev,.int .i64 ct,.int .i64 un,.slice D dn dc,.slice M mn mc,.slice Y yn yc] : Array Value)[i]? = some v -> (w.alloc (.cells #[.int .i64 fr,.int .i64 ev,.int .i64 ct,.int .i64 un,.slice D dn dc,.slice M mn mc,.slice Y yn yc] 39)).cell? ⟨w.heap.size,i,none⟩ = some v:=fun i v h => by rw [World.cell?_alloc_at _ _ _ _ rfl]; exact h
 have s0:=hAC 0 _ rfl
 have s1:=hAC 1 _ rfl
 have s2:=hAC 2 _ rfl
 have s3:=hAC 3 _ rfl
 have s4:=hAC 4 _ rfl
 have s5:=hAC 5 _ rfl
 have s6:=hAC 6 _ rfl
 clear hAC
 clear h
 cases hq : perK ⟨fr,ev,ct,un,ds,ms,ys⟩ s k
 ·have HE:=hide (daysL_no _ _ _ hq)
  have HQ:=hide hq
  clear hq
  go_enter Tryz.func114,Tryz.ntmps114
  go_wp2_with fail
  refine (period_is fr ev ct un D M Y dn dc mn mc yn yc ds ms ys s k _ _ _ _ HL.out rfl rfl HQ.out).mono ?_
  rintro e u1 ⟨rfl,hb⟩
  replace HBX:=hide (andthen HBX.out hb)
  replace HL:=hide (HL.out.keep hb)
  replace s0:=cell_keep hb s0
  replace s1:=cell_keep hb s1
  replace s2:=cell_keep hb s2
  replace s3:=cell_keep hb s3
  replace s4:=cell_keep hb s4
  replace s5:=cell_keep hb s5
  replace s6:=cell_keep hb s6
  clear hb
  go_wp2_with fail
  go_ret
  exact ⟨_,rfl,by rw [HE.out]; exact ownI_nil _ _,HBX.out⟩
 ·have HE:=hide (daysL_yes _ _ _ hq)
  have hb:=per_bd _ _ _ hq
  obtain ⟨⟨h1,h2⟩,hr,_,_⟩:=(perK_iff _ _ _).1 hq
  obtain ⟨a,ha⟩ : ∃ a,perA ⟨fr,ev,ct,un,ds,ms,ys⟩ s k = a:=⟨_,rfl⟩
  obtain ⟨b,hbb⟩ : ∃ b,perB ⟨fr,ev,ct,un,ds,ms,ys⟩ s k = b:=⟨_,rfl⟩
  rw [ha,hbb] at hb HE
  have hab : 0 <= a /\ a <= b /\ b <= 36525:=by omega
  have hlen : (upto a b).length <= 1000:=by rw [upto_len]; omega
  have hmem : ∀ x ∈ upto a b,0 <= x /\ x < 36525:=fun x hx => by have:=(upto_mem a b x).1 hx; omega
  have HP:=hide (And.intro ha (And.intro hbb hq))
  clear hq ha hbb hb
  go_enter Tryz.func114,Tryz.ntmps114
  go_wp2_with fail
  generalize (w.alloc (.cells #[.int .i64 fr,.int .i64 ev,.int .i64 ct,.int .i64 un,.slice D dn dc,.slice M mn mc,.slice Y yn yc] 39)) = W at *
  refine (period_is fr ev ct un D M Y dn dc mn mc yn yc ds ms ys s k _ _ _ _ HL.out HP.out.1 HP.out.2.1 HP.out.2.2).mono ?_
  rintro e u1 ⟨rfl,hb⟩
  replace HBX:=hide (andthen HBX.out hb)
  replace HL:=hide (HL.out.keep hb)
  replace s0:=cell_keep hb s0
  replace s1:=cell_keep hb s1
  replace s2:=cell_keep hb s2
  replace s3:=cell_keep hb s3
  replace s4:=cell_keep hb s4
  replace s5:=cell_keep hb s5
  replace s6:=cell_keep hb s6
  clear hb
  go_wp2_with fail
  have HS:=hide (And.intro s0 (And.intro s1 (And.intro s2 (And.intro s3 (And.intro s4 (And.intro s5 s6))))))
  have hd0:=(start u1).drew
  have LD:=hide (HL.out.keep hd0)
  clear s0 s1 s2 s3 s4 s5 s6
  go_region_held3 (fun w' => w'.cell? ⟨w.heap.size,0,none⟩ = some (.int .i64 fr) /\ w'.cell? ⟨w.heap.size,1,none⟩ = some (.int .i64 ev) /\ w'.cell? ⟨w.heap.size,2,none⟩ = some (.int .i64 ct) /\ w'.cell? ⟨w.heap.size,3,none⟩ = some (.int .i64 un) /\ w'.cell? ⟨w.heap.size,4,none⟩ = some (.slice D dn dc) /\ w'.cell? ⟨w.heap.size,5,none⟩ = some (.slice M mn mc) /\ w'.cell? ⟨w.heap.size,6,none⟩ = some (.slice Y yn yc)) (first | exact keep7d (by assumption) HS.out | exact keep7d hd0 HS.out) ((first
   | (go_at_call 137; (with_reducible refine (asked_any fr ev ct un D M Y dn dc mn mc yn yc ds ms ys s _ LD.out h1 h2 hr).mono ?_); rintro e u1 ⟨rfl,hb1⟩; have hk1:=andthen hd0 hb1)
   | (go_at_call 138; (with_reducible refine (allFrom_any a b _ hab.1 hab.2.1 hab.2.2).mono ?_); rintro e u2 ⟨v2,rfl,hown2,hb2⟩; have hk2:=andthen hk1 hb2; obtain ⟨A2,c2,rfl,hrow2⟩:=hown2.row)
   | (go_at_call 136; (with_reducible refine (fitting_any fr ev ct un D M Y dn dc mn mc yn yc ds ms ys (wkA ⟨fr,ev,ct,un,ds,ms,ys⟩ s) (dyA ⟨fr,ev,ct,un,ds,ms,ys⟩ s) (moA ⟨fr,ev,ct,un,ds,ms,ys⟩ s) A2 _ c2 (upto a b) _ (HL.out.keep hk2) hrow2 rfl hlen hmem).mono ?_); rintro e u3 ⟨v3,rfl,hown3,hb3⟩; have hk3:=andthen hk2 hb3)))
  go_wp2_with fail
  go_ret
  exact ⟨_,rfl,by rw [HE.out]; exact OwnI.low hown3 (Nat.le_trans HBX.out.size hk2.size),andthen HBX.out hk3⟩
end Go.Proofs.YtgihekokbgggcaaGreat

/- Walks of package event: read, Read. -/
import Derived.Test.YtfecnkhoojnkbaaGreatDoorZW11
set_option maxHeartbeats 8000000
set_option maxRecDepth 100000
namespace Go.Proofs.YtfecnkhoojnkbaaGreatDoor
open Go.RowKit Rul Rt Go.Sort
theorem BlkAt.under {w w' : World} {b B : Nat} {vs : List Value} (h : BlkAt w b vs) (hb : Below B w w') (hB : b < B) : BlkAt w' b vs :=
 ⟨fun i hi => (hb.cell (p:=⟨b,i,none⟩) hB).trans (h.cell i hi),fun i => (hb.frozen (p:=⟨b,i,none⟩) hB).trans (h.free i),Nat.lt_of_lt_of_le h.lt hb.size⟩
theorem chain7 (w : World) (b : Nat) (v0 v1 v2 v3 v4 v5 v6 : Value) : setAll w b 4 [v0,v1,v2,v3,v4,v5,v6] = (((((((w.setCell ⟨b,4,none⟩ v0).setCell ⟨b,5,none⟩ v1).setCell ⟨b,6,none⟩ v2).setCell ⟨b,7,none⟩ v3).setCell ⟨b,8,none⟩ v4).setCell ⟨b,9,none⟩ v5).setCell ⟨b,10,none⟩ v6):=by simp only [setAll,Nat.reduceAdd]
theorem chain13 (w : World) (b : Nat) (v0 v1 v2 v3 v4 v5 v6 v7 v8 v9 v10 v11 v12 : Value) : setAll w b 0 [v0,v1,v2,v3,v4,v5,v6,v7,v8,v9,v10,v11,v12] = (((((((((((((w.setCell ⟨b,0,none⟩ v0).setCell ⟨b,1,none⟩ v1).setCell ⟨b,2,none⟩ v2).setCell ⟨b,3,none⟩ v3).setCell ⟨b,4,none⟩ v4).setCell ⟨b,5,none⟩ v5).setCell ⟨b,6,none⟩ v6).setCell ⟨b,7,none⟩ v7).setCell ⟨b,8,none⟩ v8).setCell ⟨b,9,none⟩ v9).setCell ⟨b,10,none⟩ v10).setCell ⟨b,11,none⟩ v11).setCell ⟨b,12,none⟩ v12):=by simp only [setAll,Nat.zero_add,Nat.reduceAdd]
theorem line_len (T : Tx) : ∀ n v,Li.lineE T = some (n,v) -> v.length <= T.length:=fun n v h => by
 unfold Li.lineE at h
 split at h
 ·split at h
  ·injection h with h; injection h with h1 h2; subst h2; rw [List.length_drop]; omega
  ·cases h
 ·cases h
structure Fine (p : Tx) : Prop where
 split : ∀ w,Env w -> Calls Tryz.prog 74 #[.string (str p)] w (Ans w (splA (Li.lineE p)))
 val : ∀ n v,Li.lineE p = some (n,v) -> n ∈ Ev.all9 -> v.length <= 100000
theorem fine_short {p : Tx} (h : p.length <= 100000) : Fine p :=
 ⟨fun w he => by have:=split_any (str p) w he (by rw [str_size]; exact h); rwa [str_list] at this,fun n v e _ => Nat.le_trans (line_len p n v e) h⟩
theorem takeF_len {e : Ev.E} {seen : List Tx} {n t : Tx} {q : Ev.E} {s' : List Tx} (h : Ev.takeF unU e seen n t = some (q,s')) : s'.length <= seen.length + 1:=by
 unfold Ev.takeF at h
 split at h
 ·cases h
 ·split at h
  ·cases h
  ·split at h
   ·rw [Option.map_eq_some_iff] at h
    obtain ⟨_,_,h⟩:=h
    injection h with _ h; subst h; rw [List.length_append]; exact Nat.le_refl _
   ·injection h with h; injection h with _ h; subst h; omega
def noParts : Value:=.agg #[.string ⟨#[]⟩,.string ⟨#[]⟩,.int .i64 0,.int .i64 0,.int .i64 0,.int .i64 0,.int .i64 0,.int .i64 0,.slice none 0 0,.slice none 0 0,.slice none 0 0,.slice none 0 0,.slice none 0 0]
def noEvent : Value:=.agg #[.string ⟨#[]⟩,.string ⟨#[]⟩,.int .i64 0,.int .i64 0,.slice none 0 0,.int .i64 0,.int .i64 0,.int .i64 0,.int .i64 0,.slice none 0 0,.slice none 0 0,.slice none 0 0,.slice none 0 0]
def ReadsP (w : World) (p : Option Ev.E × Nat) (e : Ending) (w' : World) : Prop:=Below w.heap.size w w' /\ match p.1 with
 | none => e = .returned (.tuple #[noParts,.int .i64 p.2,.bool false])
 | some q => ∃ m,e = .returned (.tuple #[paV q m,.int .i64 p.2,.bool true]) /\ EvL w' q m
def ReadsE (w : World) (p : Option Ev.E × Nat) (e : Ending) (w' : World) : Prop:=Below w.heap.size w w' /\ match p.1 with
 | none => e = .returned (.tuple #[noEvent,.int .i64 p.2,.int .i64 14])
 | some q => ∃ m,e = .returned (.tuple #[evV q m,.int .i64 p.2,.int .i64 0]) /\ NewE w' w.heap.size q m
abbrev memB : Mem:=⟨none,0,none,0,none,0,none,0,none,0⟩
theorem evL_e0 (w : World) : EvL w Ev.e0 memB:=⟨fun h => absurd rfl h,by decide,lies_once _,fun h => absurd rfl h,by decide,by decide,by decide⟩
theorem rd_e0 {w : World} {X : Nat} (k : BlkAt w X (rdV Ev.e0 memB (.slice none 0 0))) : RdAt w X Ev.e0 memB (.slice none 0 0) :=
 ⟨k,evL_e0 w,fun h => absurd rfl h,fun h => absurd rfl h,fun h => absurd rfl h,fun h => absurd rfl h,fun h => absurd rfl h,by simp [Value.ownBlock]⟩
theorem rd_blk {w : World} {X : Nat} (k : BlkAt w X [.string ⟨#[]⟩,.string ⟨#[]⟩,.int .i64 0,.int .i64 0,.int .i64 0,.int .i64 0,.int .i64 0,.int .i64 0,.slice none 0 0,.slice none 0 0,.slice none 0 0,.slice none 0 0,.slice none 0 0,.slice none 0 0]) : BlkAt (setAll w X 4 [.int .i64 0,.int .i64 0,.int .i64 0,.int .i64 (-1),.slice none 0 0,.slice none 0 0,.slice none 0 0]) X (rdV Ev.e0 memB (.slice none 0 0)) :=
 (((((((k.set 4 (.int .i64 0) (by simp)).set 5 (.int .i64 0) (by simp)).set 6 (.int .i64 0) (by simp)).set 7 (.int .i64 (-1)) (by simp)).set 8 (.slice none 0 0) (by simp)).set 9 (.slice none 0 0) (by simp)).set 10 (.slice none 0 0) (by simp)).is rfl
theorem eread_any (A : Option Addr) (n c : Nat) (l : List Tx) (w : World) (hl : RowS w A l) (hn : n = l.length) (hsz : l.length <= 900) (hb : ∀ p ∈ l,Fine p) (he : EnvE w) :
  Calls Tryz.prog 145 #[.slice A n c] w (ReadsP w (Ev.goF unU 0 Ev.e0 [] l)):=by
 subst hn
 have HR:=hide hl
 have HE:=hide he
 have HB:=hide hb
 obtain ⟨P,hP⟩ : ∃ P,Ev.goF unU 0 Ev.e0 [] l = P:=⟨_,rfl⟩
 have HP:=hide hP
 rw [hP]
 have hz0:=blk_new w #[.string ⟨#[]⟩,.string ⟨#[]⟩,.int .i64 0,.int .i64 0,.int .i64 0,.int .i64 0,.int .i64 0,.int .i64 0,.slice none 0 0,.slice none 0 0,.slice none 0 0,.slice none 0 0,.slice none 0 0] 96
 have hx0:=blk_new (w.alloc (.cells #[.string ⟨#[]⟩,.string ⟨#[]⟩,.int .i64 0,.int .i64 0,.int .i64 0,.int .i64 0,.int .i64 0,.int .i64 0,.slice none 0 0,.slice none 0 0,.slice none 0 0,.slice none 0 0,.slice none 0 0] 96)) #[.string ⟨#[]⟩,.string ⟨#[]⟩,.int .i64 0,.int .i64 0,.int .i64 0,.int .i64 0,.int .i64 0,.int .i64 0,.slice none 0 0,.slice none 0 0,.slice none 0 0,.slice none 0 0,.slice none 0 0,.slice none 0 0] 228
 rw [World.size_alloc] at hx0
 have hz1:=hz0.keep (more (start _) (.cells #[.string ⟨#[]⟩,.string ⟨#[]⟩,.int .i64 0,.int .i64 0,.int .i64 0,.int .i64 0,.int .i64 0,.int .i64 0,.slice none 0 0,.slice none 0 0,.slice none 0 0,.slice none 0 0,.slice none 0 0,.slice none 0 0] 228))
 have hbw:=more (more (start w) (.cells #[.string ⟨#[]⟩,.string ⟨#[]⟩,.int .i64 0,.int .i64 0,.int .i64 0,.int .i64 0,.int .i64 0,.int .i64 0,.slice none 0 0,.slice none 0 0,.slice none 0 0,.slice none 0 0,.slice none 0 0] 96)) (.cells #[.string ⟨#[]⟩,.string ⟨#[]⟩,.int .i64 0,.int .i64 0,.int .i64 0,.int .i64 0,.int .i64 0,.int .i64 0,.slice none 0 0,.slice none 0 0,.slice none 0 0,.slice none 0 0,.slice none 0 0,.slice none 0 0] 228)
 have HX:=hide hx0
 have HZ:=hide hz1
 have HBW:=hide hbw
 clear hl hb he hP hz0 hz1 hx0 hbw
 go_enter Tryz.func145,Tryz.ntmps145
 go_wp2_with fail
 refine (once_any _).mono ?_
 rintro _ w1 ⟨rfl,hb1⟩
 replace HX:=hide (HX.out.keep hb1)
 replace HZ:=hide (HZ.out.keep hb1)
 replace HBW:=hide (andthen HBW.out hb1)
 clear hb1
 obtain ⟨⟨x0,xf0⟩,⟨x1,xf1⟩,⟨x2,xf2⟩,⟨x3,xf3⟩,⟨x4,xf4⟩,⟨x5,xf5⟩,⟨x6,xf6⟩,⟨x7,xf7⟩,⟨x8,xf8⟩,⟨x9,xf9⟩,⟨x10,xf10⟩,⟨x11,xf11⟩,⟨x12,xf12⟩,⟨x13,xf13⟩⟩:=HX.out.c14
 have hxl:=HX.out.lt
 go_wp2_with fail
 have hX1:=rd_e0 (rd_blk HX.out)
 have hZ1:=HZ.out.past (c:=w.heap.size + 1) [.int .i64 0,.int .i64 0,.int .i64 0,.int .i64 (-1),.slice none 0 0,.slice none 0 0,.slice none 0 0] 4 (by omega)
 have hB1:=all_below [.int .i64 0,.int .i64 0,.int .i64 0,.int .i64 (-1),.slice none 0 0,.slice none 0 0,.slice none 0 0] (w.heap.size + 1) 4 HBW.out (by omega)
 rw [chain7] at hX1 hZ1 hB1
 have HR0:=hide hX1
 replace HZ:=hide hZ1
 replace HBW:=hide hB1
 clear hX1 hZ1 hB1
 clear HX x0 xf0 x1 xf1 x2 xf2 x3 xf3 x4 xf4 x5 xf5 x6 xf6 x7 xf7 x8 xf8 x9 xf9 x10 xf10 x11 xf11 x12 xf12 x13 xf13 hxl
 go_loopw [6,7,8,9,10,18] (fun _ _ _ _ _ i wr => ∃ (j : Nat) (e : Ev.E) (m : Mem) (v : Value) (seen : List Tx),j <= l.length /\ i = .int .i64 j /\ RdAt wr (w.heap.size + 1) e m v /\ OwnS wr (w.heap.size + 2) v seen /\ BlkAt wr w.heap.size [.string ⟨#[]⟩,.string ⟨#[]⟩,.int .i64 0,.int .i64 0,.int .i64 0,.int .i64 0,.int .i64 0,.int .i64 0,.slice none 0 0,.slice none 0 0,.slice none 0 0,.slice none 0 0,.slice none 0 0] /\ Hid (seen.length <= j) /\ Hid (Ev.goF unU j e seen (l.drop j) = P) /\ Below w.heap.size w wr) (fun _ _ _ _ _ i _ => l.length - (intOf i).toNat)
 case atStart => exact ⟨0,Ev.e0,memB,.slice none 0 0,[],Nat.zero_le _,rfl,HR0.out,ownS_nil _ _,HZ.out,hide (Nat.le_refl _),HP,HBW.out⟩
 case round =>
  obtain ⟨j,e,m,v,seen,hj,rfl,hx,hown,hz,HSN,HGO,hbw⟩:=hrel
  clear HR0 HZ HBW
  have HX:=hide hx
  have HO:=hide hown
  have HZ:=hide hz
  have HBR:=hide hbw
  clear hx hown hz hbw
  by_cases hlt : j < l.length
  ·obtain ⟨b1,o1,rfl,hb1,hc1⟩:=HR.out (by intro h0; rw [h0] at hlt; exact absurd hlt (Nat.not_lt_zero _))
   obtain ⟨T,hm⟩ : ∃ T,l[j] = T:=⟨_,rfl⟩
   have hT:=HB.out l[j] (List.getElem_mem _)
   rw [hm] at hT
   have p1 : wr.cell? ⟨b1,o1 + j,none⟩ = some (.string (str T)):=by rw [<- hm]; exact (HBR.out.cell (p:=⟨b1,_,none⟩) hb1).trans (hc1 j hlt)
   have hi0 : (0 : Int) <= (j : Int):=by omega
   have hi1 : (j : Int) < (l.length : Int):=by omega
   clear hc1
   have HSP:=hide (fun w he => hT.split w he)
   obtain ⟨O,hO⟩ : ∃ O,Li.lineE T = O:=⟨_,rfl⟩
   rw [hO] at HSP
   have hle:=hT.val
   rw [hO] at hle
   have hO2 : Li.lineE l[j] = O:=by rw [hm]; exact hO
   clear hO hm
   cases O with
   | none =>
    have HF : Hid (P = (none,j)):=hide (HGO.out.symm.trans (Ev.goF_none hlt hO2))
    unfold splA at HSP
    go_wp2_with fail
    refine (HSP.out _ (HE.out.e.below HBR.out (Nat.le_refl _))).mono ?_
    rintro _ wv ⟨rfl,hbv⟩
    replace HZ:=hide (HZ.out.keep hbv)
    replace HBR:=hide (andthen HBR.out hbv)
    clear hbv p1
    obtain ⟨⟨z0,zf0⟩,⟨z1,zf1⟩,⟨z2,zf2⟩,⟨z3,zf3⟩,⟨z4,zf4⟩,⟨z5,zf5⟩,⟨z6,zf6⟩,⟨z7,zf7⟩,⟨z8,zf8⟩,⟨z9,zf9⟩,⟨z10,zf10⟩,⟨z11,zf11⟩,⟨z12,zf12⟩⟩:=HZ.out.c13
    have hlz:=HZ.out.lt
    have hZ1:=HZ.out.all [.string ⟨#[]⟩,.string ⟨#[]⟩,.int .i64 0,.int .i64 0,.int .i64 0,.int .i64 0,.int .i64 0,.int .i64 0,.slice none 0 0,.slice none 0 0,.slice none 0 0,.slice none 0 0,.slice none 0 0] rfl
    have hB1:=all_below [.string ⟨#[]⟩,.string ⟨#[]⟩,.int .i64 0,.int .i64 0,.int .i64 0,.int .i64 0,.int .i64 0,.int .i64 0,.slice none 0 0,.slice none 0 0,.slice none 0 0,.slice none 0 0,.slice none 0 0] w.heap.size 0 HBR.out (Nat.le_refl _)
    rw [chain13] at hZ1 hB1
    have HZ1:=hide (And.intro hZ1 hB1)
    clear hZ1 hB1
    go_wp2_with fail
    refine ret_gen (fun W => BlkAt W w.heap.size [.string ⟨#[]⟩,.string ⟨#[]⟩,.int .i64 0,.int .i64 0,.int .i64 0,.int .i64 0,.int .i64 0,.int .i64 0,.slice none 0 0,.slice none 0 0,.slice none 0 0,.slice none 0 0,.slice none 0 0] /\ Below w.heap.size w W) HZ1.out ?_
    rintro WF ⟨hk,hb⟩
    obtain ⟨⟨k0,-⟩,⟨k1,-⟩,⟨k2,-⟩,⟨k3,-⟩,⟨k4,-⟩,⟨k5,-⟩,⟨k6,-⟩,⟨k7,-⟩,⟨k8,-⟩,⟨k9,-⟩,⟨k10,-⟩,⟨k11,-⟩,⟨k12,-⟩⟩:=hk.c13
    refine bodyPost_ret (v:=.tuple #[noParts,.int .i64 j,.bool false]) (by simp [results,Tryz.results145,go_sem,noParts,k0,k1,k2,k3,k4,k5,k6,k7,k8,k9,k10,k11,k12]) rfl ?_
    rw [HF.out]
    exact ⟨hb,rfl⟩
   | some nv =>
    obtain ⟨N,t⟩:=nv
    have ht : N ∈ Ev.all9 -> t.length <= 100000:=hle N t rfl
    unfold splA at HSP
    simp only at HSP
    go_wp2_with fail
    refine (HSP.out _ (HE.out.e.below HBR.out (Nat.le_refl _))).mono ?_
    rintro _ wv ⟨rfl,hbv⟩
    replace HZ:=hide (HZ.out.keep hbv)
    replace HX:=hide (HX.out.keep hbv)
    replace HO:=hide (HO.out.keep hbv)
    replace HBR:=hide (andthen HBR.out hbv)
    clear hbv p1
    have hsn : seen.length <= 999:=by have:=HSN.out; omega
    obtain ⟨Q,hQ⟩ : ∃ Q,Ev.takeF unU e seen N t = Q:=⟨_,rfl⟩
    have HTK:=hide (etake_any N t (w.heap.size + 1) e m v seen wv HX.out HO.out (fun w' hb => HE.out.below (HBR.out.trans (hb.mono (Nat.le_succ _))) (Nat.le_refl _)) ht hsn)
    rw [hQ] at HTK
    go_wp2_with fail
    refine (HTK.out).mono ?_
    rintro _ w3 ⟨hb3,h3⟩
    replace HZ:=hide (HZ.out.under hb3 (Nat.lt_succ_self _))
    replace HBR:=hide (HBR.out.trans (hb3.mono (Nat.le_succ _)))
    clear hb3 HTK HX HO
    cases Q with
    | none =>
     subst h3
     have HF : Hid (P = (none,j)):=hide (HGO.out.symm.trans (Ev.goF_bad hlt hO2 hQ))
     obtain ⟨⟨z0,zf0⟩,⟨z1,zf1⟩,⟨z2,zf2⟩,⟨z3,zf3⟩,⟨z4,zf4⟩,⟨z5,zf5⟩,⟨z6,zf6⟩,⟨z7,zf7⟩,⟨z8,zf8⟩,⟨z9,zf9⟩,⟨z10,zf10⟩,⟨z11,zf11⟩,⟨z12,zf12⟩⟩:=HZ.out.c13
     have hlz:=HZ.out.lt
     have hZ1:=HZ.out.all [.string ⟨#[]⟩,.string ⟨#[]⟩,.int .i64 0,.int .i64 0,.int .i64 0,.int .i64 0,.int .i64 0,.int .i64 0,.slice none 0 0,.slice none 0 0,.slice none 0 0,.slice none 0 0,.slice none 0 0] rfl
     have hB1:=all_below [.string ⟨#[]⟩,.string ⟨#[]⟩,.int .i64 0,.int .i64 0,.int .i64 0,.int .i64 0,.int .i64 0,.int .i64 0,.slice none 0 0,.slice none 0 0,.slice none 0 0,.slice none 0 0,.slice none 0 0] w.heap.size 0 HBR.out (Nat.le_refl _)
     rw [chain13] at hZ1 hB1
     have HZ1:=hide (And.intro hZ1 hB1)
     clear hZ1 hB1
     go_wp2_with fail
     refine ret_gen (fun W => BlkAt W w.heap.size [.string ⟨#[]⟩,.string ⟨#[]⟩,.int .i64 0,.int .i64 0,.int .i64 0,.int .i64 0,.int .i64 0,.int .i64 0,.slice none 0 0,.slice none 0 0,.slice none 0 0,.slice none 0 0,.slice none 0 0] /\ Below w.heap.size w W) HZ1.out ?_
     rintro WF ⟨hk,hb⟩
     obtain ⟨⟨k0,-⟩,⟨k1,-⟩,⟨k2,-⟩,⟨k3,-⟩,⟨k4,-⟩,⟨k5,-⟩,⟨k6,-⟩,⟨k7,-⟩,⟨k8,-⟩,⟨k9,-⟩,⟨k10,-⟩,⟨k11,-⟩,⟨k12,-⟩⟩:=hk.c13
     refine bodyPost_ret (v:=.tuple #[noParts,.int .i64 j,.bool false]) (by simp [results,Tryz.results145,go_sem,noParts,k0,k1,k2,k3,k4,k5,k6,k7,k8,k9,k10,k11,k12]) rfl ?_
     rw [HF.out]
     exact ⟨hb,rfl⟩
    | some q =>
     obtain ⟨q,s'⟩:=q
     obtain ⟨rfl,m',v',hx3,ho3⟩:=h3
     simp only at hx3 ho3
     have HX:=hide hx3
     have HO:=hide ho3
     have HSN2 : Hid (s'.length <= j + 1):=hide (by have h1:=takeF_len hQ; have h2:=HSN.out; omega)
     clear hx3 ho3
     by_cases hN : N = Ev.nEND
     ·subst hN
      have HF : Hid (P = (some q,j + 1)):=hide (HGO.out.symm.trans (Ev.goF_end hlt hO2 hQ))
      obtain ⟨NN,hNN⟩ : ∃ NN,Ev.nEND = NN:=⟨_,rfl⟩
      have e1 : (NN == [69,78,68]) = true:=by rw [<- hNN]; decide
      have q1:=str_tl NN
      rw [hNN] at *
      clear hNN hQ hO2
      have hij : (j : Int) + 1 <= 1000:=by omega
      clear hb1
      obtain ⟨⟨x0,xf0⟩,⟨x1,xf1⟩,⟨x2,xf2⟩,⟨x3,xf3⟩,⟨x4,xf4⟩,⟨x5,xf5⟩,⟨x6,xf6⟩,⟨x7,xf7⟩,⟨x8,xf8⟩,⟨x9,xf9⟩,⟨x10,xf10⟩,⟨x11,xf11⟩,⟨x12,xf12⟩,-⟩:=HX.out.k.c14
      obtain ⟨⟨z0,zf0⟩,⟨z1,zf1⟩,⟨z2,zf2⟩,⟨z3,zf3⟩,⟨z4,zf4⟩,⟨z5,zf5⟩,⟨z6,zf6⟩,⟨z7,zf7⟩,⟨z8,zf8⟩,⟨z9,zf9⟩,⟨z10,zf10⟩,⟨z11,zf11⟩,⟨z12,zf12⟩⟩:=HZ.out.c13
      have hlz:=HZ.out.lt
      have hg:=all_grown [.string (str q.uid),.string (str q.text),.int .i64 q.st,.int .i64 q.lg,.int .i64 q.r.fr,.int .i64 q.r.ev,.int .i64 q.r.ct,.int .i64 q.r.un,.slice m'.D q.r.ds.length m'.dc,.slice m'.M q.r.ms.length m'.mc,.slice m'.Y q.r.ys.length m'.yc,.slice m'.X q.ex.length m'.xc,.slice m'.O q.rooms.length m'.oc] w3 w.heap.size 0
      have hL1:=HX.out.out (Nat.lt_succ_self _) hg
      have hZ1:=HZ.out.all [.string (str q.uid),.string (str q.text),.int .i64 q.st,.int .i64 q.lg,.int .i64 q.r.fr,.int .i64 q.r.ev,.int .i64 q.r.ct,.int .i64 q.r.un,.slice m'.D q.r.ds.length m'.dc,.slice m'.M q.r.ms.length m'.mc,.slice m'.Y q.r.ys.length m'.yc,.slice m'.X q.ex.length m'.xc,.slice m'.O q.rooms.length m'.oc] rfl
      have hB1:=all_below [.string (str q.uid),.string (str q.text),.int .i64 q.st,.int .i64 q.lg,.int .i64 q.r.fr,.int .i64 q.r.ev,.int .i64 q.r.ct,.int .i64 q.r.un,.slice m'.D q.r.ds.length m'.dc,.slice m'.M q.r.ms.length m'.mc,.slice m'.Y q.r.ys.length m'.yc,.slice m'.X q.ex.length m'.xc,.slice m'.O q.rooms.length m'.oc] w.heap.size 0 HBR.out (Nat.le_refl _)
      rw [chain13] at hL1 hZ1 hB1
      have HLN:=hide (And.intro hZ1 (And.intro hL1 hB1))
      clear hg hL1 hZ1 hB1
      go_wp2_with fail
      refine ret_gen (fun W => BlkAt W w.heap.size [.string (str q.uid),.string (str q.text),.int .i64 q.st,.int .i64 q.lg,.int .i64 q.r.fr,.int .i64 q.r.ev,.int .i64 q.r.ct,.int .i64 q.r.un,.slice m'.D q.r.ds.length m'.dc,.slice m'.M q.r.ms.length m'.mc,.slice m'.Y q.r.ys.length m'.yc,.slice m'.X q.ex.length m'.xc,.slice m'.O q.rooms.length m'.oc] /\ EvL W q m' /\ Below w.heap.size w W) HLN.out ?_
      rintro WF ⟨hk,hl,hb⟩
      obtain ⟨⟨k0,-⟩,⟨k1,-⟩,⟨k2,-⟩,⟨k3,-⟩,⟨k4,-⟩,⟨k5,-⟩,⟨k6,-⟩,⟨k7,-⟩,⟨k8,-⟩,⟨k9,-⟩,⟨k10,-⟩,⟨k11,-⟩,⟨k12,-⟩⟩:=hk.c13
      refine bodyPost_ret (v:=.tuple #[paV q m',.int .i64 ((j : Int) + 1),.bool true]) (by simp [results,Tryz.results145,go_sem,k0,k1,k2,k3,k4,k5,k6,k7,k8,k9,k10,k11,k12]) rfl ?_
      rw [HF.out]
      exact ⟨hb,m',rfl,hl⟩
     ·have HG2:=hide ((Ev.goF_next hlt hO2 hQ hN).symm.trans HGO.out)
      have e1 : (N == [69,78,68]) = false:=by rw [tx_eq]; exact decide_eq_false hN
      have q1:=str_tl N
      clear hQ hO2 hN hb1 hle
      go_wp2_with fail
      go_roundw
      case rel => exact ⟨j + 1,q,m',v',s',by omega,by go_num,HX.out,HO.out,HZ.out,HSN2,HG2,HBR.out⟩
      case measure => simp [intOf]; omega
  ·obtain rfl : j = l.length:=by omega
   have HF : Hid (P = (none,l.length)):=hide (HGO.out.symm.trans Ev.goF_out)
   obtain ⟨⟨z0,zf0⟩,⟨z1,zf1⟩,⟨z2,zf2⟩,⟨z3,zf3⟩,⟨z4,zf4⟩,⟨z5,zf5⟩,⟨z6,zf6⟩,⟨z7,zf7⟩,⟨z8,zf8⟩,⟨z9,zf9⟩,⟨z10,zf10⟩,⟨z11,zf11⟩,⟨z12,zf12⟩⟩:=HZ.out.c13
   have hlz:=HZ.out.lt
   have hZ1:=HZ.out.all [.string ⟨#[]⟩,.string ⟨#[]⟩,.int .i64 0,.int .i64 0,.int .i64 0,.int .i64 0,.int .i64 0,.int .i64 0,.slice none 0 0,.slice none 0 0,.slice none 0 0,.slice none 0 0,.slice none 0 0] rfl
   have hB1:=all_below [.string ⟨#[]⟩,.string ⟨#[]⟩,.int .i64 0,.int .i64 0,.int .i64 0,.int .i64 0,.int .i64 0,.int .i64 0,.slice none 0 0,.slice none 0 0,.slice none 0 0,.slice none 0 0,.slice none 0 0] w.heap.size 0 HBR.out (Nat.le_refl _)
   rw [chain13] at hZ1 hB1
   have HZ1:=hide (And.intro hZ1 hB1)
   clear hZ1 hB1
   go_wp2_with fail
   refine ret_gen (fun W => BlkAt W w.heap.size [.string ⟨#[]⟩,.string ⟨#[]⟩,.int .i64 0,.int .i64 0,.int .i64 0,.int .i64 0,.int .i64 0,.int .i64 0,.slice none 0 0,.slice none 0 0,.slice none 0 0,.slice none 0 0,.slice none 0 0] /\ Below w.heap.size w W) HZ1.out ?_
   rintro WF ⟨hk,hb⟩
   obtain ⟨⟨k0,-⟩,⟨k1,-⟩,⟨k2,-⟩,⟨k3,-⟩,⟨k4,-⟩,⟨k5,-⟩,⟨k6,-⟩,⟨k7,-⟩,⟨k8,-⟩,⟨k9,-⟩,⟨k10,-⟩,⟨k11,-⟩,⟨k12,-⟩⟩:=hk.c13
   refine bodyPost_ret (v:=.tuple #[noParts,.int .i64 l.length,.bool false]) (by simp [results,Tryz.results145,go_sem,noParts,k0,k1,k2,k3,k4,k5,k6,k7,k8,k9,k10,k11,k12]) rfl ?_
   rw [HF.out]
   exact ⟨hb,rfl⟩
theorem eRead_fine (A : Option Addr) (n c : Nat) (l : List Tx) (w : World) (hl : RowS w A l) (hn : n = l.length) (hsz : l.length <= 900) (hb : ∀ p ∈ l,Fine p) (he : EnvE w) :
  Calls Tryz.prog 111 #[.slice A n c] w (ReadsE w (Ev.readE unU l)):=by
 have HC:=hide (fun w hl he => eread_any A n c l w hl hn hsz hb he)
 rw [Ev.goF_read] at HC
 obtain ⟨P,hP⟩ : ∃ P,Ev.readE unU l = P:=⟨_,rfl⟩
 rw [hP] at HC ⊢
 clear hP
 obtain ⟨O,i⟩:=P
 have hz0:=blk_new w #[.string ⟨#[]⟩,.string ⟨#[]⟩,.int .i64 0,.int .i64 0,.slice none 0 0,.int .i64 0,.int .i64 0,.int .i64 0,.int .i64 0,.slice none 0 0,.slice none 0 0,.slice none 0 0,.slice none 0 0] 47
 have hbw:=more (start w) (.cells #[.string ⟨#[]⟩,.string ⟨#[]⟩,.int .i64 0,.int .i64 0,.slice none 0 0,.int .i64 0,.int .i64 0,.int .i64 0,.int .i64 0,.slice none 0 0,.slice none 0 0,.slice none 0 0,.slice none 0 0] 47)
 have HR:=hide (hl.keep hbw)
 have HE:=hide (he.keep hbw)
 have HZ:=hide hz0
 have HB:=hide hbw
 clear hl hn hsz hb he hz0 hbw
 go_enter Tryz.func111,Tryz.ntmps111
 go_wp2_with fail
 refine (HC.out _ HR.out HE.out).mono ?_
 rintro e w1 ⟨hb1,h1⟩
 replace HZ:=hide (HZ.out.keep hb1)
 replace HB:=hide (andthen HB.out hb1)
 clear hb1 HC HR HE
 cases O with
 | none =>
  simp only at h1
  subst h1
  unfold noParts
  replace HB:=hide (more HB.out (.cells #[.string ⟨#[]⟩,.string ⟨#[]⟩,.int .i64 0,.int .i64 0,.int .i64 0,.int .i64 0,.int .i64 0,.int .i64 0,.slice none 0 0,.slice none 0 0,.slice none 0 0,.slice none 0 0,.slice none 0 0] 96))
  replace HZ:=hide (HZ.out.keep (more (start w1) (.cells #[.string ⟨#[]⟩,.string ⟨#[]⟩,.int .i64 0,.int .i64 0,.int .i64 0,.int .i64 0,.int .i64 0,.int .i64 0,.slice none 0 0,.slice none 0 0,.slice none 0 0,.slice none 0 0,.slice none 0 0] 96)))
  obtain ⟨⟨z0,zf0⟩,⟨z1,zf1⟩,⟨z2,zf2⟩,⟨z3,zf3⟩,⟨z4,zf4⟩,⟨z5,zf5⟩,⟨z6,zf6⟩,⟨z7,zf7⟩,⟨z8,zf8⟩,⟨z9,zf9⟩,⟨z10,zf10⟩,⟨z11,zf11⟩,⟨z12,zf12⟩⟩:=HZ.out.c13
  have hlz:=HZ.out.lt
  have hZ1:=HZ.out.all [.string ⟨#[]⟩,.string ⟨#[]⟩,.int .i64 0,.int .i64 0,.slice none 0 0,.int .i64 0,.int .i64 0,.int .i64 0,.int .i64 0,.slice none 0 0,.slice none 0 0,.slice none 0 0,.slice none 0 0] rfl
  have hB1:=all_below [.string ⟨#[]⟩,.string ⟨#[]⟩,.int .i64 0,.int .i64 0,.slice none 0 0,.int .i64 0,.int .i64 0,.int .i64 0,.int .i64 0,.slice none 0 0,.slice none 0 0,.slice none 0 0,.slice none 0 0] w.heap.size 0 HB.out (Nat.le_refl _)
  rw [chain13] at hZ1 hB1
  have HZ1:=hide (And.intro hZ1 hB1)
  clear hZ1 hB1
  go_wp2_with fail
  refine ret_gen (fun W => BlkAt W w.heap.size [.string ⟨#[]⟩,.string ⟨#[]⟩,.int .i64 0,.int .i64 0,.slice none 0 0,.int .i64 0,.int .i64 0,.int .i64 0,.int .i64 0,.slice none 0 0,.slice none 0 0,.slice none 0 0,.slice none 0 0] /\ Below w.heap.size w W) HZ1.out ?_
  rintro WF ⟨hk,hb⟩
  obtain ⟨⟨k0,-⟩,⟨k1,-⟩,⟨k2,-⟩,⟨k3,-⟩,⟨k4,-⟩,⟨k5,-⟩,⟨k6,-⟩,⟨k7,-⟩,⟨k8,-⟩,⟨k9,-⟩,⟨k10,-⟩,⟨k11,-⟩,⟨k12,-⟩⟩:=hk.c13
  exact bodyPost_ret (v:=.tuple #[noEvent,.int .i64 i,.int .i64 14]) (by simp [results,Tryz.results111,go_sem,noEvent,k0,k1,k2,k3,k4,k5,k6,k7,k8,k9,k10,k11,k12]) rfl ⟨hb,rfl⟩
 | some q =>
  simp only at h1
  obtain ⟨m',rfl,hl1⟩:=h1
  have hnew:=more (start w1) (.cells #[.string (str q.uid),.string (str q.text),.int .i64 q.st,.int .i64 q.lg,.int .i64 q.r.fr,.int .i64 q.r.ev,.int .i64 q.r.ct,.int .i64 q.r.un,.slice m'.D q.r.ds.length m'.dc,.slice m'.M q.r.ms.length m'.mc,.slice m'.Y q.r.ys.length m'.yc,.slice m'.X q.ex.length m'.xc,.slice m'.O q.rooms.length m'.oc] 96)
  have hblk:=blk_new w1 #[.string (str q.uid),.string (str q.text),.int .i64 q.st,.int .i64 q.lg,.int .i64 q.r.fr,.int .i64 q.r.ev,.int .i64 q.r.ct,.int .i64 q.r.un,.slice m'.D q.r.ds.length m'.dc,.slice m'.M q.r.ms.length m'.mc,.slice m'.Y q.r.ys.length m'.yc,.slice m'.X q.ex.length m'.xc,.slice m'.O q.rooms.length m'.oc] 96
  replace HB:=hide (more HB.out (.cells #[.string (str q.uid),.string (str q.text),.int .i64 q.st,.int .i64 q.lg,.int .i64 q.r.fr,.int .i64 q.r.ev,.int .i64 q.r.ct,.int .i64 q.r.un,.slice m'.D q.r.ds.length m'.dc,.slice m'.M q.r.ms.length m'.mc,.slice m'.Y q.r.ys.length m'.yc,.slice m'.X q.ex.length m'.xc,.slice m'.O q.rooms.length m'.oc] 96))
  replace HZ:=hide (HZ.out.keep hnew)
  have HL:=hide (hl1.keep hnew)
  obtain ⟨⟨x0,xf0⟩,⟨x1,xf1⟩,⟨x2,xf2⟩,⟨x3,xf3⟩,⟨x4,xf4⟩,⟨x5,xf5⟩,⟨x6,xf6⟩,⟨x7,xf7⟩,⟨x8,xf8⟩,⟨x9,xf9⟩,⟨x10,xf10⟩,⟨x11,xf11⟩,⟨x12,xf12⟩⟩:=hblk.c13
  have HV:=hide (fun w h => pevent_any q m' w h)
  clear hnew hblk hl1
  go_wp2_with fail
  refine (HV.out _ HL.out).mono ?_
  rintro e w2 ⟨m2,rfl,hn2,hb2⟩
  have hsz2:=HZ.out.lt
  replace HZ:=hide (HZ.out.keep hb2)
  replace HB:=hide (andthen HB.out hb2)
  have HF:=fin_end HZ.out rfl hsz2 (Nat.le_refl _) hn2 HB.out
  rw [chain13] at HF
  have HFF:=hide HF
  clear HF hn2 hb2 hsz2 HV HL x0 xf0 x1 xf1 x2 xf2 x3 xf3 x4 xf4 x5 xf5 x6 xf6 x7 xf7 x8 xf8 x9 xf9 x10 xf10 x11 xf11 x12 xf12
  obtain ⟨⟨z0,zf0⟩,⟨z1,zf1⟩,⟨z2,zf2⟩,⟨z3,zf3⟩,⟨z4,zf4⟩,⟨z5,zf5⟩,⟨z6,zf6⟩,⟨z7,zf7⟩,⟨z8,zf8⟩,⟨z9,zf9⟩,⟨z10,zf10⟩,⟨z11,zf11⟩,⟨z12,zf12⟩⟩:=HZ.out.c13
  have hlz:=HZ.out.lt
  go_wp2_with fail
  refine ret_gen (fun W => FinE w w.heap.size q m2 W) HFF.out ?_
  rintro WF ⟨hk,hn,hb⟩
  obtain ⟨⟨k0,-⟩,⟨k1,-⟩,⟨k2,-⟩,⟨k3,-⟩,⟨k4,-⟩,⟨k5,-⟩,⟨k6,-⟩,⟨k7,-⟩,⟨k8,-⟩,⟨k9,-⟩,⟨k10,-⟩,⟨k11,-⟩,⟨k12,-⟩⟩:=hk.c13
  exact bodyPost_ret (v:=.tuple #[evV q m2,.int .i64 i,.int .i64 0]) (by simp [results,Tryz.results111,go_sem,k0,k1,k2,k3,k4,k5,k6,k7,k8,k9,k10,k11,k12]) rfl ⟨hb,m2,rfl,hn⟩
theorem eRead_any (A : Option Addr) (n c : Nat) (l : List Tx) (w : World) (hl : RowS w A l) (hn : n = l.length) (hsz : l.length <= 900) (hb : ∀ p ∈ l,p.length <= 100000) (he : EnvE w) :
  Calls Tryz.prog 111 #[.slice A n c] w (ReadsE w (Ev.readE unU l)):=eRead_fine A n c l w hl hn hsz (fun p hp => fine_short (hb p hp)) he
end Go.Proofs.YtfecnkhoojnkbaaGreatDoor

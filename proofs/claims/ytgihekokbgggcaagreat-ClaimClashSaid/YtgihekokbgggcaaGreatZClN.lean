/- Package claim: overlap, each. -/
import Derived.Deep.RegionHeld3
import Derived.Test.YtgihekokbgggcaaGreatZM4
import Derived.Test.YtgihekokbgggcaaGreatZC1
import Derived.Test.YtgihekokbgggcaaGreatZClF
import Derived.Test.YtgihekokbgggcaaGreatZBExC
set_option maxHeartbeats 8000000
set_option maxRecDepth 1000000
namespace Go.Proofs.YtgihekokbgggcaaGreat.S2
open Go.RowKit Spn Cl
theorem keepC4 {W W1 : World} (hb : Below W.heap.size W W1) {a0 a1 a2 a3 : Addr} {v0 v1 v2 v3 : Value} (h : W.cell? a0 = some v0 /\ W.cell? a1 = some v1 /\ W.cell? a2 = some v2 /\ W.cell? a3 = some v3) : W1.cell? a0 = some v0 /\ W1.cell? a1 = some v1 /\ W1.cell? a2 = some v2 /\ W1.cell? a3 = some v3 :=
 ⟨cell_keep hb h.1,cell_keep hb h.2.1,cell_keep hb h.2.2.1,cell_keep hb h.2.2.2⟩
set_option linter.unusedVariables false in
theorem overlap_any (A : Option Addr) (n c : Nat) (l : List Sp) (w : World) (h : Row w A l) (he : n = l.length) (hn : l.length <= 400000) :
  Calls Tryz.prog 51 #[.slice A n c] w fun e w' => e = .returned (.bool (lapB l)) /\ Below w.heap.size w w':=by
 subst he
 have HR:=hide h
 clear h
 go_enter Tryz.func51,Tryz.ntmps51
 go_wp2_with fail
 go_loopw [3] (fun i wr => ∃ k : Nat,(k <= l.length ∨ k = 0) /\ i = .int .i64 ((k : Int) + 1) /\ Hid (∀ j,j < k -> j + 1 < l.length -> lapAt l j = false) /\ Hid (Below w.heap.size w wr)) (fun i _ => l.length - (intOf i).toNat)
 case atStart => exact ⟨0,Or.inr rfl,rfl,hide (fun j h => absurd h (Nat.not_lt_zero _)),hide (start _)⟩
 case round =>
  obtain ⟨k,hk,rfl,HN,HB⟩:=hrel
  by_cases hlt : k + 1 < l.length
  ·obtain ⟨b,off,rfl,hb,hcl⟩:=HR.out (by intro h0; rw [h0] at hlt; exact absurd hlt (Nat.not_lt_zero _))
   have HLA:=hide (lapAt_eq l k hlt)
   obtain ⟨x1,x2⟩:=hcl k (by omega)
   obtain ⟨y1,y2⟩:=hcl (k + 1) hlt
   obtain ⟨u,hu⟩ : ∃ u,l[k] = u:=⟨_,rfl⟩
   obtain ⟨v,hv⟩ : ∃ v,l[k + 1] = v:=⟨_,rfl⟩
   rw [hu] at x1 x2 HLA
   rw [hv] at y1 y2 HLA
   obtain ⟨x,y⟩:=u
   obtain ⟨z,t⟩:=v
   have p1 : wr.cell? ⟨b,off + k * 2,none⟩ = some (.int .i64 x):=(HB.out.cell (p:=⟨b,_,none⟩) hb).trans x1
   have p2 : wr.cell? ⟨b,off + k * 2 + 1,none⟩ = some (.int .i64 y):=(HB.out.cell (p:=⟨b,_,none⟩) hb).trans x2
   have p3 : wr.cell? ⟨b,off + (k + 1) * 2,none⟩ = some (.int .i64 z):=(HB.out.cell (p:=⟨b,_,none⟩) hb).trans y1
   have p4 : wr.cell? ⟨b,off + (k + 1) * 2 + 1,none⟩ = some (.int .i64 t):=(HB.out.cell (p:=⟨b,_,none⟩) hb).trans y2
   have HS:=hide (And.intro p1 (And.intro p2 (And.intro p3 p4)))
   have g0 : (0 : Int) <= (k : Int):=by omega
   have g1 : (k : Int) < (l.length : Int):=by omega
   have g2 : (0 : Int) <= (k : Int) + 1:=by omega
   have g3 : (k : Int) + 1 < (l.length : Int):=by omega
   have g4 : ((k : Int) + 1).toNat = k + 1:=by omega
   have g5 : (k : Int) + 1 - 1 = (k : Int):=by omega
   obtain ⟨q1,q2,hq⟩ : ∃ q1 q2,meet (x,y) (z,t) = (q1,q2):=⟨_,_,rfl⟩
   rw [hq] at HLA
   have HM:=hide hq
   clear hcl x1 x2 y1 y2 hu hv hq p1 p2 p3 p4
   go_wp2_with fail
   have HOK : Hid (∀ w,Calls Tryz.prog 35 #[.agg #[.int .i64 q1,.int .i64 q2]] w fun e w' => e = .returned (.bool (okB (q1,q2))) /\ Below w.heap.size w w'):=hide (fun w => is_any q1 q2 w)
   have hgo : ∀ q : Bool,lapAt l k = q -> True:=fun _ _ => trivial
   clear hgo
   generalize okB (q1,q2) = q at *
   have hwk : IntKind.i64.wrap (k : Int) = (k : Int):=by rw [IntKind.wrap_i64]; omega
   go_region_held3 (fun w' => w'.cell? ⟨b,off + k * 2,none⟩ = some (.int .i64 x) /\ w'.cell? ⟨b,off + k * 2 + 1,none⟩ = some (.int .i64 y) /\ w'.cell? ⟨b,off + (k + 1) * 2,none⟩ = some (.int .i64 z) /\ w'.cell? ⟨b,off + (k + 1) * 2 + 1,none⟩ = some (.int .i64 t)) (first | exact keepC4 (start wr).drew HS.out | exact keepC4 (andthen (start wr).drew hb2) HS.out | exact keepC4 (andthen (andthen (start wr).drew hb2) hb3) HS.out) ((first
    | (go_at_call 70; (with_reducible refine (meet_is _ _ _ _ q1 q2 wr.drew HM.out).mono ?_); rintro e w2 ⟨rfl,hb2⟩)
    | (go_at_call 35; (with_reducible refine (HOK.out w2).mono ?_); rintro e w3 ⟨rfl,hb3⟩)))
   have HB3:=hide (HB.out.trans ((andthen (andthen (start wr).drew hb2) hb3).mono HB.out.size))
   clear hb2 hb3
   cases q
   ·go_wp2_with fail
    go_roundw
    case rel => exact ⟨k + 1,by omega,by go_num,hide (fun j hj h1 => by
     rcases Nat.lt_or_ge j k with h2 | h2
     ·exact HN.out j h2 h1
     ·obtain rfl : j = k:=by omega
      exact HLA.out),hide HB3.out⟩
    case measure => simp [intOf]; omega
   ·have HY:=hide (lapB_yes l k hlt HLA.out)
    go_wp2_with fail
    go_ret
    exact ⟨ret_bool HY.out.symm,HB3.out⟩
  ·have HF:=hide (lapB_no l (fun j hj => HN.out j (by omega) hj))
   have g3 : ¬ (k : Int) + 1 < (l.length : Int):=by omega
   go_wp2_with fail
   go_ret
   exact ⟨ret_bool HF.out.symm,HB.out⟩
theorem each_any (O A : Option Addr) (on oc n c : Nat) (rooms : List Int) (ts : List Sp) (w : World) (h : RowI w O rooms) (k : Row w A ts) (ho : on = rooms.length) (he : n = ts.length) (hl : rooms.length <= 100) (hn : ts.length <= 100) :
  Calls Tryz.prog 52 #[.slice O on oc,.slice A n c] w (GivesC w (eachL rooms ts)):=by
 subst ho he
 have HO:=hide h
 have HR:=hide k
 clear h k
 go_enter Tryz.func52,Tryz.ntmps52
 go_wp2_with fail
 go_loopw [5,12] (fun v i wr => ∃ k : Nat,k <= rooms.length /\ i = .int .i64 k /\ Hid (OwnC wr w.heap.size v (eachL (rooms.take k) ts)) /\ Hid (Below w.heap.size w wr)) (fun _ i _ => rooms.length - (intOf i).toNat)
 case atStart => exact ⟨0,by omega,rfl,hide (ownC_nil _ _),hide (start _)⟩
 case round =>
  obtain ⟨k,hk,rfl,HV,HB⟩:=hrel
  by_cases hlt : k < rooms.length
  ·obtain ⟨bo,oo,rfl,hbo,hco⟩:=HO.out (by intro h0; rw [h0] at hlt; exact absurd hlt (Nat.not_lt_zero _))
   obtain ⟨r,hr⟩ : ∃ r,rooms[k] = r:=⟨_,rfl⟩
   have p0 : wr.cell? ⟨bo,oo + k,none⟩ = some (.int .i64 r):=by rw [<- hr]; exact (HB.out.cell (p:=⟨bo,_,none⟩) hbo).trans (hco k hlt)
   have hj0 : (0 : Int) <= (k : Int):=by omega
   have hj1 : (k : Int) < (rooms.length : Int):=by omega
   have HTK : Hid (eachL (rooms.take (k + 1)) ts = eachL (rooms.take k) ts ++ tag r ts):=hide (by unfold eachL; rw [List.take_succ_eq_append_getElem hlt,hr,List.flatMap_append]; simp [tag])
   have HLK : Hid ((eachL (rooms.take k) ts).length + ts.length <= 1000000):=hide (by
    have h1:=eachL_len (rooms.take k) ts
    have h2 : (rooms.take k).length * ts.length <= 100 * 100:=Nat.mul_le_mul (Nat.le_trans (List.length_take_le _ _) (by omega)) hn
    omega)
   clear hco hr
   generalize eachL (rooms.take k) ts = S at *
   go_wp2_with fail
   go_loopw [5,18] (fun v i wq => ∃ j : Nat,j <= ts.length /\ i = .int .i64 j /\ Hid (OwnC wq w.heap.size v (S ++ tag r (ts.take j))) /\ Hid (Below w.heap.size w wq)) (fun _ i _ => ts.length - (intOf i).toNat)
   case atStart => exact ⟨0,by omega,rfl,hide (by simpa [tag] using HV.out),hide HB.out⟩
   case round =>
    obtain ⟨j,hj,rfl,HO2,HB2⟩:=hrel
    by_cases hlt2 : j < ts.length
    ·obtain ⟨b,off,rfl,hb,hcl⟩:=HR.out (by intro h0; rw [h0] at hlt2; exact absurd hlt2 (Nat.not_lt_zero _))
     obtain ⟨m,hm⟩ : ∃ m,ts[j] = m:=⟨_,rfl⟩
     obtain ⟨x,y⟩:=m
     have p1 : wr.cell? ⟨b,off + j * 2,none⟩ = some (.int .i64 x):=by have:=(hcl j hlt2).1; rw [hm] at this; exact (HB2.out.cell (p:=⟨b,_,none⟩) hb).trans this
     have p2 : wr.cell? ⟨b,off + j * 2 + 1,none⟩ = some (.int .i64 y):=by have:=(hcl j hlt2).2; rw [hm] at this; exact (HB2.out.cell (p:=⟨b,_,none⟩) hb).trans this
     have hq0 : (0 : Int) <= (j : Int):=by omega
     have hq1 : (j : Int) < (ts.length : Int):=by omega
     have HTJ : Hid (S ++ tag r (ts.take (j + 1)) = (S ++ tag r (ts.take j)) ++ [(r,(x,y))]):=hide (by rw [tag_take _ _ _ hlt2,hm,List.append_assoc])
     have hln : (S ++ tag r (ts.take j)).length <= 1000000:=by have:=HLK.out; rw [List.length_append,tag_len]; have:=List.length_take_le j ts; omega
     have hbb:=more (start wr) (.cells #[.int .i64 x,.int .i64 y] 23)
     have hown:=OwnC.keep HO2.out hbb
     have hbz:=HB2.out.trans (hbb.mono HB2.out.size)
     have hbs:=hbz.size
     generalize S ++ tag r (ts.take j) = SS at *
     clear hcl hm
     go_wp2_with (at_builtin; refine wp_oneC (l:=SS) (p:=(r,(x,y))) rfl _ _ rfl rfl (World.size_alloc _ _) rfl hown hbs hln ?_; intro v3 w3 hown3 hb3)
     have HO3:=hide hown3
     have HB3:=hide (hbz.trans hb3)
     clear hown hown3 hb3 hbz hbs hln
     go_wp2_with fail
     go_roundw
     case rel => exact ⟨j + 1,by omega,by go_num,by rw [HTJ.out]; exact hide HO3.out,hide HB3.out⟩
     case measure => simp [intOf]; omega
    ·obtain rfl : j = ts.length:=by omega
     rw [List.take_length,<- HTK.out] at HO2
     go_wp2_with fail
     go_roundw
     case rel => exact ⟨k + 1,by omega,by go_num,hide HO2.out,hide HB2.out⟩
     case measure => simp [intOf]; omega
  ·obtain rfl : k = rooms.length:=by omega
   rw [List.take_length] at HV
   go_wp2_with fail
   go_ret
   exact ⟨_,rfl,HV.out,HB.out⟩
end Go.Proofs.YtgihekokbgggcaaGreat.S2

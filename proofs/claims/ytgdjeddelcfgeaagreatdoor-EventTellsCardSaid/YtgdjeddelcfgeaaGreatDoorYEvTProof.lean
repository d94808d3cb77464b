/- EventTells answers true for every input, and leaves its arguments and all memory as they were. Condition: the listed tables of Go's library lie as their initialisers lay them (the card ties that). -/
import Derived.Test.YtgdjeddelcfgeaaGreatDoorTie
import Derived.Test.YtgdjeddelcfgeaaGreatDoorCards
import Derived.SevenTiedAt
import Derived.SizedLaws
import Derived.Test.YtgdjeddelcfgeaaGreatDoorYW14
import Derived.Test.YtgdjeddelcfgeaaGreatDoorYEvT
import Derived.Test.YtgdjeddelcfgeaaGreatDoorYEvTCl
namespace Go.Proofs.YtgdjeddelcfgeaaGreatDoor.PTel
open Go.ChangeShapes Go.WideShapes Go.ChangeAt Go.RowKit Go.Joins
open Go.WideMaps Go.WideElems
open Go.ChangeMaps (open_string shut_string)

set_option maxHeartbeats 800000 in
set_option maxRecDepth 100000 in
theorem lifted (os : Os) (started : os.Started) (H : Type) (enc : TypeId × Value → H) :
  ReturnsInHanded {} Tryz.checked os 3 .any (fun w args => (Rows.eventTellsSpec.pre enc Tryz.prog Tryz.f3 [] false w args ∧ laidMetH Tryz.prog tabs w) ∧ sizedMet enc Tryz.prog Tryz.f3 (OpenSpec.ofChange Rows.eventTellsSpec) false w args)
   (Rows.eventTellsSpec.post enc Tryz.prog Tryz.f3 false true false false):=by
 refine returns_laid (C:=Tryz.checked) (laid:=tabs) own started (by kernel_rfl) Tryz.func3
  (ChangeSpec.witness_shaped (enc:=enc) (C:=Tryz.checked) (os:=os) (X:=fun w _ => laidMetH Tryz.prog tabs w) false (World.laidAll Tryz.prog os tabs) #[.agg #[.string ByteArray.empty,.string ByteArray.empty,.int .i64 0,.int .i64 0,.slice none 0 0,.int .i64 0,.int .i64 0,.int .i64 0,.int .i64 0,.slice none 0 0,.slice none 0 0,.slice none 0 0,.slice none 0 0],.agg #[.string ByteArray.empty,.string ByteArray.empty,.int .i64 0,.int .i64 0,.slice none 0 0,.int .i64 0,.int .i64 0,.int .i64 0,.int .i64 0,.slice none 0 0,.slice none 0 0,.slice none 0 0,.slice none 0 0]] 8 (World.laidAll_os _ _ _) (World.shaped_of_ZipB (by kernel_rfl) (by kernel_rfl)) (by kernel_rfl) (by kernel_rfl) (by kernel_rfl) (door_met os _)) ?_
 intro W base args ds gs before hval0 hW hL hsh
 have hval : ∀ (j : Nat) t v,Tryz.f3.params[j]? = some t → args[j]? = some v → Value.okWide Tryz.prog W .any base t v:=hval0
 have hW':=hW
 obtain ⟨p,q,hA0,hV,rfl,_,_⟩:=hW
 have hA : DataW.TrodAll enc Tryz.prog W 0 (fun _ => true) true Tryz.f3.params.toList args.toList ds p:=hA0
 rw [Tryz.params3] at hA hval
 obtain ⟨rfl,rfl⟩:=trodVars_none hV
 clear hA0 hval0
 simp only [List.append_nil] at hW'
 obtain ⟨v0,vs0,d0,ds0,p0,q0,hargs,rfl,rfl,h0,r0⟩:=trodAll_cons hA
 obtain ⟨v1,vs1,d1,ds1,p1,q1,rfl,rfl,rfl,h1,r1⟩:=trodAll_cons r0
 obtain ⟨rfl,rfl,rfl⟩:=trodAll_nil r1
 obtain rfl : args = #[v0,v1]:=by cases args; simp_all
 have k0:=h0
 have z0 : ∀ y ∈ p0,y.block < W.heap.size:=fun y hy => by simpa using hW'.lt y (by simp [hy])
 have k1:=h1
 have z1 : ∀ y ∈ p1,y.block < W.heap.size:=fun y hy => by simpa using hW'.lt y (by simp [hy])
 obtain ⟨U0,T0,s0,l0,O0,on0,oc0,fr0,ev0,ct0,un0,D0,M0,Y0,X0,dn0,dc0,mn0,mc0,yn0,yc0,xn0,xc0,o0,ds0,ms0,ys0,x0,rfl,hR0⟩:=open_event (hval 0 27 v0 rfl rfl) h0
 obtain ⟨U1,T1,s1,l1,O1,on1,oc1,fr1,ev1,ct1,un1,D1,M1,Y1,X1,dn1,dc1,mn1,mc1,yn1,yc1,xn1,xc1,o1,ds1,ms1,ys1,x1,rfl,hR1⟩:=open_event (hval 1 27 v1 rfl rfl) h1
 refine (tells_any U0 T0 s0 l0 O0 on0 oc0 fr0 ev0 ct0 un0 D0 M0 Y0 X0 dn0 dc0 mn0 mc0 yn0 yc0 xn0 xc0 o0 ds0 ms0 ys0 x0 U1 T1 s1 l1 O1 on1 oc1 fr1 ev1 ct1 un1 D1 M1 Y1 X1 dn1 dc1 mn1 mc1 yn1 yc1 xn1 xc1 o1 ds1 ms1 ys1 x1 W (envE_of hL hsh) hR0 hR1).mono fun e W' ⟨he,hg⟩ => ?_
 subst he
 exact ⟨_,rfl,_,_,_,[],_,[],hW',trodAll_mk1 (shut_bool Tryz.underlying4 true),(trodAll_cons_mk (Below.trod laidOut (by kernel_rfl) (of_decide_eq_true (by kernel_rfl)) k0 hg z0) (trodAll_cons_mk (Below.trod laidOut (by kernel_rfl) (of_decide_eq_true (by kernel_rfl)) k1 hg z1) trodAll_mk0)),rfl,hg.frame _,fun h => by cases h⟩

theorem over : Rows.EventTellsSaid :=
 OpenClaim.holds_of_wide 3 Tryz.f3 rfl rfl rfl rfl rfl rfl rfl ⟨rfl,rfl,rfl,rfl,rfl⟩ rfl rfl rfl rfl rfl (by kernel_rfl) Tryz.func3 closed
  (of_decide_eq_true (by kernel_rfl)) (by unfold Func.isWrapper; first | (rw [if_pos (by decide +kernel)]; kernel_rfl) | (rw [if_neg (by decide +kernel)]; exact ⟨rfl,rfl⟩))
  (fun os started H enc _ => lifted os started H enc)

theorem no_stand : ∀ (j : Nat) t,Tryz.f3.params[j]? = some t → Tryz.prog.wantsStandIn t = false:=fun j t ht => by
 rw [Tryz.params3] at ht
 have hm : t ∈ [27,27]:=by simpa using Array.mem_of_getElem? ht
 have hall : ([27,27].all fun u => !Tryz.prog.wantsStandIn u) = true:=by kernel_rfl
 simpa using List.all_eq_true.1 hall t hm

theorem card_holds : Rows.EventTellsCardSaid :=
 Claim7.holds_tied_plain_at .later [] [.data,.data,.data,.data,.sentinel,.sentinel,.data,.data,.pinned,.pinned] true Rows.eventTellsCard.stood.harness Rows.eventTellsCard.stood.looks
  over (fun _ h => by cases h) (by as_aux_lemma => kernel_rfl) (fun _ h => by cases h) eventTells_row_tie rfl ⟨rfl,rfl⟩ (by as_aux_lemma => kernel_rfl) rfl
  (fun f fn hf hfn => by
   obtain rfl : f = 3:=Option.some.inj ((show Tryz.prog.funcNamed Rows.eventTellsRow.func = some 3 by as_aux_lemma => kernel_rfl).symm.trans hf) |>.symm
   obtain rfl : fn = Tryz.f3:=(Option.some.inj (Tryz.func3.symm.trans hfn)).symm
   exact ⟨by as_aux_lemma => kernel_rfl,no_stand⟩)
  (by as_aux_lemma => kernel_rfl)
end Go.Proofs.YtgdjeddelcfgeaaGreatDoor.PTel

import Derived.Test.YtfecnkhoojnkbaaGreatDoorXC1
namespace Go.Proofs.YtfecnkhoojnkbaaGreatDoor
open Go.RowKit Rul Rt Go.Sort
theorem WS:(Ca.RC unU [AN]).all Ca.vS=true:=by decide +kernel
theorem nW:((Ca.ZB unU 100 (Ca.RC unU [AN])).1.all (fun q=>Ev.S8 q AN)&&(decide ((Ca.ZB unU 100 (Ca.RC unU [AN])).1.length=1)&&(decide ((Ca.ZB unU 100 (Ca.RC unU [AN])).2.1=9)&&decide ((Ca.ZB unU 100 (Ca.RC unU [AN])).2.2=0))))=true:=by decide +kernel
theorem gW:Ca.CK unU [AN]=Ca.dS (Ca.RC unU [AN]) :=
 Ca.MK _ (List.all_eq_true.2 fun s hs=>by
  have:=List.all_eq_true.1 WS s hs;unfold Ca.vS at this;rw [Bool.and_eq_true] at this;exact this.1)
theorem bS:Ca.FU unU (Ca.CK unU [AN])=([AN],9,0):=by
 have h1:=M8;rw [gW] at h1 ⊢;rw [Ca.dU unU _ WS (by rw [WO];decide) h1];have h:=nW;generalize Ca.ZB unU 100 (Ca.RC unU [AN])=P at h ⊢;obtain ⟨l,k,z⟩:=P;simp only [Bool.and_eq_true,decide_eq_true_eq] at h;obtain ⟨h2,h3,rfl,rfl⟩:=h;obtain ⟨q,rfl⟩:=List.length_eq_one_iff.1 h3;have h4:Ev.S8 q AN=true:=by simpa using h2
 rw [(Ev.XI q AN).1 h4]
end Go.Proofs.YtfecnkhoojnkbaaGreatDoor

/- Package lease: within, appendRoom. -/
import Derived.Test.YtphojcnehgdbmaaLeA
import Derived.Test.YtphojcnehgdbmaaBC6
namespace Go.Proofs.Ytphojcnehgdbmaa.S2
open Go.RowKit Spn Cl Le

/-- a row behind a call's own row, whatever lies there. -/
theorem row_oneC (w : World) (r f t : Int) (y : TypeId) : RowC (w.alloc (.cells #[.int .i64 r, .int .i64 f, .int .i64 t] y)) (some ⟨w.heap.size, 0, none⟩) [(r, (f, t))] := fun _ =>
  ⟨w.heap.size, 0, rfl, by simp, fun i hi => by
    obtain rfl : i = 0 := by simpa using hi
    refine ⟨?_, ?_, ?_⟩ <;> (rw [World.cell?_alloc_at _ _ _ _ rfl]; rfl)⟩
theorem wp_oneCG {ops : Array Oper} {rest : List Oper} {o : Oper} {a : Act} {Q : Exit → Act → World → Prop} {w : World} {B : Nat} {v : Value} {l : List C} {p : C} (hgd : o.guard = none) (s x : Operand)
    (ho : o.op = .call { callee := .builtin .append, args := #[s, x], argTypes := #[23, 23] }) (hs : a.eval s = v) {N : Nat} (hN : w.heap.size = N) (hx : a.eval x = .slice (some ⟨N, 0, none⟩) 1 1)
    (hown : OwnC w B v l) (hB : B ≤ w.heap.size) (hn : l.length ≤ 1000000)
    (h : ∀ v' w', OwnC w' B v' (l ++ [p]) → Goes v w v' w' → wpList Try.prog ops Q rest (a.put o.dst v') w') :
    wpList Try.prog ops Q (o :: rest) a (w.alloc (.cells #[.int .i64 p.1, .int .i64 p.2.1, .int .i64 p.2.2] 55)) := by
  subst hN
  refine wpList_plain hgd fun K hK => ?_
  obtain ⟨v', w', hr, h2, h3⟩ := run_rowCG o.type (A := some ⟨w.heap.size, 0, none⟩) (c := 1) (k := [p]) rfl (fun h => by cases h) (row_oneC w p.1 p.2.1 p.2.2 _) (hown.alloc _) (by simp only [World.size_alloc]; omega) hn (by simp)
  unfold Oper.wp execOp
  simp only [ho, resolve, invoke, builtin, Sem.run_bind, Sem.run_pure, Result.andThen_ok, List.map_toArray, List.map_cons, List.map_nil, hs, hx]
  have hr' : (Builtin.append_ #[23, 23] o.type #[v, .slice (some ⟨w.heap.size, 0, none⟩) 1 1]).run Try.prog (w.alloc (.cells #[.int .i64 p.1, .int .i64 p.2.1, .int .i64 p.2.2] 55)) = .ok v' w' := hr
  simp only [hr']
  exact hK _ _ (h v' w' h2 ((Goes.below (more (start w) _)).trans h3))
/-- a call hands back the row, grown out of v. -/
def AddsC (W : World) (B : Nat) (v : Value) (l : List C) (e : Ending) (w : World) : Prop := ∃ v', e = .returned v' ∧ OwnC w B v' l ∧ Goes v W v' w
theorem goes_belowC {v v' : Value} {B : Nat} {W w w' : World} {l : List C} (h : Goes v w v' w') (hown : OwnC w B v l) (hb : Below B W w) (hB : B ≤ w.heap.size) : Below B W w' :=
  hb.grown h.grown hB fun j hj => (hown.lt j hj).1

set_option maxHeartbeats 400000 in
theorem lwithin_any (n a b : Int) (w : World) :
    Calls Try.prog 23 #[.int .i64 n, .int .i64 a, .int .i64 b] w fun e w' => e = .returned (.int .i64 (min (max n a) b)) ∧ w' = w := by
  go_enter Try.func23, Try.ntmps23
  go_wp2_with fail
  go_ret
  exact ⟨rfl, rfl⟩

set_option maxRecDepth 100000 in
set_option maxHeartbeats 2000000 in
theorem appendRoom_any (B : Nat) (v : Value) (S : List C) (r : Int) (A : Option Addr) (n c : Nat) (l : List Sp) (w : World) (hown : OwnC w B v S) (hB : B ≤ w.heap.size) (h : RowAp w v A l) (he : n = l.length) (hn : S.length + l.length ≤ 1000000) :
    Calls Try.prog 50 #[v, .int .i64 r, .slice A n c] w (AddsC w B v (S ++ tag r l)) := by
  subst he
  have HR := hide h
  have HO := hide hown
  have HLN := hide hn
  have hll : l.length ≤ 1000000 := by omega
  clear h hown hn
  go_enter Try.func50, Try.ntmps50
  go_wp2_with fail
  go_loopw [0, 11] (fun u i wr => ∃ k : Nat, k ≤ l.length ∧ i = .int .i64 k ∧ Hid (OwnC wr B u (S ++ tag r (l.take k))) ∧ Hid (Goes v w u wr) ∧ Hid (RowAp wr u A l)) (fun _ i _ => l.length - (intOf i).toNat)
  case atStart => exact ⟨0, by omega, rfl, hide (by have := HO.out; simpa [tag] using this), hide (Goes.refl _ _), hide HR.out⟩
  case round =>
    obtain ⟨k, hk, rfl, HO2, HG, HX⟩ := hrel
    by_cases hlt : k < l.length
    · obtain ⟨b, off, rfl, hb, hcl⟩ := HX.out.1 (by intro h0; rw [h0] at hlt; exact absurd hlt (Nat.not_lt_zero _))
      obtain ⟨m, hm⟩ : ∃ m, l[k] = m := ⟨_, rfl⟩
      obtain ⟨x, y⟩ := m
      have p1 : wr.cell? ⟨b, off + k * 2, none⟩ = some (.int .i64 x) := by have := (hcl k hlt).1; rw [hm] at this; exact this
      have p2 : wr.cell? ⟨b, off + k * 2 + 1, none⟩ = some (.int .i64 y) := by have := (hcl k hlt).2; rw [hm] at this; exact this
      have hj0 : (0 : Int) ≤ (k : Int) := by omega
      have hj1 : (k : Int) < (l.length : Int) := by omega
      have HTK := hide (show S ++ tag r (l.take (k + 1)) = (S ++ tag r (l.take k)) ++ [(r, (x, y))] by rw [tag_take r l k hlt, hm, List.append_assoc])
      have hln : (S ++ tag r (l.take k)).length ≤ 1000000 := by rw [List.length_append, tag_len]; have := List.length_take_le k l; have := HLN.out; omega
      have hbx := more (start wr) (.cells #[.int .i64 x, .int .i64 y] 52)
      have hown := OwnC.keep HO2.out hbx
      have hbs : B ≤ (wr.alloc (.cells #[.int .i64 x, .int .i64 y] 52)).heap.size := Nat.le_trans hB (Nat.le_trans HG.out.grown.size hbx.size)
      have hNN : (wr.alloc (.cells #[.int .i64 x, .int .i64 y] 52)).heap.size = wr.heap.size + 1 := by simp
      have HX2 := hide (HX.out.keep hbx)
      have HG2 := hide (HG.out.trans (Goes.below hbx))
      generalize S ++ tag r (l.take k) = SS at *
      clear hcl hm hbx
      go_wp2_with (at_builtin; refine wp_oneCG (l := SS) (p := (r, (x, y))) rfl _ _ rfl rfl hNN rfl hown hbs hln ?_; intro v3 w3 hown3 hg3)
      have HO3 := hide hown3
      have HX3 := hide (HX2.out.goes hg3)
      have HG3 := hide (HG2.out.trans hg3)
      clear hown hown3 hg3 hbs hln hNN
      go_wp2_with fail
      go_roundw
      case rel => exact ⟨k + 1, by omega, by go_num, by rw [HTK.out]; exact hide HO3.out, hide HG3.out, hide HX3.out⟩
      case measure => simp [intOf]; omega
    · obtain rfl : k = l.length := by omega
      rw [List.take_length] at HO2
      go_wp2_with fail
      go_ret
      exact ⟨_, rfl, HO2.out, HG.out⟩
end Go.Proofs.Ytphojcnehgdbmaa.S2

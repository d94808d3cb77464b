/- Walks of package rtext: read, Parse. -/
import Derived.Test.YtffobailjdhijaaGreatDoorRtL
import Derived.Test.YtffobailjdhijaaGreatDoorRuF
namespace Go.Proofs.YtffobailjdhijaaGreatDoor
open Go.RowKit Rul Rt Go.Sort

/-- what one text more behind the own row leaves. -/
structure GoesS (v : Value) (w : World) (v' : Value) (w' : World) : Prop where
  grown : w.grownBy w' v.ownBlock
  own : v'.ownBlock = v.ownBlock ∨ ∃ k, v'.ownBlock = some k ∧ w.heap.size ≤ k
theorem RowI.grow {w w' : World} {row : Option Nat} {A : Option Addr} {l : List Int} (h : RowI w A l) (g : w.grownBy w' row) (ho : ∀ b o, A = some ⟨b, o, none⟩ → some b ≠ row) : RowI w' A l := fun hn => by
  obtain ⟨b, o, rfl, hl, hc⟩ := h hn
  exact ⟨b, o, rfl, Nat.lt_of_lt_of_le hl g.size, fun j hj => g.cell (hc j hj) (ho b o rfl)⟩
theorem RowD.grow {w w' : World} {row : Option Nat} {A : Option Addr} {l : List Wd} (h : RowD w A l) (g : w.grownBy w' row) (ho : ∀ b o, A = some ⟨b, o, none⟩ → some b ≠ row) : RowD w' A l := fun hn => by
  obtain ⟨b, o, rfl, hl, hc⟩ := h hn
  exact ⟨b, o, rfl, Nat.lt_of_lt_of_le hl g.size, fun j hj => ⟨g.cell (hc j hj).1 (ho b o rfl), g.cell (hc j hj).2 (ho b o rfl)⟩⟩
theorem grown_fz {w w' : World} {row : Option Nat} (g : w.grownBy w' row) {a : Addr} {x : Bool} (hlt : a.block < w.heap.size) (hne : some a.block ≠ row) (h : w.frozen? a = x) : w'.frozen? a = x := (World.frozen?_of_block (g.block a.block hlt hne)).trans h
theorem RuleAt.grow {w w' : World} {b : Nat} {v v' : Value} {row : Option Nat} {r : T} {D M Y : Option Addr} {dn dc mn mc yn yc : Nat} (h : RuleAt w b v r D dn dc M mn mc Y yn yc) (g : w.grownBy w' row) (hne : some b ≠ row)
    (hd : ∀ b o, D = some ⟨b, o, none⟩ → some b ≠ row) (hm : ∀ b o, M = some ⟨b, o, none⟩ → some b ≠ row) (hy : ∀ b o, Y = some ⟨b, o, none⟩ → some b ≠ row)
    (hv : v'.ownBlock = v.ownBlock ∨ ∃ k, v'.ownBlock = some k ∧ w.heap.size ≤ k) : RuleAt w' b v' r D dn dc M mn mc Y yn yc := by
  have hlt := h.lt
  have off : ∀ {A : Option Addr}, OffB w b v A → OffB w' b v' A := fun k p q e => by
    obtain ⟨k1, k2, k3, k4⟩ := k p q e
    refine ⟨k1, ?_, Nat.lt_of_lt_of_le k3 g.size, k4⟩
    rcases hv with hv | ⟨z, hv, hz⟩
    · rw [hv]; exact k2
    · rw [hv]; intro e; injection e with e; omega
  refine ⟨g.cell h.c0 hne, g.cell h.c1 hne, g.cell h.c2 hne, g.cell h.c3 hne, g.cell h.c4 hne, g.cell h.c5 hne, g.cell h.c6 hne, grown_fz g hlt hne h.f0, grown_fz g hlt hne h.f1, grown_fz g hlt hne h.f2, grown_fz g hlt hne h.f3, grown_fz g hlt hne h.f4, grown_fz g hlt hne h.f5, grown_fz g hlt hne h.f6,
    ⟨h.lies.d.grow g hd, h.lies.dn, h.lies.dl, h.lies.m.grow g hm, h.lies.mn, h.lies.ml, h.lies.y.grow g hy, h.lies.yn, h.lies.yl⟩, off h.od, off h.om, off h.oy, ?_⟩
  rcases hv with hv | ⟨z, hv, hz⟩
  · rw [hv]; exact h.own
  · rw [hv]; intro e; injection e with e; omega
/-- behind one text more. -/
theorem RuleAt.goes {w w' : World} {b : Nat} {v v' : Value} {r : T} {D M Y : Option Addr} {dn dc mn mc yn yc : Nat} (h : RuleAt w b v r D dn dc M mn mc Y yn yc) (g : GoesS v w v' w') : RuleAt w' b v' r D dn dc M mn mc Y yn yc :=
  h.grow g.grown h.own (fun b o e => (h.od b o e).2.1) (fun b o e => (h.om b o e).2.1) (fun b o e => (h.oy b o e).2.1) g.own
/-- a rule with no lists, when another block changes. -/
theorem RuleAt.aside {w w' : World} {b X : Nat} {v : Value} {r : T} {dn dc mn mc yn yc : Nat} (h : RuleAt w b v r none dn dc none mn mc none yn yc) (g : w.grownBy w' (some X)) (hne : b ≠ X) : RuleAt w' b v r none dn dc none mn mc none yn yc :=
  h.grow g (fun e => hne (by injection e)) (fun _ _ e => by cases e) (fun _ _ e => by cases e) (fun _ _ e => by cases e) (Or.inl rfl)
theorem RuleAt.row {w : World} {b : Nat} {v v' : Value} {r : T} {dn dc mn mc yn yc : Nat} (h : RuleAt w b v r none dn dc none mn mc none yn yc) (ho : some b ≠ v'.ownBlock) : RuleAt w b v' r none dn dc none mn mc none yn yc :=
  ⟨h.c0, h.c1, h.c2, h.c3, h.c4, h.c5, h.c6, h.f0, h.f1, h.f2, h.f3, h.f4, h.f5, h.f6, h.lies, OffB.no _ _ _, OffB.no _ _ _, OffB.no _ _ _, ho⟩
theorem RuleAt.bare {w : World} {b : Nat} {v : Value} {r : T} {D M Y : Option Addr} {dn dc mn mc yn yc : Nat} (h : RuleAt w b v r D dn dc M mn mc Y yn yc) : RuleAt w b (.slice none 0 0) r D dn dc M mn mc Y yn yc :=
  ⟨h.c0, h.c1, h.c2, h.c3, h.c4, h.c5, h.c6, h.f0, h.f1, h.f2, h.f3, h.f4, h.f5, h.f6, h.lies, fun g o e => ⟨(h.od g o e).1, by simp [Value.ownBlock], (h.od g o e).2.2.1, (h.od g o e).2.2.2⟩, fun g o e => ⟨(h.om g o e).1, by simp [Value.ownBlock], (h.om g o e).2.2.1, (h.om g o e).2.2.2⟩, fun g o e => ⟨(h.oy g o e).1, by simp [Value.ownBlock], (h.oy g o e).2.2.1, (h.oy g o e).2.2.2⟩, by simp [Value.ownBlock]⟩
/-- the cells of a rule that is boxed. -/
theorem box_cells (w : World) (t : TypeId) (x0 x1 x2 x3 x4 x5 x6 : Value) {X : Nat} (hX : w.heap.size = X) :
    let W := w.alloc (.cells #[x0, x1, x2, x3, x4, x5, x6] t)
    W.cell? ⟨X, 0, none⟩ = some x0 ∧ W.cell? ⟨X, 1, none⟩ = some x1 ∧ W.cell? ⟨X, 2, none⟩ = some x2 ∧ W.cell? ⟨X, 3, none⟩ = some x3 ∧ W.cell? ⟨X, 4, none⟩ = some x4 ∧ W.cell? ⟨X, 5, none⟩ = some x5 ∧ W.cell? ⟨X, 6, none⟩ = some x6 := by
  subst hX
  refine ⟨?_, ?_, ?_, ?_, ?_, ?_, ?_⟩
  all_goals (rw [World.cell?_alloc_at _ _ _ _ rfl]; rfl)
theorem rule_new (w : World) (t : TypeId) : RuleAt (w.alloc (.cells #[.int .i64 0, .int .i64 0, .int .i64 0, .int .i64 0, .slice none 0 0, .slice none 0 0, .slice none 0 0] t)) w.heap.size (.slice none 0 0) ⟨0, 0, 0, 0, [], [], []⟩ none 0 0 none 0 0 none 0 0 := by
  refine ⟨?_, ?_, ?_, ?_, ?_, ?_, ?_, ?_, ?_, ?_, ?_, ?_, ?_, ?_, lies_once _, OffB.no _ _ _, OffB.no _ _ _, OffB.no _ _ _, by simp [Value.ownBlock]⟩
  iterate 7 (rw [World.cell?_alloc_at _ _ _ _ rfl]; rfl)
  all_goals simp
theorem rule_r0 (w : World) (t : TypeId) : RuleAt (w.alloc (.cells #[.int .i64 0, .int .i64 1, .int .i64 0, .int .i64 (-1), .slice none 0 0, .slice none 0 0, .slice none 0 0] t)) w.heap.size (.slice none 0 0) r0 none 0 0 none 0 0 none 0 0 := by
  refine ⟨?_, ?_, ?_, ?_, ?_, ?_, ?_, ?_, ?_, ?_, ?_, ?_, ?_, ?_, lies_once _, OffB.no _ _ _, OffB.no _ _ _, OffB.no _ _ _, by simp [Value.ownBlock]⟩
  iterate 7 (rw [World.cell?_alloc_at _ _ _ _ rfl]; rfl)
  all_goals simp
/-- a rule stored over another. -/
theorem RuleAt.copy {w : World} {b X : Nat} {v : Value} {r0 r : T} {D0 M0 Y0 D M Y : Option Addr} {dn0 dc0 mn0 mc0 yn0 yc0 dn dc mn mc yn yc : Nat} (h : RuleAt w b v r0 D0 dn0 dc0 M0 mn0 mc0 Y0 yn0 yc0) (k : RuleAt w X v r D dn dc M mn mc Y yn yc) (hlt : b < X) :
    RuleAt (((((((w.setCell ⟨b, 0, none⟩ (.int .i64 r.fr)).setCell ⟨b, 1, none⟩ (.int .i64 r.ev)).setCell ⟨b, 2, none⟩ (.int .i64 r.ct)).setCell ⟨b, 3, none⟩ (.int .i64 r.un)).setCell ⟨b, 4, none⟩ (.slice D dn dc)).setCell ⟨b, 5, none⟩ (.slice M mn mc)).setCell ⟨b, 6, none⟩ (.slice Y yn yc)) b v r D dn dc M mn mc Y yn yc := by
  have off : ∀ {A : Option Addr}, OffB w X v A → OffB w b v A := fun z p q e => ⟨by have := (z p q e).2.2.2; omega, (z p q e).2.1, (z p q e).2.2.1, by have := (z p q e).2.2.2; omega⟩
  have ne : ∀ {A : Option Addr}, OffB w X v A → ∀ g o, A = some ⟨g, o, none⟩ → g ≠ b := fun z p q e => by have := (z p q e).2.2.2; omega
  have d4 : RowD ((((w.setCell ⟨b, 0, none⟩ (.int .i64 r.fr)).setCell ⟨b, 1, none⟩ (.int .i64 r.ev)).setCell ⟨b, 2, none⟩ (.int .i64 r.ct)).setCell ⟨b, 3, none⟩ (.int .i64 r.un)) D r.ds := RowD.set (RowD.set (RowD.set (RowD.set k.lies.d (ne k.od)) (ne k.od)) (ne k.od)) (ne k.od)
  have m4 : RowI ((((w.setCell ⟨b, 0, none⟩ (.int .i64 r.fr)).setCell ⟨b, 1, none⟩ (.int .i64 r.ev)).setCell ⟨b, 2, none⟩ (.int .i64 r.ct)).setCell ⟨b, 3, none⟩ (.int .i64 r.un)) M r.ms := RowI.set (RowI.set (RowI.set (RowI.set k.lies.m (ne k.om)) (ne k.om)) (ne k.om)) (ne k.om)
  have y4 : RowI ((((w.setCell ⟨b, 0, none⟩ (.int .i64 r.fr)).setCell ⟨b, 1, none⟩ (.int .i64 r.ev)).setCell ⟨b, 2, none⟩ (.int .i64 r.ct)).setCell ⟨b, 3, none⟩ (.int .i64 r.un)) Y r.ys := RowI.set (RowI.set (RowI.set (RowI.set k.lies.y (ne k.oy)) (ne k.oy)) (ne k.oy)) (ne k.oy)
  exact ((((((h.set_fr r.fr).set_ev r.ev).set_ct r.ct).set_un r.un).set_ds D dn dc r.ds d4 k.lies.dn k.lies.dl (off k.od).set.set.set.set).set_ms M mn mc r.ms (m4.set (ne k.om)) k.lies.mn k.lies.ml (off k.om).set.set.set.set.set).set_ys Y yn yc r.ys ((y4.set (ne k.oy)).set (ne k.oy)) k.lies.yn k.lies.yl (off k.oy).set.set.set.set.set.set
theorem below_7 {w W : World} {B : Nat} {b : Nat} {x0 x1 x2 x3 x4 x5 x6 : Value} (h : Below B w W) (hb : B ≤ b) :
    Below B w (((((((W.setCell ⟨b, 0, none⟩ x0).setCell ⟨b, 1, none⟩ x1).setCell ⟨b, 2, none⟩ x2).setCell ⟨b, 3, none⟩ x3).setCell ⟨b, 4, none⟩ x4).setCell ⟨b, 5, none⟩ x5).setCell ⟨b, 6, none⟩ x6) :=
  ((((((h.setCell hb _).setCell hb _).setCell hb _).setCell hb _).setCell hb _).setCell hb _).setCell hb _

theorem wp_oneT {ops : Array Oper} {rest : List Oper} {o : Oper} {a : Act} {Q : Exit → Act → World → Prop} {w : World} {B : Nat} {v : Value} {l : List Tx} {p : Tx} (hgd : o.guard = none) (s x : Operand)
    (ho : o.op = .call { callee := .builtin .append, args := #[s, x], argTypes := #[39, 39] }) (hs : a.eval s = v) {N : Nat} (hN : w.heap.size = N) (hx : a.eval x = .slice (some ⟨N, 0, none⟩) 1 1)
    (hown : OwnS w B v l) (hB : B ≤ w.heap.size) (hn : l.length ≤ 1000000)
    (h : ∀ v' w', OwnS w' B v' (l ++ [p]) → GoesS v w v' w' → wpList Tryz.prog ops Q rest (a.put o.dst v') w') :
    wpList Tryz.prog ops Q (o :: rest) a (w.alloc (.cells #[.string (str p)] 9)) := by
  subst hN
  obtain ⟨i0, hi, hz0, hz1, hz2⟩ := info_parts string_info
  refine wpList_append_own_at _ hgd s x 39 ho B 9 i0 _ 1 16 Tryz.underlying39 hi hz0 hz1 hz2 rfl (by decide) v l.length (cellsS l) hs (hown.alloc _) ⟨w.heap.size, 0, none⟩ 1 1 [.string (str p)] hx rfl ?_ ?_ ?_ ?_ ?_ ?_
  · intro j u hu
    rw [plus, World.cell?_alloc_at _ _ _ _ rfl]
    exact (by simpa using hu)
  · intro u hu
    simp only [List.mem_cons, List.not_mem_nil, or_false] at hu
    subst hu; rfl
  · unfold maxLen; omega
  · omega
  · simp only [World.size_alloc]; omega
  · intro v' w' h2 h3 _ h5
    have h4 := (World.grownBy_alloc w (.cells #[.string (str p)] 9) v.ownBlock)
    refine h v' w' (by rw [OwnS, cellsS_append, List.length_append]; exact h2) ⟨h4.trans h3, ?_⟩
    rcases h5 with h5 | h5
    · exact Or.inl h5
    · exact Or.inr ⟨_, h5, by simp⟩

/-- what the parts of a text say together. -/
def readC (U : Un) (l : List Tx) : Option T := match allSome (partC U) l with
  | none => none
  | some ps => if (ps.map tag).Nodup then some (fold ps) else none
theorem readC_none {U : Un} {l : List Tx} {j : Nat} (hlt : j < l.length) (h : partC U l[j] = none) : readC U l = none := by
  unfold readC; rw [none_at hlt h]
theorem readC_some {U : Un} {l : List Tx} {ps : List Rt.Part} (h : allSome (partC U) l = some ps) (hn : (ps.map tag).Nodup) : readC U l = some (fold ps) := by
  unfold readC; rw [h]; simp only; rw [if_pos hn]
theorem partC_cut {U : Un} {t a v : Tx} (h : Lib.cut t [61] = (a, v, true)) : partC U t = Rt.valOf U rdC a v := by unfold partC; rw [h]; rfl
theorem partC_uncut {U : Un} {t a v : Tx} (h : Lib.cut t [61] = (a, v, false)) : partC U t = none := by unfold partC; rw [h]; rfl
theorem nodup_snoc {ps : List Rt.Part} {p : Rt.Part} (h : (ps.map tag).Nodup) (hp : nameOf p ∉ ps.map nameOf) : ((ps ++ [p]).map tag).Nodup := by
  rw [List.map_append, List.nodup_append]
  refine ⟨h, by simp, fun x hx y hy => ?_⟩
  obtain ⟨q, hq, rfl⟩ := List.mem_map.1 hx
  simp only [List.map_cons, List.map_nil, List.mem_singleton] at hy
  subst hy
  exact fun e => hp (List.mem_map.2 ⟨q, hq, (name_tag q p).2 e⟩)
theorem allSome_take {f : Tx → Option Rt.Part} : ∀ (l : List Tx) (ps : List Rt.Part) (j : Nat), allSome f l = some ps → allSome f (l.take j) = some (ps.take j) := fun l ps j h => by
  rw [allSome_iff] at h ⊢
  rw [List.map_take, h, List.map_take]
theorem readC_dup {U : Un} {l : List Tx} {j : Nat} {ps : List Rt.Part} {a v : Tx} (hlt : j < l.length) (hA : allSome (partC U) (l.take j) = some ps) (hc : Lib.cut l[j] [61] = (a, v, true)) (hm : a ∈ ps.map nameOf) : readC U l = none := by
  cases hx : Rt.valOf U rdC a v with
  | none => exact readC_none hlt (by rw [partC_cut hc]; exact hx)
  | some p =>
    have hn := val_name hx
    subst hn
    have h1 := some_step hlt hA (by rw [partC_cut hc]; exact hx)
    unfold readC
    cases hq : allSome (partC U) l with
    | none => rfl
    | some qs =>
      simp only
      rw [if_neg]
      intro hd
      have h2 := allSome_take l qs (j + 1) hq
      rw [h1] at h2
      injection h2 with h2
      have h3 : ((ps ++ [p]).map tag).Nodup := by rw [h2, List.map_take]; exact List.Nodup.sublist (List.take_sublist _ _) hd
      rw [List.map_append, List.nodup_append] at h3
      obtain ⟨q, hq1, hq2⟩ := List.mem_map.1 hm
      exact h3.2.2 (tag q) (List.mem_map.2 ⟨q, hq1, rfl⟩) (tag p) (by simp) ((name_tag q p).1 hq2)
theorem cut_len (c : UInt8) (t : Tx) : (Lib.cut t [c]).1.length ≤ t.length ∧ (Lib.cut t [c]).2.1.length ≤ t.length := by
  by_cases h : c ∈ t
  · obtain ⟨p, q, rfl, hp⟩ := split_at c t h
    rw [cut_hit c p q hp]
    simp only [List.length_append, List.length_cons]
    omega
  · rw [cut_miss c t h]
    simp
/-- a rule in a value. -/
def ruleV (r : T) (D : Option Addr) (dn dc : Nat) (M : Option Addr) (mn mc : Nat) (Y : Option Addr) (yn yc : Nat) : Value := .agg #[.int .i64 r.fr, .int .i64 r.ev, .int .i64 r.ct, .int .i64 r.un, .slice D dn dc, .slice M mn mc, .slice Y yn yc]
def noRule : Value := .agg #[.int .i64 0, .int .i64 0, .int .i64 0, .int .i64 0, .slice none 0 0, .slice none 0 0, .slice none 0 0]
/-- what read answers. -/
def ReadA (w : World) (o : Option T) (e : Ending) (w' : World) : Prop := Below w.heap.size w w' ∧
  ((o = none ∧ e = .returned (.tuple #[noRule, .bool false])) ∨ ∃ r D dn dc M mn mc Y yn yc, o = some r ∧ e = .returned (.tuple #[ruleV r D dn dc M mn mc Y yn yc, .bool true]) ∧ RuleAt w' w.heap.size (.slice none 0 0) r D dn dc M mn mc Y yn yc)
/-- worlds at the end: the result's cells. -/
def RuleIn (w : World) (r : T) (D : Option Addr) (dn dc : Nat) (M : Option Addr) (mn mc : Nat) (Y : Option Addr) (yn yc : Nat) (W : World) : Prop := ∃ v, RuleAt W w.heap.size v r D dn dc M mn mc Y yn yc ∧ Below w.heap.size w W
def ZeroAt (w : World) (W : World) : Prop := (W.cell? ⟨w.heap.size, 0, none⟩ = some (.int .i64 0) ∧ W.cell? ⟨w.heap.size, 1, none⟩ = some (.int .i64 0) ∧ W.cell? ⟨w.heap.size, 2, none⟩ = some (.int .i64 0) ∧ W.cell? ⟨w.heap.size, 3, none⟩ = some (.int .i64 0) ∧ W.cell? ⟨w.heap.size, 4, none⟩ = some (.slice none 0 0) ∧ W.cell? ⟨w.heap.size, 5, none⟩ = some (.slice none 0 0) ∧ W.cell? ⟨w.heap.size, 6, none⟩ = some (.slice none 0 0)) ∧ Below w.heap.size w W
theorem zero_7 {w W : World} {v : Value} {r : T} {D M Y : Option Addr} {dn dc mn mc yn yc : Nat} (h : RuleAt W w.heap.size v r D dn dc M mn mc Y yn yc) (hb : Below w.heap.size w W) :
    ZeroAt w (((((((W.setCell ⟨w.heap.size, 0, none⟩ (.int .i64 0)).setCell ⟨w.heap.size, 1, none⟩ (.int .i64 0)).setCell ⟨w.heap.size, 2, none⟩ (.int .i64 0)).setCell ⟨w.heap.size, 3, none⟩ (.int .i64 0)).setCell ⟨w.heap.size, 4, none⟩ (.slice none 0 0)).setCell ⟨w.heap.size, 5, none⟩ (.slice none 0 0)).setCell ⟨w.heap.size, 6, none⟩ (.slice none 0 0)) := by
  have k := ((((((h.set_fr 0).set_ev 0).set_ct 0).set_un 0).set_ds none 0 0 [] (lies_once _).d rfl (by decide) (OffB.no _ _ _)).set_ms none 0 0 [] (lies_once _).m rfl (by decide) (OffB.no _ _ _)).set_ys none 0 0 [] (lies_once _).y rfl (by decide) (OffB.no _ _ _)
  exact ⟨⟨k.c0, k.c1, k.c2, k.c3, k.c4, k.c5, k.c6⟩, below_7 hb (Nat.le_refl _)⟩


set_option maxRecDepth 100000 in
set_option maxHeartbeats 4000000 in
theorem read_any (A : Option Addr) (n c : Nat) (l : List Tx) (w : World) (hl : RowS w A l) (hn : n = l.length) (hsz : l.length ≤ 1000) (hb : ∀ p ∈ l, p.length ≤ 100000) (he : Env w) :
    Calls Tryz.prog 21 #[.slice A n c] w (ReadA w (readC unU l)) := by
  subst hn
  have HR := hide hl
  have HE := hide he
  have HB := hide hb
  have HZ := hide (rule_new w 25)
  have HZB : Hid (Below w.heap.size w (w.alloc (.cells #[.int .i64 0, .int .i64 0, .int .i64 0, .int .i64 0, .slice none 0 0, .slice none 0 0, .slice none 0 0] 25))) := hide (more (start w) _)
  clear hl he hb
  go_enter Tryz.func21, Tryz.ntmps21
  go_wp2_with fail
  refine (once_any _).mono ?_
  rintro e w1 ⟨rfl, hb1⟩
  replace HZ := hide (HZ.out.keep hb1)
  replace HZB := hide (andthen HZB.out hb1)
  have HX := hide (rule_r0 w1 25)
  have hX0 : w.heap.size < w1.heap.size := HZ.out.lt
  replace HZ := hide (HZ.out.keep (more (start w1) (.cells #[.int .i64 0, .int .i64 1, .int .i64 0, .int .i64 (-1), .slice none 0 0, .slice none 0 0, .slice none 0 0] 25)))
  replace HZB := hide (more HZB.out (.cells #[.int .i64 0, .int .i64 1, .int .i64 0, .int .i64 (-1), .slice none 0 0, .slice none 0 0, .slice none 0 0] 25))
  clear hb1
  go_wp2_with (refine wp_makeS rfl _ _ rfl rfl (n := l.length) rfl rfl (by omega) ?_; intro v0 w0 hown0 hb0)
  replace HZ := hide (HZ.out.keep hb0)
  replace HX := hide (HX.out.keep hb0)
  replace HZB := hide (andthen HZB.out hb0)
  have HO0 := hide hown0
  rw [World.size_alloc] at HO0
  clear hown0 hb0
  generalize w1.heap.size = X at *
  have hv0 : ∀ b, b ≤ X → some b ≠ v0.ownBlock := fun b hb e => by have := (HO0.out.lt b e.symm).1; omega
  replace HX := hide (HX.out.row (v' := v0) (hv0 X (Nat.le_refl _)))
  replace HZ := hide (HZ.out.row (v' := v0) (hv0 _ (Nat.le_of_lt hX0)))
  clear hv0
  go_loopw [5, 7, 8, 9, 10, 18] (fun v _ _ _ _ i wr => ∃ (j : Nat) (ps : List Rt.Part) (D : Option Addr) (dn dc : Nat) (M : Option Addr) (mn mc : Nat) (Y : Option Addr) (yn yc : Nat), j ≤ l.length ∧ i = .int .i64 j ∧ OwnS wr (X + 1) v (ps.map nameOf) ∧ RuleAt wr X v (fold ps) D dn dc M mn mc Y yn yc ∧ RuleAt wr w.heap.size v ⟨0, 0, 0, 0, [], [], []⟩ none 0 0 none 0 0 none 0 0 ∧ Hid (allSome (partC unU) (l.take j) = some ps) ∧ Hid ((ps.map tag).Nodup) ∧ Below w.heap.size w wr) (fun _ _ _ _ _ i _ => l.length - (intOf i).toNat)
  case atStart => exact ⟨0, [], _, _, _, _, _, _, _, _, _, Nat.zero_le _, rfl, HO0.out, HX.out, HZ.out, hide rfl, hide List.nodup_nil, HZB.out⟩
  case round =>
    obtain ⟨j, ps, D, dn, dc, M, mn, mc, Y, yn, yc, hj, rfl, hown, hx, hz, HA, HN, hbw⟩ := hrel
    have HO := hide hown
    have HXr := hide hx
    have HZr := hide hz
    have HBR := hide hbw
    clear hown hx hz hbw HO0 HX HZ HZB
    by_cases hlt : j < l.length
    · obtain ⟨b1, o1, rfl, hb1, hc1⟩ := HR.out (by intro h0; rw [h0] at hlt; exact absurd hlt (Nat.not_lt_zero _))
      obtain ⟨T, hm⟩ : ∃ T, l[j] = T := ⟨_, rfl⟩
      have hT := HB.out l[j] (List.getElem_mem _)
      rw [hm] at hT
      have p1 : wr.cell? ⟨b1, o1 + j, none⟩ = some (.string (str T)) := by rw [← hm]; exact (HBR.out.cell (p := ⟨b1, _, none⟩) hb1).trans (hc1 j hlt)
      have hi0 : (0 : Int) ≤ (j : Int) := by omega
      have hi1 : (j : Int) < (l.length : Int) := by omega
      clear hc1
      have HC := hide (fun w he => cutB_all 61 (str [61]) rfl (str T) w he (by rw [str_size]; exact hT))
      rw [str_list] at HC
      have hle := cut_len 61 T
      obtain ⟨a, v, f, hcut⟩ : ∃ a v f, Lib.cut T [61] = (a, v, f) := ⟨_, _, _, rfl⟩
      rw [hcut] at HC hle
      simp only at HC hle
      cases f with
      | false =>
        have HF := hide (readC_none (U := unU) hlt (by rw [hm]; exact partC_uncut hcut))
        clear hcut hle hm
        go_wp2_with fail
        refine (HC.out _ (HE.out.below HBR.out (Nat.le_refl _))).mono ?_
        rintro e v1 ⟨rfl, hbv⟩
        replace HZr := hide (HZr.out.keep hbv)
        replace HBR := hide (andthen HBR.out hbv)
        clear hbv p1
        have z0 := HZr.out.c0
        have z1 := HZr.out.c1
        have z2 := HZr.out.c2
        have z3 := HZr.out.c3
        have z4 := HZr.out.c4
        have z5 := HZr.out.c5
        have z6 := HZr.out.c6
        have f0 := HZr.out.f0
        have f1 := HZr.out.f1
        have f2 := HZr.out.f2
        have f3 := HZr.out.f3
        have f4 := HZr.out.f4
        have f5 := HZr.out.f5
        have f6 := HZr.out.f6
        have hlz := HZr.out.lt
        go_wp2_with fail
        refine ret_gen (ZeroAt w) (zero_7 HZr.out HBR.out) ?_
        rintro WF ⟨⟨c0, c1, c2, c3, c4, c5, c6⟩, hb⟩
        exact bodyPost_ret (v := .tuple #[noRule, .bool false]) (by simp [results, Tryz.results21, go_sem, c0, c1, c2, c3, c4, c5, c6, noRule]) rfl ⟨hb, Or.inl ⟨HF.out, rfl⟩⟩
      | true =>
        have hva : v.length ≤ 100000 := Nat.le_trans hle.2 hT
        have hpl : (ps.map nameOf).length ≤ 1000 := by have := allSome_len HA.out; rw [List.length_take] at this; rw [List.length_map]; omega
        have HCUT := hide hcut
        have HM := hide hm
        clear hcut hle hm
        go_wp2_with fail
        refine (HC.out _ (HE.out.below HBR.out (Nat.le_refl _))).mono ?_
        rintro e v1 ⟨rfl, hbv⟩
        replace HZr := hide (HZr.out.keep hbv)
        replace HXr := hide (HXr.out.keep hbv)
        replace HO := hide (HO.out.keep hbv)
        replace HBR := hide (andthen HBR.out hbv)
        clear hbv p1
        obtain ⟨A2, cap2, rfl, hrow, hcap⟩ := OwnS.row HO.out
        have HRW := hide hrow
        clear hrow hcap
        rw [List.length_map] at HO HXr HZr
        by_cases hmem : a ∈ ps.map nameOf
        · have HF := hide (readC_dup (U := unU) hlt HA.out (by rw [HM.out]; exact HCUT.out) hmem)
          have hdec : decide (a ∈ ps.map nameOf) = true := decide_eq_true hmem
          have HCO := hide (fun w hr => containsS_any a A2 ps.length cap2 (ps.map nameOf) w hr (by simp) hpl)
          rw [hdec] at HCO
          clear hdec hmem
          go_wp2_with fail
          refine (HCO.out _ HRW.out).mono ?_
          rintro e v2 ⟨rfl, hbv⟩
          replace HZr := hide (HZr.out.keep hbv)
          replace HBR := hide (andthen HBR.out hbv)
          clear hbv
          have z0 := HZr.out.c0
          have z1 := HZr.out.c1
          have z2 := HZr.out.c2
          have z3 := HZr.out.c3
          have z4 := HZr.out.c4
          have z5 := HZr.out.c5
          have z6 := HZr.out.c6
          have f0 := HZr.out.f0
          have f1 := HZr.out.f1
          have f2 := HZr.out.f2
          have f3 := HZr.out.f3
          have f4 := HZr.out.f4
          have f5 := HZr.out.f5
          have f6 := HZr.out.f6
          have hlz := HZr.out.lt
          go_wp2_with fail
          refine ret_gen (ZeroAt w) (zero_7 HZr.out HBR.out) ?_
          rintro WF ⟨⟨c0, c1, c2, c3, c4, c5, c6⟩, hb⟩
          exact bodyPost_ret (v := .tuple #[noRule, .bool false]) (by simp [results, Tryz.results21, go_sem, c0, c1, c2, c3, c4, c5, c6, noRule]) rfl ⟨hb, Or.inl ⟨HF.out, rfl⟩⟩
        · have hdec : decide (a ∈ ps.map nameOf) = false := decide_eq_false hmem
          have HCO := hide (fun w hr => containsS_any a A2 ps.length cap2 (ps.map nameOf) w hr (by simp) hpl)
          rw [hdec] at HCO
          clear hdec
          go_wp2_with fail
          refine (HCO.out _ HRW.out).mono ?_
          rintro e v2 ⟨rfl, hbv⟩
          replace HZr := hide (HZr.out.keep hbv)
          replace HXr := hide (HXr.out.keep hbv)
          replace HO := hide (HO.out.keep hbv)
          replace HBR := hide (andthen HBR.out hbv)
          clear hbv HRW
          obtain ⟨O, hO⟩ : ∃ O, Rt.valOf unU rdC a v = O := ⟨_, rfl⟩
          have HTK := hide (fun w h hv he => take_any a v X (.slice A2 ps.length cap2) (fold ps) D M Y dn dc mn mc yn yc w h hv he hva)
          rw [hO] at HTK
          go_wp2_with fail
          refine (HTK.out _ HXr.out (fun g e => (HO.out.lt g e).2) (HE.out.keep HBR.out)).mono ?_
          rintro e v3 ⟨hg, ht⟩
          have hXs : w.heap.size ≤ X := Nat.le_of_lt hX0
          replace HZr := hide (HZr.out.aside hg (Nat.ne_of_lt hX0))
          have HBT := hide (HBR.out.grown hg HBR.out.size fun k hk => (by injection hk with hk; omega))
          cases O with
          | none =>
            subst ht
            have HF := hide (readC_none (U := unU) hlt (by rw [HM.out, partC_cut HCUT.out]; exact hO))
            clear hg hO HTK
            replace HBR := HBT
            clear HBT
            have z0 := HZr.out.c0
            have z1 := HZr.out.c1
            have z2 := HZr.out.c2
            have z3 := HZr.out.c3
            have z4 := HZr.out.c4
            have z5 := HZr.out.c5
            have z6 := HZr.out.c6
            have f0 := HZr.out.f0
            have f1 := HZr.out.f1
            have f2 := HZr.out.f2
            have f3 := HZr.out.f3
            have f4 := HZr.out.f4
            have f5 := HZr.out.f5
            have f6 := HZr.out.f6
            have hlz := HZr.out.lt
            go_wp2_with fail
            refine ret_gen (ZeroAt w) (zero_7 HZr.out HBR.out) ?_
            rintro WF ⟨⟨c0, c1, c2, c3, c4, c5, c6⟩, hb⟩
            exact bodyPost_ret (v := .tuple #[noRule, .bool false]) (by simp [results, Tryz.results21, go_sem, c0, c1, c2, c3, c4, c5, c6, noRule]) rfl ⟨hb, Or.inl ⟨HF.out, rfl⟩⟩
          | some p =>
            obtain ⟨rfl, D', dn', dc', M', mn', mc', Y', yn', yc', hr⟩ := ht
            obtain rfl : a = nameOf p := val_name hO
            have HST := hide (some_step hlt HA.out (by rw [HM.out, partC_cut HCUT.out]; exact hO))
            have HND := hide (nodup_snoc HN.out (p := p) hmem)
            have hown3 := World.ownsRow.kept HO.out hg (Or.inr fun e => by have := (HO.out.lt X e).1; omega)
            have hz3 : X + 1 ≤ v3.heap.size := hr.lt
            have hl3 : (ps.map nameOf).length ≤ 1000000 := by omega
            have HRN := hide hr
            clear hg hO HTK hr HXr HO
            replace HBR := HBT
            clear HBT
            go_wp2_with (at_builtin; refine wp_oneT (l := ps.map nameOf) (p := nameOf p) rfl _ _ rfl rfl rfl rfl hown3 hz3 hl3 ?_; intro v4 w4 hown4 hg4)
            replace HBR := hide (HBR.out.grown hg4.grown HBR.out.size fun k hk => (by have := (hown3.lt k hk).1; omega))
            have hb4 : (ps ++ [p]).map nameOf = ps.map nameOf ++ [nameOf p] := by simp
            have HO4 := hide hown4
            rw [← hb4] at HO4
            have hf4 : fold (ps ++ [p]) = Rt.Part.set (fold ps) p := by simp [fold]
            have HR4 := hide (HRN.out.goes hg4)
            rw [← hf4] at HR4
            have HZ4 := hide (HZr.out.goes hg4)
            clear hown4 hg4 hown3 hz3 hl3 hb4 hf4 HRN HZr
            go_wp2_with fail
            go_roundw
            case rel => exact ⟨j + 1, ps ++ [p], _, _, _, _, _, _, _, _, _, by omega, by go_num, HO4.out, HR4.out, HZ4.out, HST, HND, HBR.out⟩
            case measure => simp [intOf]; omega
    · obtain rfl : j = l.length := by omega
      rw [List.take_length] at HA
      have HF := hide (readC_some HA.out HN.out)
      have c0 := HXr.out.c0
      have c1 := HXr.out.c1
      have c2 := HXr.out.c2
      have c3 := HXr.out.c3
      have c4 := HXr.out.c4
      have c5 := HXr.out.c5
      have c6 := HXr.out.c6
      have HCP := hide (HZr.out.copy HXr.out hX0)
      have z0 := HZr.out.c0
      have z1 := HZr.out.c1
      have z2 := HZr.out.c2
      have z3 := HZr.out.c3
      have z4 := HZr.out.c4
      have z5 := HZr.out.c5
      have z6 := HZr.out.c6
      have f0 := HZr.out.f0
      have f1 := HZr.out.f1
      have f2 := HZr.out.f2
      have f3 := HZr.out.f3
      have f4 := HZr.out.f4
      have f5 := HZr.out.f5
      have f6 := HZr.out.f6
      have hlz := HZr.out.lt
      have hlx := HXr.out.lt
      go_wp2_with fail
      refine ret_gen (RuleIn w (fold ps) D dn dc M mn mc Y yn yc) ⟨_, HCP.out, below_7 HBR.out (Nat.le_refl _)⟩ ?_
      rintro WF ⟨_, hr, hb⟩
      exact bodyPost_ret (v := .tuple #[ruleV (fold ps) D dn dc M mn mc Y yn yc, .bool true]) (by simp [results, Tryz.results21, go_sem, hr.c0, hr.c1, hr.c2, hr.c3, hr.c4, hr.c5, hr.c6, ruleV]) rfl ⟨hb, Or.inr ⟨_, _, _, _, _, _, _, _, _, _, HF.out, rfl, hr.bare⟩⟩

/-- what Parse answers. -/
def ParseA (w : World) (o : Option T) (e : Ending) (w' : World) : Prop := Below w.heap.size w w' ∧
  ((o = none ∧ e = .returned (.tuple #[noRule, .int .i64 12])) ∨ ∃ r D dn dc M mn mc Y yn yc, o = some r ∧ e = .returned (.tuple #[ruleV r D dn dc M mn mc Y yn yc, .int .i64 0]) ∧ Lies w' D dn M mn Y yn r.ds r.ms r.ys)
def ruleOnly (o : Option T) : Option T := match o with
  | none => none
  | some r => if isB r = true then some r else none
theorem ansC_of (U : Un) (s : Tx) : ansC U s = ruleOnly (readC U (Lib.splitN s [59] 8)) := by
  unfold ansC readC ans
  cases allSome (partC U) (Lib.splitN s [59] 8) with
  | none => rfl
  | some ps =>
    simp only
    by_cases hn : (ps.map tag).Nodup
    · by_cases hb : isB (fold ps) = true
      · rw [if_pos ⟨hn, hb⟩, if_pos hn, ruleOnly, if_pos hb]
      · rw [if_neg (fun h => hb h.2), if_pos hn, ruleOnly, if_neg hb]
    · rw [if_neg (fun h => hn h.1), if_neg hn, ruleOnly]
set_option maxRecDepth 100000 in
set_option maxHeartbeats 4000000 in
theorem parse_any (s : ByteArray) (w : World) (he : Env w) (hs : s.size ≤ 100000) :
    Calls Tryz.prog 10 #[.string s] w (ParseA w (ansC unU s.data.toList)) := by
  have HE := hide he
  have HZ := hide (rule_new w 25)
  have HZB : Hid (Below w.heap.size w (w.alloc (.cells #[.int .i64 0, .int .i64 0, .int .i64 0, .int .i64 0, .slice none 0 0, .slice none 0 0, .slice none 0 0] 25))) := hide (more (start w) _)
  clear he
  go_enter Tryz.func10, Tryz.ntmps10
  go_wp2_with fail
  refine (partsOf_at s _ (HE.out.keep HZB.out) hs).mono ?_
  rintro e w1 ⟨A, cap, rfl, hr, hb1⟩
  have hle := splitN_le 59 7 s.data.toList
  rw [len_of] at hle
  have HRD := hide (fun w hr he => read_any A _ cap (Lib.splitN s.data.toList [59] 8) w hr rfl (Nat.le_trans hle.2 (by omega)) (fun p hp => Nat.le_trans (hle.1 p hp) hs) he)
  obtain ⟨O, hO⟩ : ∃ O, readC unU (Lib.splitN s.data.toList [59] 8) = O := ⟨_, rfl⟩
  have hA := ansC_of unU s.data.toList
  rw [hO] at HRD hA
  have HA := hide hA
  replace HZ := hide (HZ.out.keep hb1)
  replace HZB := hide (andthen HZB.out hb1)
  have HRR := hide hr
  generalize Lib.splitN s.data.toList [59] 8 = L at *
  clear hO hle hb1 hr hA
  go_wp2_with fail
  refine (HRD.out _ HRR.out (HE.out.keep HZB.out)).mono ?_
  rintro e w2 ⟨hb2, ⟨rfl, rfl⟩ | ⟨r, D, dn, dc, M, mn, mc, Y, yn, yc, rfl, rfl, hlies⟩⟩
  · have HF : Hid (ansC unU s.data.toList = none) := HA
    unfold noRule
    replace HZ := hide ((HZ.out.keep hb2).keep (more (start w2) (.cells #[.int .i64 0, .int .i64 0, .int .i64 0, .int .i64 0, .slice none 0 0, .slice none 0 0, .slice none 0 0] 25)))
    replace HZB := hide (more (andthen HZB.out hb2) (.cells #[.int .i64 0, .int .i64 0, .int .i64 0, .int .i64 0, .slice none 0 0, .slice none 0 0, .slice none 0 0] 25))
    clear hb2
    have z0 := HZ.out.c0
    have z1 := HZ.out.c1
    have z2 := HZ.out.c2
    have z3 := HZ.out.c3
    have z4 := HZ.out.c4
    have z5 := HZ.out.c5
    have z6 := HZ.out.c6
    have f0 := HZ.out.f0
    have f1 := HZ.out.f1
    have f2 := HZ.out.f2
    have f3 := HZ.out.f3
    have f4 := HZ.out.f4
    have f5 := HZ.out.f5
    have f6 := HZ.out.f6
    have hlz := HZ.out.lt
    go_wp2_with fail
    refine ret_gen (ZeroAt w) (zero_7 HZ.out HZB.out) ?_
    rintro WF ⟨⟨c0, c1, c2, c3, c4, c5, c6⟩, hb⟩
    exact bodyPost_ret (v := .tuple #[noRule, .int .i64 12]) (by simp [results, Tryz.results10, go_sem, c0, c1, c2, c3, c4, c5, c6, noRule]) rfl ⟨hb, Or.inl ⟨HF.out, rfl⟩⟩
  · have HL := hide hlies
    unfold ruleV
    obtain ⟨fr, ev, ct, un, ds, ms, ys⟩ := r
    simp only at HL ⊢
    have hR := fun w h => ruleIs_any fr ev ct un D M Y dn dc mn mc yn yc ds ms ys w h
    have hO : ruleOnly (some ⟨fr, ev, ct, un, ds, ms, ys⟩) = if isB ⟨fr, ev, ct, un, ds, ms, ys⟩ = true then some ⟨fr, ev, ct, un, ds, ms, ys⟩ else none := rfl
    rw [hO] at HA
    have h01 := HZ.out.lt
    obtain ⟨X, hX⟩ : ∃ X, w2.heap.size = X := ⟨_, rfl⟩
    obtain ⟨q0, q1, q2, q3, q4, q5, q6⟩ := box_cells w2 25 (.int .i64 fr) (.int .i64 ev) (.int .i64 ct) (.int .i64 un) (.slice D dn dc) (.slice M mn mc) (.slice Y yn yc) hX
    replace HL := hide (HL.out.keep (more (start w2) (.cells #[.int .i64 fr, .int .i64 ev, .int .i64 ct, .int .i64 un, .slice D dn dc, .slice M mn mc, .slice Y yn yc] 25)))
    replace HZ := hide ((HZ.out.keep hb2).keep (more (start w2) (.cells #[.int .i64 fr, .int .i64 ev, .int .i64 ct, .int .i64 un, .slice D dn dc, .slice M mn mc, .slice Y yn yc] 25)))
    replace HZB := hide (more (andthen HZB.out hb2) (.cells #[.int .i64 fr, .int .i64 ev, .int .i64 ct, .int .i64 un, .slice D dn dc, .slice M mn mc, .slice Y yn yc] 25))
    have HQ := hide (And.intro q0 (And.intro q1 (And.intro q2 (And.intro q3 (And.intro q4 (And.intro q5 q6))))))
    clear hb2 hlies hO q0 q1 q2 q3 q4 q5 q6
    by_cases hb : isB ⟨fr, ev, ct, un, ds, ms, ys⟩ = true
    · rw [if_pos hb] at HA
      rw [hb] at hR
      have HRR2 := hide hR
      clear hR hb
      obtain ⟨q0, q1, q2, q3, q4, q5, q6⟩ := HQ.out
      go_wp2_with fail
      refine (HRR2.out _ HL.out.lies).mono ?_
      rintro e w3 ⟨rfl, hb3⟩
      replace HL := hide (HL.out.keep hb3)
      replace HZ := hide (HZ.out.keep hb3)
      replace HZB := hide (andthen HZB.out hb3)
      have x0 := cell_keep hb3 HQ.out.1
      have x1 := cell_keep hb3 HQ.out.2.1
      have x2 := cell_keep hb3 HQ.out.2.2.1
      have x3 := cell_keep hb3 HQ.out.2.2.2.1
      have x4 := cell_keep hb3 HQ.out.2.2.2.2.1
      have x5 := cell_keep hb3 HQ.out.2.2.2.2.2.1
      have x6 := cell_keep hb3 HQ.out.2.2.2.2.2.2
      rw [hX] at *
      have HCP := hide (HZ.out.copy HL.out h01)
      have z0 := HZ.out.c0
      have z1 := HZ.out.c1
      have z2 := HZ.out.c2
      have z3 := HZ.out.c3
      have z4 := HZ.out.c4
      have z5 := HZ.out.c5
      have z6 := HZ.out.c6
      have f0 := HZ.out.f0
      have f1 := HZ.out.f1
      have f2 := HZ.out.f2
      have f3 := HZ.out.f3
      have f4 := HZ.out.f4
      have f5 := HZ.out.f5
      have f6 := HZ.out.f6
      have hlz := HZ.out.lt
      clear hb3 HQ q0 q1 q2 q3 q4 q5 q6
      go_wp2_with fail
      refine ret_gen (RuleIn w ⟨fr, ev, ct, un, ds, ms, ys⟩ D dn dc M mn mc Y yn yc) ⟨_, HCP.out, below_7 HZB.out (Nat.le_refl _)⟩ ?_
      rintro WF ⟨_, hr, hb⟩
      exact bodyPost_ret (v := .tuple #[ruleV ⟨fr, ev, ct, un, ds, ms, ys⟩ D dn dc M mn mc Y yn yc, .int .i64 0]) (by simp [results, Tryz.results10, go_sem, hr.c0, hr.c1, hr.c2, hr.c3, hr.c4, hr.c5, hr.c6, ruleV]) rfl ⟨hb, Or.inr ⟨_, _, _, _, _, _, _, _, _, _, HA.out, rfl, hr.lies⟩⟩
    · rw [if_neg hb] at HA
      rw [Bool.eq_false_iff.2 hb] at hR
      have HF := HA
      have HRR2 := hide hR
      clear hR hb
      obtain ⟨q0, q1, q2, q3, q4, q5, q6⟩ := HQ.out
      go_wp2_with fail
      refine (HRR2.out _ HL.out.lies).mono ?_
      rintro e w3 ⟨rfl, hb3⟩
      replace HZ := hide (HZ.out.keep hb3)
      replace HZB := hide (andthen HZB.out hb3)
      have z0 := HZ.out.c0
      have z1 := HZ.out.c1
      have z2 := HZ.out.c2
      have z3 := HZ.out.c3
      have z4 := HZ.out.c4
      have z5 := HZ.out.c5
      have z6 := HZ.out.c6
      have f0 := HZ.out.f0
      have f1 := HZ.out.f1
      have f2 := HZ.out.f2
      have f3 := HZ.out.f3
      have f4 := HZ.out.f4
      have f5 := HZ.out.f5
      have f6 := HZ.out.f6
      have hlz := HZ.out.lt
      clear hb3 HQ q0 q1 q2 q3 q4 q5 q6
      go_wp2_with fail
      refine ret_gen (ZeroAt w) (zero_7 HZ.out HZB.out) ?_
      rintro WF ⟨⟨c0, c1, c2, c3, c4, c5, c6⟩, hb⟩
      exact bodyPost_ret (v := .tuple #[noRule, .int .i64 12]) (by simp [results, Tryz.results10, go_sem, c0, c1, c2, c3, c4, c5, c6, noRule]) rfl ⟨hb, Or.inl ⟨HF.out, rfl⟩⟩


end Go.Proofs.YtffobailjdhijaaGreatDoor

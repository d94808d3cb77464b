/- TnH; TnI; TnJ of the recipes, what is needed of them. -/
import Derived.Maps.AppendAt
import Derived.Test.YtphojcnehgdbmaaBS7
import Derived.Test.YtphojcnehgdbmaaBS3
namespace Go.Proofs.Ytphojcnehgdbmaa.S2
open Go.RowKit Spn

/-- the own row v became v': all other blocks are as they were; v' lies where v lay, or in new memory. -/
structure Goes (v : Value) (w : World) (v' : Value) (w' : World) : Prop where
  grown : w.grownBy w' v.ownBlock
  own : v'.ownBlock = v.ownBlock ∨ ∃ k, v'.ownBlock = some k ∧ w.heap.size ≤ k
theorem Goes.refl (v : Value) (w : World) : Goes v w v w := ⟨World.grownBy.refl _ _, Or.inl rfl⟩
theorem Goes.trans {v1 v2 v3 : Value} {w1 w2 w3 : World} (h : Goes v1 w1 v2 w2) (k : Goes v2 w2 v3 w3) : Goes v1 w1 v3 w3 := by
  obtain ⟨hg, ho⟩ := h
  obtain ⟨kg, ko⟩ := k
  refine ⟨⟨kg.os.trans hg.os, kg.tape.trans hg.tape, kg.output.trans hg.output, Nat.le_trans hg.size kg.size, fun i hi hne => ?_⟩, ?_⟩
  · refine (kg.block i (Nat.lt_of_lt_of_le hi hg.size) ?_).trans (hg.block i hi hne)
    rcases ho with ho | ⟨k, ho, hk⟩
    · rw [ho]; exact hne
    · rw [ho]; intro he; injection he with he; omega
  · rcases ko with ko | ⟨k, ko, hk⟩
    · rw [ko]; exact ho
    · exact Or.inr ⟨k, ko, Nat.le_trans hg.size hk⟩
theorem Goes.below {v : Value} {w w' : World} (h : Below w.heap.size w w') : Goes v w v w' := ⟨⟨h.os, h.tape, h.output, h.size, fun i hi _ => h.block i hi⟩, Or.inl rfl⟩
theorem Goes.to {v v' : Value} {W w w' : World} {l : List Sp} (h : Goes v w v' w') (hown : Own w W.heap.size v l) (hb : Below W.heap.size W w) : Below W.heap.size W w' :=
  hb.grown h.grown hb.size fun j hj => (hown.lt j hj).1
/-- a block that isn't the own row's. -/
def Apart (v : Value) (b : Nat) : Prop := some b ≠ v.ownBlock
theorem Goes.apart {v v' : Value} {w w' : World} {b : Nat} (h : Goes v w v' w') (ha : Apart v b) (hb : b < w.heap.size) : Apart v' b := by
  unfold Apart at *
  rcases h.own with ho | ⟨k, ho, hk⟩
  · rw [ho]; exact ha
  · rw [ho]; intro he; injection he with he; omega
theorem Goes.cell {v v' : Value} {w w' : World} {a : Addr} {u : Value} (h : Goes v w v' w') (ha : Apart v a.block) (hc : w.cell? a = some u) : w'.cell? a = some u := h.grown.cell hc ha
theorem apart_low {w : World} {B : Nat} {v : Value} {l : List Sp} {b : Nat} (h : Own w B v l) (hb : b < B) : Apart v b := by
  intro he
  have := (h.lt b he.symm).1
  omega
theorem apart_new {w : World} {B : Nat} {v : Value} {l : List Sp} {b : Nat} (h : Own w B v l) (hb : w.heap.size ≤ b) : Apart v b := by
  intro he
  have := (h.lt b he.symm).2
  omega

/-- a call hands back the row, grown out of v. -/
def Adds (W : World) (B : Nat) (v : Value) (l : List Sp) (e : Ending) (w : World) : Prop := ∃ v', e = .returned v' ∧ Own w B v' l ∧ Goes v W v' w

/-- one span more behind a call's own row. -/
theorem wp_oneG {ops : Array Oper} {rest : List Oper} {o : Oper} {a : Act} {Q : Exit → Act → World → Prop} {w : World} {B : Nat} {v : Value} {l : List Sp} {p : Sp} (hgd : o.guard = none) (s x : Operand)
    (ho : o.op = .call { callee := .builtin .append, args := #[s, x], argTypes := #[57, 57] }) (hs : a.eval s = v) {N : Nat} (hN : w.heap.size = N) (hx : a.eval x = .slice (some ⟨N, 0, none⟩) 1 1)
    (hown : Own w B v l) (hB : B ≤ w.heap.size) (hn : l.length ≤ 1000000)
    (h : ∀ v' w', Own w' B v' (l ++ [p]) → Goes v w v' w' → wpList Try.prog ops Q rest (a.put o.dst v') w') :
    wpList Try.prog ops Q (o :: rest) a (w.alloc (.cells #[.int .i64 p.1, .int .i64 p.2] 52)) := by
  subst hN
  obtain ⟨i0, hi, hz0, hz1, hz2⟩ := info_parts span_info
  refine wpList_append_own_at _ hgd s x 57 ho B 52 i0 _ 2 16 Try.underlying57 hi hz0 hz1 hz2 rfl (by decide) v l.length (cellsL l) hs (hown.alloc _) ⟨w.heap.size, 0, none⟩ 1 1 [.int .i64 p.1, .int .i64 p.2] hx rfl ?_ ?_ ?_ ?_ ?_ ?_
  · intro j u hu
    rw [plus, World.cell?_alloc_at _ _ _ _ rfl]
    exact (by simpa using hu)
  · intro u hu
    simp only [List.mem_cons, List.not_mem_nil, or_false] at hu
    rcases hu with rfl | rfl <;> rfl
  · unfold maxLen; omega
  · omega
  · simp only [World.size_alloc]; omega
  · intro v' w' h2 h3 _ h5
    refine h v' w' (by rw [Own, cellsL_append, List.length_append]; exact h2) ((Goes.below (more (start w) _)).trans ⟨h3, ?_⟩)
    rcases h5 with h5 | h5
    · exact Or.inl h5
    · exact Or.inr ⟨_, h5, Nat.le_refl _⟩

/-- how deep grow's tree of n spans is. -/
def gdeep : Nat → Nat
  | 0 => 0
  | n + 1 => 1 + gdeep ((n + 1) / 2)
 termination_by n => n
 decreasing_by omega
theorem gdeep_zero : gdeep 0 = 0 := by unfold gdeep; rfl
theorem gdeep_pos (n : Nat) (h : n ≠ 0) : gdeep n = 1 + gdeep (n / 2) := by
  obtain ⟨m, rfl⟩ : ∃ m, n = m + 1 := ⟨n - 1, by omega⟩
  rw [gdeep]
theorem gdeep_step (n : Nat) : gdeep n ≤ gdeep (n + 1) ∧ gdeep (n + 1) ≤ gdeep n + 1 := by
  induction n using Nat.strongRecOn with
  | _ n ih =>
    by_cases h0 : n = 0
    · subst h0; rw [gdeep_pos (0 + 1) (by omega), gdeep_zero]; omega
    · rw [gdeep_pos n h0, gdeep_pos (n + 1) (by omega)]
      rcases Nat.mod_two_eq_zero_or_one n with h | h
      · rw [show (n + 1) / 2 = n / 2 by omega]; omega
      · rw [show (n + 1) / 2 = n / 2 + 1 by omega]
        have := ih (n / 2) (by omega)
        omega
/-- grow's tree. -/
def Grown (l : List Sp) (t : Tr) : Prop := t.row = l ∧ t.Bal ∧ t.deep = gdeep l.length
theorem grown_of {l : List Sp} {t : Tr} (h : Grown l t) : Of' l t := ⟨h.1, h.2.1⟩
theorem grown_deep {l : List Sp} {t : Tr} (h : Grown l t) : t.deep ≤ l.length := of_deep (grown_of h)
theorem grown_node (l r : List Sp) (a : Sp) (t u : Tr) (ht : Grown l t) (hu : Grown r u) (h : l.length = (l.length + 1 + r.length) / 2) : Grown (l ++ a :: r) (.node t a u) := by
  obtain ⟨h1, h2, h3⟩ := ht
  obtain ⟨g1, g2, g3⟩ := hu
  have hd : t.deep = gdeep l.length ∧ u.deep ≤ gdeep l.length ∧ gdeep l.length ≤ u.deep + 1 := by
    refine ⟨h3, ?_⟩
    rw [g3]
    rcases (by omega : r.length = l.length ∨ l.length = r.length + 1) with e | e
    · rw [e]; omega
    · rw [e]; have := gdeep_step r.length; omega
  refine ⟨by simp [Tr.row, h1, g1], ⟨by omega, by omega, h2, g2⟩, ?_⟩
  rw [gdeep_pos _ (by simp), List.length_append, List.length_cons, show (l.length + (r.length + 1)) / 2 = l.length by omega]
  simp only [Tr.deep]
  omega
end Go.Proofs.Ytphojcnehgdbmaa.S2
namespace Go.Proofs.Ytphojcnehgdbmaa.S2
open Go.RowKit Spn

theorem touch_at' (f t g u : Int) (b : Bool) (w : World) (h : touchB (f, t) (g, u) = b) :
    Calls Try.prog 79 #[.agg #[.int .i64 f, .int .i64 t], .agg #[.int .i64 g, .int .i64 u]] w fun e w' => e = .returned (.bool b) ∧ Below w.heap.size w w' := by
  subst h; exact touch_any f t g u w
/-- within a call of appendTouching: the box of the span, the node, the own row. -/
structure St (W w0 : World) (X b : Nat) (x y n1 n2 : Int) (pl pr : Option Addr) (v0 v : Value) (l : List Sp) (w : World) : Prop where
  own : Own w W.heap.size v l
  go : Goes v0 w0 v w
  q0 : w.cell? ⟨X, 0, none⟩ = some (.int .i64 x)
  q1 : w.cell? ⟨X, 1, none⟩ = some (.int .i64 y)
  q2 : w.cell? ⟨b, 0, none⟩ = some (.int .i64 n1)
  q3 : w.cell? ⟨b, 1, none⟩ = some (.int .i64 n2)
  q4 : w.cell? ⟨b, 2, none⟩ = some (.pointer pl)
  q5 : w.cell? ⟨b, 3, none⟩ = some (.pointer pr)
  aX : Apart v X
  aB : Apart v b
  lX : X < w.heap.size
  lB : b < w.heap.size
  below : Below W.heap.size W w
section
variable {W w0 : World} {X b : Nat} {x y n1 n2 : Int} {pl pr : Option Addr} {v0 v : Value} {l : List Sp} {w : World}
theorem St.cells (h : St W w0 X b x y n1 n2 pl pr v0 v l w) : w.cell? ⟨X, 0, none⟩ = some (.int .i64 x) ∧ w.cell? ⟨X, 1, none⟩ = some (.int .i64 y) ∧ w.cell? ⟨b, 0, none⟩ = some (.int .i64 n1) ∧ w.cell? ⟨b, 1, none⟩ = some (.int .i64 n2) ∧ w.cell? ⟨b, 2, none⟩ = some (.pointer pl) ∧ w.cell? ⟨b, 3, none⟩ = some (.pointer pr) := ⟨h.q0, h.q1, h.q2, h.q3, h.q4, h.q5⟩
theorem St.later (h : St W w0 X b x y n1 n2 pl pr v0 v l w) {w1 : World} (hb : Below w.heap.size w w1) : St W w0 X b x y n1 n2 pl pr v0 v l w1 :=
  ⟨Own.keep h.own hb, h.go.trans (Goes.below hb), cell_keep hb h.q0, cell_keep hb h.q1, cell_keep hb h.q2, cell_keep hb h.q3, cell_keep hb h.q4, cell_keep hb h.q5, h.aX, h.aB, Nat.lt_of_lt_of_le h.lX hb.size, Nat.lt_of_lt_of_le h.lB hb.size, h.below.trans (hb.mono h.below.size)⟩
theorem St.drew (h : St W w0 X b x y n1 n2 pl pr v0 v l w) : St W w0 X b x y n1 n2 pl pr v0 v l w.drew := h.later (start w).drew
theorem St.goes (h : St W w0 X b x y n1 n2 pl pr v0 v l w) {v1 : Value} {l1 : List Sp} {w1 : World} (ho : Own w1 W.heap.size v1 l1) (hg : Goes v w v1 w1) : St W w0 X b x y n1 n2 pl pr v0 v1 l1 w1 :=
  ⟨ho, h.go.trans hg, hg.cell h.aX h.q0, hg.cell h.aX h.q1, hg.cell h.aB h.q2, hg.cell h.aB h.q3, hg.cell h.aB h.q4, hg.cell h.aB h.q5, hg.apart h.aX h.lX, hg.apart h.aB h.lB, Nat.lt_of_lt_of_le h.lX hg.grown.size, Nat.lt_of_lt_of_le h.lB hg.grown.size, hg.to h.own h.below⟩
end

set_option maxRecDepth 100000 in
set_option maxHeartbeats 4000000 in
theorem touching_any (W : World) (t : Tr) : ∀ (p : Option Addr) (x y : Int) (v : Value) (l0 : List Sp) (w : World), Tree W p t → Below W.heap.size W w → Own w W.heap.size v l0 → Neat t.row → l0.length + t.row.length ≤ 900000 →
    Calls Try.prog 62 #[.pointer p, v, .agg #[.int .i64 x, .int .i64 y]] w (Adds w W.heap.size v (l0 ++ tch t.row (x, y))) := by
  induction t with
  | nil =>
    intro p x y v l0 w h hbw hown _ _
    obtain rfl : p = none := h
    have HO := hide hown
    clear hown
    go_enter Try.func62, Try.ntmps62
    go_wp2_with fail
    go_ret
    exact ⟨_, rfl, by rw [show tch Tr.nil.row (x, y) = [] from rfl, List.append_nil]; exact HO.out.alloc _, Goes.below (more (start _) _)⟩
  | node l a r ihl ihr =>
  intro p x y v l0 w h hbw hown hneat hlen
  obtain ⟨b, pl, pr, rfl, hn, hl, hr⟩ := h
  obtain ⟨n1, n2⟩ := a
  have hn2 := hn.keep hbw
  have hbx := more (start w) (.cells #[.int .i64 x, .int .i64 y] 52)
  have hs : St W w w.heap.size b x y n1 n2 pl pr v v l0 (w.alloc (.cells #[.int .i64 x, .int .i64 y] 52)) :=
    ⟨hown.alloc _, Goes.below hbx, by rw [World.cell?_alloc_at _ _ _ _ rfl]; rfl, by rw [World.cell?_alloc_at _ _ _ _ rfl]; rfl, cell_keep hbx hn2.c0, cell_keep hbx hn2.c1, cell_keep hbx hn2.c2, cell_keep hbx hn2.c3,
      apart_new hown (Nat.le_refl _), apart_low hown hn.lt, by simp, Nat.lt_of_lt_of_le hn2.lt hbx.size, hbw.trans (hbx.mono hbw.size)⟩
  have hmid := neat_mid _ _ _ hneat
  have HNL := hide hmid.2.2.2.1
  have HNR := hide hmid.2.2.2.2
  have HN : Hid (Neat (l.row ++ (n1, n2) :: r.row)) := hide hneat
  have hll : l0.length + l.row.length + r.row.length ≤ 899999 := by simp only [Tr.row, List.length_append, List.length_cons] at hlen; omega
  have htl := tch_len l.row (x, y)
  have HL := hide hl
  have HR := hide hr
  have IHl := hide ihl
  have IHr := hide ihr
  clear hl hr hmid hneat hlen ihl ihr hn hn2 hbw hown hbx
  rcases (inferInstance : Decidable (x < n1)) with hc1 | hc1 <;> rcases (inferInstance : Decidable (n2 < y)) with hc3 | hc3 <;> rcases hc2 : touchB (n1, n2) (x, y)
  · have HL1 : Hid (l0 ++ tch (l.row ++ (n1, n2) :: r.row) (x, y) = l0) := hide (by rw [tch_split, hc2]; rw [tch_left _ _ _ _ HN.out hc1]; rw [tch_right _ _ _ _ HN.out hc3]; simp)
    have HT := hide hc2
    have d1 : decide (x < n1) = false := decide_eq_false hc1
    have d3 : decide (n2 < y) = false := decide_eq_false hc3
    clear hc1 hc3
    clear hc2
    go_enter Try.func62, Try.ntmps62
    go_wp2_with fail
    go_region_held3 (fun w' => w'.cell? ⟨w.heap.size, 0, none⟩ = some (.int .i64 x) ∧ w'.cell? ⟨w.heap.size, 1, none⟩ = some (.int .i64 y) ∧ w'.cell? ⟨b, 0, none⟩ = some (.int .i64 n1) ∧ w'.cell? ⟨b, 1, none⟩ = some (.int .i64 n2) ∧ w'.cell? ⟨b, 2, none⟩ = some (.pointer pl) ∧ w'.cell? ⟨b, 3, none⟩ = some (.pointer pr)) (first | exact St.cells (by assumption) | exact St.cells (St.drew (by assumption))) (fail)
    replace hs := hs.drew
    go_wp2_with fail
    go_region_held3 (fun w' => w'.cell? ⟨w.heap.size, 0, none⟩ = some (.int .i64 x) ∧ w'.cell? ⟨w.heap.size, 1, none⟩ = some (.int .i64 y) ∧ w'.cell? ⟨b, 0, none⟩ = some (.int .i64 n1) ∧ w'.cell? ⟨b, 1, none⟩ = some (.int .i64 n2) ∧ w'.cell? ⟨b, 2, none⟩ = some (.pointer pl) ∧ w'.cell? ⟨b, 3, none⟩ = some (.pointer pr)) (first | exact St.cells (by assumption) | exact St.cells (St.drew (by assumption))) ((first | (go_at_call 79; (with_reducible refine (touch_at' n1 n2 x y false _ HT.out).mono ?_); rintro e w2 ⟨rfl, hb2⟩; have hs2 := hs.drew.later hb2)))
    replace hs := hs2
    clear hs2
    go_wp2_with fail
    go_region_held3 (fun w' => w'.cell? ⟨w.heap.size, 0, none⟩ = some (.int .i64 x) ∧ w'.cell? ⟨w.heap.size, 1, none⟩ = some (.int .i64 y) ∧ w'.cell? ⟨b, 0, none⟩ = some (.int .i64 n1) ∧ w'.cell? ⟨b, 1, none⟩ = some (.int .i64 n2) ∧ w'.cell? ⟨b, 2, none⟩ = some (.pointer pl) ∧ w'.cell? ⟨b, 3, none⟩ = some (.pointer pr)) (first | exact St.cells (by assumption) | exact St.cells (St.drew (by assumption))) (fail)
    replace hs := hs.drew
    go_wp2_with fail
    go_ret
    exact ⟨_, rfl, by rw [show (Tr.node l (n1, n2) r).row = l.row ++ (n1, n2) :: r.row from rfl, HL1.out]; exact hs.own, hs.go⟩
  · have HL1 : Hid (l0 ++ tch (l.row ++ (n1, n2) :: r.row) (x, y) = l0 ++ [(n1, n2)]) := hide (by rw [tch_split, hc2]; rw [tch_left _ _ _ _ HN.out hc1]; rw [tch_right _ _ _ _ HN.out hc3]; simp)
    have HT := hide hc2
    have d1 : decide (x < n1) = false := decide_eq_false hc1
    have d3 : decide (n2 < y) = false := decide_eq_false hc3
    clear hc1 hc3
    clear hc2
    go_enter Try.func62, Try.ntmps62
    go_wp2_with fail
    go_region_held3 (fun w' => w'.cell? ⟨w.heap.size, 0, none⟩ = some (.int .i64 x) ∧ w'.cell? ⟨w.heap.size, 1, none⟩ = some (.int .i64 y) ∧ w'.cell? ⟨b, 0, none⟩ = some (.int .i64 n1) ∧ w'.cell? ⟨b, 1, none⟩ = some (.int .i64 n2) ∧ w'.cell? ⟨b, 2, none⟩ = some (.pointer pl) ∧ w'.cell? ⟨b, 3, none⟩ = some (.pointer pr)) (first | exact St.cells (by assumption) | exact St.cells (St.drew (by assumption))) (fail)
    replace hs := hs.drew
    go_wp2_with fail
    go_region_held3 (fun w' => w'.cell? ⟨w.heap.size, 0, none⟩ = some (.int .i64 x) ∧ w'.cell? ⟨w.heap.size, 1, none⟩ = some (.int .i64 y) ∧ w'.cell? ⟨b, 0, none⟩ = some (.int .i64 n1) ∧ w'.cell? ⟨b, 1, none⟩ = some (.int .i64 n2) ∧ w'.cell? ⟨b, 2, none⟩ = some (.pointer pl) ∧ w'.cell? ⟨b, 3, none⟩ = some (.pointer pr)) (first | exact St.cells (by assumption) | exact St.cells (St.drew (by assumption))) ((first | (go_at_call 79; (with_reducible refine (touch_at' n1 n2 x y true _ HT.out).mono ?_); rintro e w2 ⟨rfl, hb2⟩; have hs2 := hs.drew.later hb2)))
    replace hs := hs2
    clear hs2
    obtain ⟨k0, k1, k2, k3, k4, k5⟩ := hs.cells
    go_wp2_with (at_builtin; refine wp_oneG (p := (n1, n2)) rfl _ _ rfl rfl rfl rfl hs.own hs.below.size (by omega) ?_; intro v3 w3 hown3 hgo3)
    replace hs := hs.goes hown3 hgo3
    clear k0 k1 k2 k3 k4 k5
    go_region_held3 (fun w' => w'.cell? ⟨w.heap.size, 0, none⟩ = some (.int .i64 x) ∧ w'.cell? ⟨w.heap.size, 1, none⟩ = some (.int .i64 y) ∧ w'.cell? ⟨b, 0, none⟩ = some (.int .i64 n1) ∧ w'.cell? ⟨b, 1, none⟩ = some (.int .i64 n2) ∧ w'.cell? ⟨b, 2, none⟩ = some (.pointer pl) ∧ w'.cell? ⟨b, 3, none⟩ = some (.pointer pr)) (first | exact St.cells (by assumption) | exact St.cells (St.drew (by assumption))) (fail)
    replace hs := hs.drew
    go_wp2_with fail
    go_ret
    exact ⟨_, rfl, by rw [show (Tr.node l (n1, n2) r).row = l.row ++ (n1, n2) :: r.row from rfl, HL1.out]; exact hs.own, hs.go⟩
  · have HL1 : Hid (l0 ++ tch (l.row ++ (n1, n2) :: r.row) (x, y) = l0 ++ tch r.row (x, y)) := hide (by rw [tch_split, hc2]; rw [tch_left _ _ _ _ HN.out hc1]; simp)
    have HT := hide hc2
    have d1 : decide (x < n1) = false := decide_eq_false hc1
    have d3 : decide (n2 < y) = true := decide_eq_true hc3
    clear hc1 hc3
    clear hc2
    go_enter Try.func62, Try.ntmps62
    go_wp2_with fail
    go_region_held3 (fun w' => w'.cell? ⟨w.heap.size, 0, none⟩ = some (.int .i64 x) ∧ w'.cell? ⟨w.heap.size, 1, none⟩ = some (.int .i64 y) ∧ w'.cell? ⟨b, 0, none⟩ = some (.int .i64 n1) ∧ w'.cell? ⟨b, 1, none⟩ = some (.int .i64 n2) ∧ w'.cell? ⟨b, 2, none⟩ = some (.pointer pl) ∧ w'.cell? ⟨b, 3, none⟩ = some (.pointer pr)) (first | exact St.cells (by assumption) | exact St.cells (St.drew (by assumption))) (fail)
    replace hs := hs.drew
    go_wp2_with fail
    go_region_held3 (fun w' => w'.cell? ⟨w.heap.size, 0, none⟩ = some (.int .i64 x) ∧ w'.cell? ⟨w.heap.size, 1, none⟩ = some (.int .i64 y) ∧ w'.cell? ⟨b, 0, none⟩ = some (.int .i64 n1) ∧ w'.cell? ⟨b, 1, none⟩ = some (.int .i64 n2) ∧ w'.cell? ⟨b, 2, none⟩ = some (.pointer pl) ∧ w'.cell? ⟨b, 3, none⟩ = some (.pointer pr)) (first | exact St.cells (by assumption) | exact St.cells (St.drew (by assumption))) ((first | (go_at_call 79; (with_reducible refine (touch_at' n1 n2 x y false _ HT.out).mono ?_); rintro e w2 ⟨rfl, hb2⟩; have hs2 := hs.drew.later hb2)))
    replace hs := hs2
    clear hs2
    go_wp2_with fail
    go_region_held3 (fun w' => w'.cell? ⟨w.heap.size, 0, none⟩ = some (.int .i64 x) ∧ w'.cell? ⟨w.heap.size, 1, none⟩ = some (.int .i64 y) ∧ w'.cell? ⟨b, 0, none⟩ = some (.int .i64 n1) ∧ w'.cell? ⟨b, 1, none⟩ = some (.int .i64 n2) ∧ w'.cell? ⟨b, 2, none⟩ = some (.pointer pl) ∧ w'.cell? ⟨b, 3, none⟩ = some (.pointer pr)) (first | exact St.cells (by assumption) | exact St.cells (St.drew (by assumption))) (fail)
    replace hs := hs.drew
    go_wp2_with fail
    go_region_held3 (fun w' => w'.cell? ⟨w.heap.size, 0, none⟩ = some (.int .i64 x) ∧ w'.cell? ⟨w.heap.size, 1, none⟩ = some (.int .i64 y) ∧ w'.cell? ⟨b, 0, none⟩ = some (.int .i64 n1) ∧ w'.cell? ⟨b, 1, none⟩ = some (.int .i64 n2) ∧ w'.cell? ⟨b, 2, none⟩ = some (.pointer pl) ∧ w'.cell? ⟨b, 3, none⟩ = some (.pointer pr)) (first | exact St.cells (by assumption) | exact St.cells (St.drew (by assumption))) ((first | (go_at_call 62; (with_reducible refine (IHr.out pr x y v l0 _ HR.out hs.drew.below hs.drew.own HNR.out (by omega)).mono ?_); rintro e w4 ⟨v4, rfl, hown4, hgo4⟩; have hs4 := hs.drew.goes hown4 hgo4)))
    replace hs := hs4
    clear hs4
    go_wp2_with fail
    go_ret
    exact ⟨_, rfl, by rw [show (Tr.node l (n1, n2) r).row = l.row ++ (n1, n2) :: r.row from rfl, HL1.out]; exact hs.own, hs.go⟩
  · have HL1 : Hid (l0 ++ tch (l.row ++ (n1, n2) :: r.row) (x, y) = l0 ++ [(n1, n2)] ++ tch r.row (x, y)) := hide (by rw [tch_split, hc2]; rw [tch_left _ _ _ _ HN.out hc1]; simp)
    have HT := hide hc2
    have d1 : decide (x < n1) = false := decide_eq_false hc1
    have d3 : decide (n2 < y) = true := decide_eq_true hc3
    clear hc1 hc3
    clear hc2
    go_enter Try.func62, Try.ntmps62
    go_wp2_with fail
    go_region_held3 (fun w' => w'.cell? ⟨w.heap.size, 0, none⟩ = some (.int .i64 x) ∧ w'.cell? ⟨w.heap.size, 1, none⟩ = some (.int .i64 y) ∧ w'.cell? ⟨b, 0, none⟩ = some (.int .i64 n1) ∧ w'.cell? ⟨b, 1, none⟩ = some (.int .i64 n2) ∧ w'.cell? ⟨b, 2, none⟩ = some (.pointer pl) ∧ w'.cell? ⟨b, 3, none⟩ = some (.pointer pr)) (first | exact St.cells (by assumption) | exact St.cells (St.drew (by assumption))) (fail)
    replace hs := hs.drew
    go_wp2_with fail
    go_region_held3 (fun w' => w'.cell? ⟨w.heap.size, 0, none⟩ = some (.int .i64 x) ∧ w'.cell? ⟨w.heap.size, 1, none⟩ = some (.int .i64 y) ∧ w'.cell? ⟨b, 0, none⟩ = some (.int .i64 n1) ∧ w'.cell? ⟨b, 1, none⟩ = some (.int .i64 n2) ∧ w'.cell? ⟨b, 2, none⟩ = some (.pointer pl) ∧ w'.cell? ⟨b, 3, none⟩ = some (.pointer pr)) (first | exact St.cells (by assumption) | exact St.cells (St.drew (by assumption))) ((first | (go_at_call 79; (with_reducible refine (touch_at' n1 n2 x y true _ HT.out).mono ?_); rintro e w2 ⟨rfl, hb2⟩; have hs2 := hs.drew.later hb2)))
    replace hs := hs2
    clear hs2
    obtain ⟨k0, k1, k2, k3, k4, k5⟩ := hs.cells
    go_wp2_with (at_builtin; refine wp_oneG (p := (n1, n2)) rfl _ _ rfl rfl rfl rfl hs.own hs.below.size (by omega) ?_; intro v3 w3 hown3 hgo3)
    replace hs := hs.goes hown3 hgo3
    clear k0 k1 k2 k3 k4 k5
    go_region_held3 (fun w' => w'.cell? ⟨w.heap.size, 0, none⟩ = some (.int .i64 x) ∧ w'.cell? ⟨w.heap.size, 1, none⟩ = some (.int .i64 y) ∧ w'.cell? ⟨b, 0, none⟩ = some (.int .i64 n1) ∧ w'.cell? ⟨b, 1, none⟩ = some (.int .i64 n2) ∧ w'.cell? ⟨b, 2, none⟩ = some (.pointer pl) ∧ w'.cell? ⟨b, 3, none⟩ = some (.pointer pr)) (first | exact St.cells (by assumption) | exact St.cells (St.drew (by assumption))) (fail)
    replace hs := hs.drew
    go_wp2_with fail
    go_region_held3 (fun w' => w'.cell? ⟨w.heap.size, 0, none⟩ = some (.int .i64 x) ∧ w'.cell? ⟨w.heap.size, 1, none⟩ = some (.int .i64 y) ∧ w'.cell? ⟨b, 0, none⟩ = some (.int .i64 n1) ∧ w'.cell? ⟨b, 1, none⟩ = some (.int .i64 n2) ∧ w'.cell? ⟨b, 2, none⟩ = some (.pointer pl) ∧ w'.cell? ⟨b, 3, none⟩ = some (.pointer pr)) (first | exact St.cells (by assumption) | exact St.cells (St.drew (by assumption))) ((first | (go_at_call 62; (with_reducible refine (IHr.out pr x y v3 (l0 ++ [(n1, n2)]) _ HR.out hs.drew.below hs.drew.own HNR.out (by simp only [List.length_append, List.length_singleton]; omega)).mono ?_); rintro e w4 ⟨v4, rfl, hown4, hgo4⟩; have hs4 := hs.drew.goes hown4 hgo4)))
    replace hs := hs4
    clear hs4
    go_wp2_with fail
    go_ret
    exact ⟨_, rfl, by rw [show (Tr.node l (n1, n2) r).row = l.row ++ (n1, n2) :: r.row from rfl, HL1.out]; exact hs.own, hs.go⟩
  · have HL1 : Hid (l0 ++ tch (l.row ++ (n1, n2) :: r.row) (x, y) = l0 ++ tch l.row (x, y)) := hide (by rw [tch_split, hc2]; rw [tch_right _ _ _ _ HN.out hc3]; simp)
    have HT := hide hc2
    have d1 : decide (x < n1) = true := decide_eq_true hc1
    have d3 : decide (n2 < y) = false := decide_eq_false hc3
    clear hc1 hc3
    clear hc2
    go_enter Try.func62, Try.ntmps62
    go_wp2_with fail
    go_region_held3 (fun w' => w'.cell? ⟨w.heap.size, 0, none⟩ = some (.int .i64 x) ∧ w'.cell? ⟨w.heap.size, 1, none⟩ = some (.int .i64 y) ∧ w'.cell? ⟨b, 0, none⟩ = some (.int .i64 n1) ∧ w'.cell? ⟨b, 1, none⟩ = some (.int .i64 n2) ∧ w'.cell? ⟨b, 2, none⟩ = some (.pointer pl) ∧ w'.cell? ⟨b, 3, none⟩ = some (.pointer pr)) (first | exact St.cells (by assumption) | exact St.cells (St.drew (by assumption))) (fail)
    replace hs := hs.drew
    go_wp2_with fail
    go_region_held3 (fun w' => w'.cell? ⟨w.heap.size, 0, none⟩ = some (.int .i64 x) ∧ w'.cell? ⟨w.heap.size, 1, none⟩ = some (.int .i64 y) ∧ w'.cell? ⟨b, 0, none⟩ = some (.int .i64 n1) ∧ w'.cell? ⟨b, 1, none⟩ = some (.int .i64 n2) ∧ w'.cell? ⟨b, 2, none⟩ = some (.pointer pl) ∧ w'.cell? ⟨b, 3, none⟩ = some (.pointer pr)) (first | exact St.cells (by assumption) | exact St.cells (St.drew (by assumption))) ((first | (go_at_call 62; (with_reducible refine (IHl.out pl x y v l0 _ HL.out hs.drew.below hs.drew.own HNL.out (by omega)).mono ?_); rintro e w1 ⟨v1, rfl, hown1, hgo1⟩; have hs1 := hs.drew.goes hown1 hgo1)))
    replace hs := hs1
    clear hs1
    go_wp2_with fail
    go_region_held3 (fun w' => w'.cell? ⟨w.heap.size, 0, none⟩ = some (.int .i64 x) ∧ w'.cell? ⟨w.heap.size, 1, none⟩ = some (.int .i64 y) ∧ w'.cell? ⟨b, 0, none⟩ = some (.int .i64 n1) ∧ w'.cell? ⟨b, 1, none⟩ = some (.int .i64 n2) ∧ w'.cell? ⟨b, 2, none⟩ = some (.pointer pl) ∧ w'.cell? ⟨b, 3, none⟩ = some (.pointer pr)) (first | exact St.cells (by assumption) | exact St.cells (St.drew (by assumption))) ((first | (go_at_call 79; (with_reducible refine (touch_at' n1 n2 x y false _ HT.out).mono ?_); rintro e w2 ⟨rfl, hb2⟩; have hs2 := hs.drew.later hb2)))
    replace hs := hs2
    clear hs2
    go_wp2_with fail
    go_region_held3 (fun w' => w'.cell? ⟨w.heap.size, 0, none⟩ = some (.int .i64 x) ∧ w'.cell? ⟨w.heap.size, 1, none⟩ = some (.int .i64 y) ∧ w'.cell? ⟨b, 0, none⟩ = some (.int .i64 n1) ∧ w'.cell? ⟨b, 1, none⟩ = some (.int .i64 n2) ∧ w'.cell? ⟨b, 2, none⟩ = some (.pointer pl) ∧ w'.cell? ⟨b, 3, none⟩ = some (.pointer pr)) (first | exact St.cells (by assumption) | exact St.cells (St.drew (by assumption))) (fail)
    replace hs := hs.drew
    go_wp2_with fail
    go_ret
    exact ⟨_, rfl, by rw [show (Tr.node l (n1, n2) r).row = l.row ++ (n1, n2) :: r.row from rfl, HL1.out]; exact hs.own, hs.go⟩
  · have HL1 : Hid (l0 ++ tch (l.row ++ (n1, n2) :: r.row) (x, y) = l0 ++ tch l.row (x, y) ++ [(n1, n2)]) := hide (by rw [tch_split, hc2]; rw [tch_right _ _ _ _ HN.out hc3]; simp)
    have HT := hide hc2
    have d1 : decide (x < n1) = true := decide_eq_true hc1
    have d3 : decide (n2 < y) = false := decide_eq_false hc3
    clear hc1 hc3
    clear hc2
    go_enter Try.func62, Try.ntmps62
    go_wp2_with fail
    go_region_held3 (fun w' => w'.cell? ⟨w.heap.size, 0, none⟩ = some (.int .i64 x) ∧ w'.cell? ⟨w.heap.size, 1, none⟩ = some (.int .i64 y) ∧ w'.cell? ⟨b, 0, none⟩ = some (.int .i64 n1) ∧ w'.cell? ⟨b, 1, none⟩ = some (.int .i64 n2) ∧ w'.cell? ⟨b, 2, none⟩ = some (.pointer pl) ∧ w'.cell? ⟨b, 3, none⟩ = some (.pointer pr)) (first | exact St.cells (by assumption) | exact St.cells (St.drew (by assumption))) (fail)
    replace hs := hs.drew
    go_wp2_with fail
    go_region_held3 (fun w' => w'.cell? ⟨w.heap.size, 0, none⟩ = some (.int .i64 x) ∧ w'.cell? ⟨w.heap.size, 1, none⟩ = some (.int .i64 y) ∧ w'.cell? ⟨b, 0, none⟩ = some (.int .i64 n1) ∧ w'.cell? ⟨b, 1, none⟩ = some (.int .i64 n2) ∧ w'.cell? ⟨b, 2, none⟩ = some (.pointer pl) ∧ w'.cell? ⟨b, 3, none⟩ = some (.pointer pr)) (first | exact St.cells (by assumption) | exact St.cells (St.drew (by assumption))) ((first | (go_at_call 62; (with_reducible refine (IHl.out pl x y v l0 _ HL.out hs.drew.below hs.drew.own HNL.out (by omega)).mono ?_); rintro e w1 ⟨v1, rfl, hown1, hgo1⟩; have hs1 := hs.drew.goes hown1 hgo1)))
    replace hs := hs1
    clear hs1
    go_wp2_with fail
    go_region_held3 (fun w' => w'.cell? ⟨w.heap.size, 0, none⟩ = some (.int .i64 x) ∧ w'.cell? ⟨w.heap.size, 1, none⟩ = some (.int .i64 y) ∧ w'.cell? ⟨b, 0, none⟩ = some (.int .i64 n1) ∧ w'.cell? ⟨b, 1, none⟩ = some (.int .i64 n2) ∧ w'.cell? ⟨b, 2, none⟩ = some (.pointer pl) ∧ w'.cell? ⟨b, 3, none⟩ = some (.pointer pr)) (first | exact St.cells (by assumption) | exact St.cells (St.drew (by assumption))) ((first | (go_at_call 79; (with_reducible refine (touch_at' n1 n2 x y true _ HT.out).mono ?_); rintro e w2 ⟨rfl, hb2⟩; have hs2 := hs.drew.later hb2)))
    replace hs := hs2
    clear hs2
    obtain ⟨k0, k1, k2, k3, k4, k5⟩ := hs.cells
    go_wp2_with (at_builtin; refine wp_oneG (p := (n1, n2)) rfl _ _ rfl rfl rfl rfl hs.own hs.below.size (by simp only [List.length_append]; omega) ?_; intro v3 w3 hown3 hgo3)
    replace hs := hs.goes hown3 hgo3
    clear k0 k1 k2 k3 k4 k5
    go_region_held3 (fun w' => w'.cell? ⟨w.heap.size, 0, none⟩ = some (.int .i64 x) ∧ w'.cell? ⟨w.heap.size, 1, none⟩ = some (.int .i64 y) ∧ w'.cell? ⟨b, 0, none⟩ = some (.int .i64 n1) ∧ w'.cell? ⟨b, 1, none⟩ = some (.int .i64 n2) ∧ w'.cell? ⟨b, 2, none⟩ = some (.pointer pl) ∧ w'.cell? ⟨b, 3, none⟩ = some (.pointer pr)) (first | exact St.cells (by assumption) | exact St.cells (St.drew (by assumption))) (fail)
    replace hs := hs.drew
    go_wp2_with fail
    go_ret
    exact ⟨_, rfl, by rw [show (Tr.node l (n1, n2) r).row = l.row ++ (n1, n2) :: r.row from rfl, HL1.out]; exact hs.own, hs.go⟩
  · have HL1 : Hid (l0 ++ tch (l.row ++ (n1, n2) :: r.row) (x, y) = l0 ++ tch l.row (x, y) ++ tch r.row (x, y)) := hide (by rw [tch_split, hc2]; simp)
    have HT := hide hc2
    have d1 : decide (x < n1) = true := decide_eq_true hc1
    have d3 : decide (n2 < y) = true := decide_eq_true hc3
    clear hc1 hc3
    clear hc2
    go_enter Try.func62, Try.ntmps62
    go_wp2_with fail
    go_region_held3 (fun w' => w'.cell? ⟨w.heap.size, 0, none⟩ = some (.int .i64 x) ∧ w'.cell? ⟨w.heap.size, 1, none⟩ = some (.int .i64 y) ∧ w'.cell? ⟨b, 0, none⟩ = some (.int .i64 n1) ∧ w'.cell? ⟨b, 1, none⟩ = some (.int .i64 n2) ∧ w'.cell? ⟨b, 2, none⟩ = some (.pointer pl) ∧ w'.cell? ⟨b, 3, none⟩ = some (.pointer pr)) (first | exact St.cells (by assumption) | exact St.cells (St.drew (by assumption))) (fail)
    replace hs := hs.drew
    go_wp2_with fail
    go_region_held3 (fun w' => w'.cell? ⟨w.heap.size, 0, none⟩ = some (.int .i64 x) ∧ w'.cell? ⟨w.heap.size, 1, none⟩ = some (.int .i64 y) ∧ w'.cell? ⟨b, 0, none⟩ = some (.int .i64 n1) ∧ w'.cell? ⟨b, 1, none⟩ = some (.int .i64 n2) ∧ w'.cell? ⟨b, 2, none⟩ = some (.pointer pl) ∧ w'.cell? ⟨b, 3, none⟩ = some (.pointer pr)) (first | exact St.cells (by assumption) | exact St.cells (St.drew (by assumption))) ((first | (go_at_call 62; (with_reducible refine (IHl.out pl x y v l0 _ HL.out hs.drew.below hs.drew.own HNL.out (by omega)).mono ?_); rintro e w1 ⟨v1, rfl, hown1, hgo1⟩; have hs1 := hs.drew.goes hown1 hgo1)))
    replace hs := hs1
    clear hs1
    go_wp2_with fail
    go_region_held3 (fun w' => w'.cell? ⟨w.heap.size, 0, none⟩ = some (.int .i64 x) ∧ w'.cell? ⟨w.heap.size, 1, none⟩ = some (.int .i64 y) ∧ w'.cell? ⟨b, 0, none⟩ = some (.int .i64 n1) ∧ w'.cell? ⟨b, 1, none⟩ = some (.int .i64 n2) ∧ w'.cell? ⟨b, 2, none⟩ = some (.pointer pl) ∧ w'.cell? ⟨b, 3, none⟩ = some (.pointer pr)) (first | exact St.cells (by assumption) | exact St.cells (St.drew (by assumption))) ((first | (go_at_call 79; (with_reducible refine (touch_at' n1 n2 x y false _ HT.out).mono ?_); rintro e w2 ⟨rfl, hb2⟩; have hs2 := hs.drew.later hb2)))
    replace hs := hs2
    clear hs2
    go_wp2_with fail
    go_region_held3 (fun w' => w'.cell? ⟨w.heap.size, 0, none⟩ = some (.int .i64 x) ∧ w'.cell? ⟨w.heap.size, 1, none⟩ = some (.int .i64 y) ∧ w'.cell? ⟨b, 0, none⟩ = some (.int .i64 n1) ∧ w'.cell? ⟨b, 1, none⟩ = some (.int .i64 n2) ∧ w'.cell? ⟨b, 2, none⟩ = some (.pointer pl) ∧ w'.cell? ⟨b, 3, none⟩ = some (.pointer pr)) (first | exact St.cells (by assumption) | exact St.cells (St.drew (by assumption))) (fail)
    replace hs := hs.drew
    go_wp2_with fail
    go_region_held3 (fun w' => w'.cell? ⟨w.heap.size, 0, none⟩ = some (.int .i64 x) ∧ w'.cell? ⟨w.heap.size, 1, none⟩ = some (.int .i64 y) ∧ w'.cell? ⟨b, 0, none⟩ = some (.int .i64 n1) ∧ w'.cell? ⟨b, 1, none⟩ = some (.int .i64 n2) ∧ w'.cell? ⟨b, 2, none⟩ = some (.pointer pl) ∧ w'.cell? ⟨b, 3, none⟩ = some (.pointer pr)) (first | exact St.cells (by assumption) | exact St.cells (St.drew (by assumption))) ((first | (go_at_call 62; (with_reducible refine (IHr.out pr x y v1 (l0 ++ tch l.row (x, y)) _ HR.out hs.drew.below hs.drew.own HNR.out (by simp only [List.length_append]; omega)).mono ?_); rintro e w4 ⟨v4, rfl, hown4, hgo4⟩; have hs4 := hs.drew.goes hown4 hgo4)))
    replace hs := hs4
    clear hs4
    go_wp2_with fail
    go_ret
    exact ⟨_, rfl, by rw [show (Tr.node l (n1, n2) r).row = l.row ++ (n1, n2) :: r.row from rfl, HL1.out]; exact hs.own, hs.go⟩
  · have HL1 : Hid (l0 ++ tch (l.row ++ (n1, n2) :: r.row) (x, y) = l0 ++ tch l.row (x, y) ++ [(n1, n2)] ++ tch r.row (x, y)) := hide (by rw [tch_split, hc2]; simp)
    have HT := hide hc2
    have d1 : decide (x < n1) = true := decide_eq_true hc1
    have d3 : decide (n2 < y) = true := decide_eq_true hc3
    clear hc1 hc3
    clear hc2
    go_enter Try.func62, Try.ntmps62
    go_wp2_with fail
    go_region_held3 (fun w' => w'.cell? ⟨w.heap.size, 0, none⟩ = some (.int .i64 x) ∧ w'.cell? ⟨w.heap.size, 1, none⟩ = some (.int .i64 y) ∧ w'.cell? ⟨b, 0, none⟩ = some (.int .i64 n1) ∧ w'.cell? ⟨b, 1, none⟩ = some (.int .i64 n2) ∧ w'.cell? ⟨b, 2, none⟩ = some (.pointer pl) ∧ w'.cell? ⟨b, 3, none⟩ = some (.pointer pr)) (first | exact St.cells (by assumption) | exact St.cells (St.drew (by assumption))) (fail)
    replace hs := hs.drew
    go_wp2_with fail
    go_region_held3 (fun w' => w'.cell? ⟨w.heap.size, 0, none⟩ = some (.int .i64 x) ∧ w'.cell? ⟨w.heap.size, 1, none⟩ = some (.int .i64 y) ∧ w'.cell? ⟨b, 0, none⟩ = some (.int .i64 n1) ∧ w'.cell? ⟨b, 1, none⟩ = some (.int .i64 n2) ∧ w'.cell? ⟨b, 2, none⟩ = some (.pointer pl) ∧ w'.cell? ⟨b, 3, none⟩ = some (.pointer pr)) (first | exact St.cells (by assumption) | exact St.cells (St.drew (by assumption))) ((first | (go_at_call 62; (with_reducible refine (IHl.out pl x y v l0 _ HL.out hs.drew.below hs.drew.own HNL.out (by omega)).mono ?_); rintro e w1 ⟨v1, rfl, hown1, hgo1⟩; have hs1 := hs.drew.goes hown1 hgo1)))
    replace hs := hs1
    clear hs1
    go_wp2_with fail
    go_region_held3 (fun w' => w'.cell? ⟨w.heap.size, 0, none⟩ = some (.int .i64 x) ∧ w'.cell? ⟨w.heap.size, 1, none⟩ = some (.int .i64 y) ∧ w'.cell? ⟨b, 0, none⟩ = some (.int .i64 n1) ∧ w'.cell? ⟨b, 1, none⟩ = some (.int .i64 n2) ∧ w'.cell? ⟨b, 2, none⟩ = some (.pointer pl) ∧ w'.cell? ⟨b, 3, none⟩ = some (.pointer pr)) (first | exact St.cells (by assumption) | exact St.cells (St.drew (by assumption))) ((first | (go_at_call 79; (with_reducible refine (touch_at' n1 n2 x y true _ HT.out).mono ?_); rintro e w2 ⟨rfl, hb2⟩; have hs2 := hs.drew.later hb2)))
    replace hs := hs2
    clear hs2
    obtain ⟨k0, k1, k2, k3, k4, k5⟩ := hs.cells
    go_wp2_with (at_builtin; refine wp_oneG (p := (n1, n2)) rfl _ _ rfl rfl rfl rfl hs.own hs.below.size (by simp only [List.length_append]; omega) ?_; intro v3 w3 hown3 hgo3)
    replace hs := hs.goes hown3 hgo3
    clear k0 k1 k2 k3 k4 k5
    go_region_held3 (fun w' => w'.cell? ⟨w.heap.size, 0, none⟩ = some (.int .i64 x) ∧ w'.cell? ⟨w.heap.size, 1, none⟩ = some (.int .i64 y) ∧ w'.cell? ⟨b, 0, none⟩ = some (.int .i64 n1) ∧ w'.cell? ⟨b, 1, none⟩ = some (.int .i64 n2) ∧ w'.cell? ⟨b, 2, none⟩ = some (.pointer pl) ∧ w'.cell? ⟨b, 3, none⟩ = some (.pointer pr)) (first | exact St.cells (by assumption) | exact St.cells (St.drew (by assumption))) (fail)
    replace hs := hs.drew
    go_wp2_with fail
    go_region_held3 (fun w' => w'.cell? ⟨w.heap.size, 0, none⟩ = some (.int .i64 x) ∧ w'.cell? ⟨w.heap.size, 1, none⟩ = some (.int .i64 y) ∧ w'.cell? ⟨b, 0, none⟩ = some (.int .i64 n1) ∧ w'.cell? ⟨b, 1, none⟩ = some (.int .i64 n2) ∧ w'.cell? ⟨b, 2, none⟩ = some (.pointer pl) ∧ w'.cell? ⟨b, 3, none⟩ = some (.pointer pr)) (first | exact St.cells (by assumption) | exact St.cells (St.drew (by assumption))) ((first | (go_at_call 62; (with_reducible refine (IHr.out pr x y v3 ((l0 ++ tch l.row (x, y)) ++ [(n1, n2)]) _ HR.out hs.drew.below hs.drew.own HNR.out (by simp only [List.length_append, List.length_singleton]; omega)).mono ?_); rintro e w4 ⟨v4, rfl, hown4, hgo4⟩; have hs4 := hs.drew.goes hown4 hgo4)))
    replace hs := hs4
    clear hs4
    go_wp2_with fail
    go_ret
    exact ⟨_, rfl, by rw [show (Tr.node l (n1, n2) r).row = l.row ++ (n1, n2) :: r.row from rfl, HL1.out]; exact hs.own, hs.go⟩
end Go.Proofs.Ytphojcnehgdbmaa.S2
namespace Go.Proofs.Ytphojcnehgdbmaa.S2
open Go.RowKit Spn Go.Sort

theorem Goes.all {v : Value} {w w' : World} (h : Goes (.slice none 0 0) w v w') : Below w.heap.size w w' := ⟨h.grown.os, h.grown.tape, h.grown.output, h.grown.size, fun k hk => h.grown.block k hk (by simp [Value.ownBlock])⟩
theorem own_nil (w : World) (B : Nat) : Own w B (.slice none 0 0) [] := World.ownsRow_nil _ _ _ _
/-- at block g lies a set of this neat row. -/
def SetAt (w : World) (g : Nat) (l : List Sp) : Prop := ∃ p t, w.heap[g]? = some (.cells #[.pointer p] 69 (0, 0)) ∧ Tree w p t ∧ t.row = l ∧ t.Bal ∧ Neat l
theorem SetAt.lt {w : World} {g : Nat} {l : List Sp} (h : SetAt w g l) : g < w.heap.size := by
  obtain ⟨p, t, h, _⟩ := h
  exact (Array.getElem?_eq_some_iff.1 h).1
theorem SetAt.neat {w : World} {g : Nat} {l : List Sp} (h : SetAt w g l) : Neat l := by
  obtain ⟨p, t, _, _, _, _, h⟩ := h
  exact h
theorem SetAt.keep {w w1 : World} {g : Nat} {l : List Sp} (h : SetAt w g l) (hb : Below w.heap.size w w1) : SetAt w1 g l := by
  have hlt := h.lt
  obtain ⟨p, t, h0, h1, h2⟩ := h
  exact ⟨p, t, (hb.block g hlt).trans h0, h1.keep hb, h2⟩
theorem SetAt.root {w : World} {g : Nat} {l : List Sp} (h : SetAt w g l) : ∃ p t, w.cell? ⟨g, 0, none⟩ = some (.pointer p) ∧ Tree w p t ∧ t.row = l ∧ t.Bal := by
  obtain ⟨p, t, h0, h1, h2, h3, _⟩ := h
  exact ⟨p, t, by rw [cell_of_row w g 0 _ _ _ h0]; rfl, h1, h2, h3⟩

set_option maxRecDepth 100000 in
set_option maxHeartbeats 1600000 in
theorem touch_row (g : Nat) (l : List Sp) (x y : Int) (w : World) (h : SetAt w g l) (hlen : l.length ≤ 800000) :
    Calls Try.prog 43 #[.pointer (some ⟨g, 0, none⟩), .agg #[.int .i64 x, .int .i64 y]] w (Gives w (tch l (x, y))) := by
  have hn := h.neat
  obtain ⟨p, t, c0, ht, hrow, hbal⟩ := h.root
  have hbx := more (start w) (.cells #[.int .i64 x, .int .i64 y] 52)
  have HS : (w.alloc (.cells #[.int .i64 x, .int .i64 y] 52)).cell? ⟨w.heap.size, 0, none⟩ = some (.int .i64 x) ∧ (w.alloc (.cells #[.int .i64 x, .int .i64 y] 52)).cell? ⟨w.heap.size, 1, none⟩ = some (.int .i64 y) ∧ (w.alloc (.cells #[.int .i64 x, .int .i64 y] 52)).cell? ⟨g, 0, none⟩ = some (.pointer p) :=
    ⟨by rw [World.cell?_alloc_at _ _ _ _ rfl]; rfl, by rw [World.cell?_alloc_at _ _ _ _ rfl]; rfl, cell_keep hbx c0⟩
  have HT := hide ht
  have HR := hide hrow
  have HN := hide hn
  have HLEN := hide hlen
  clear h c0 ht hrow hn hbal hlen
  go_enter Try.func43, Try.ntmps43
  go_wp2_with fail
  go_region_held3 (fun w' => w'.cell? ⟨w.heap.size, 0, none⟩ = some (.int .i64 x) ∧ w'.cell? ⟨w.heap.size, 1, none⟩ = some (.int .i64 y) ∧ w'.cell? ⟨g, 0, none⟩ = some (.pointer p)) (first | exact keep3 (by assumption) (by assumption) | exact keep3 (start _).drew (by assumption)) ((first
    | (go_at_call 62; (with_reducible refine (touching_any w t p x y (.slice none 0 0) [] _ HT.out hbx.drew (own_nil _ _) (by rw [HR.out]; exact HN.out) (by rw [HR.out]; have := HLEN.out; simp; omega)).mono ?_); rintro e w2 ⟨v2, rfl, hown2, hgo2⟩; have hb2 := hgo2.to (own_nil _ _) hbx.drew; have hbd := hgo2.all)))
  go_wp2_with fail
  go_ret
  exact ⟨_, rfl, by rw [HR.out] at hown2; exact hown2, hb2⟩

set_option maxHeartbeats 400000 in
theorem setAll_any (g : Nat) (l : List Sp) (w : World) (h : SetAt w g l) (hlen : l.length ≤ 800000) :
    Calls Try.prog 51 #[.pointer (some ⟨g, 0, none⟩)] w (Gives w l) := by
  have HW := hide (tch_whole l h.neat)
  have H := hide h
  have HLEN := hide hlen
  clear h hlen
  go_enter Try.func51, Try.ntmps51
  go_wp2_with fail
  refine (touch_row g l 0 52596000 _ H.out HLEN.out).mono ?_
  rintro e w1 ⟨v, rfl, hown, hb⟩
  go_wp2_with fail
  go_ret
  exact ⟨_, rfl, by rw [HW.out] at hown; exact hown, hb⟩

theorem sum_node (l r : Tr) (a : Sp) : sumL (Tr.node l a r).row = sumL l.row + long a + sumL r.row := by
  show sumL (l.row ++ a :: r.row) = _
  rw [sumL_append]
  show sumL l.row + (long a + sumL r.row) = _
  omega
theorem Calls.regrown_same {P : Program} {f : FuncId} {args : Array Value} {w : World} {d : Nat} {os : Array Obj} {v : Value}
    (h : Calls P f args (grow (redrawn w d) os) fun e w' => e = .returned v ∧ w' = grow (redrawn w d) os) : Calls P f args (grow (redrawn w d) os) fun e w'' => e = .returned v ∧ ∃ p : Regrown, w'' = grow (redrawn w p.d) p.os :=
  h.mono fun _ _ ⟨he, hb⟩ => ⟨he, ⟨⟨d, os⟩, hb⟩⟩

end Go.Proofs.Ytphojcnehgdbmaa.S2

/- TpRE; TpRF of the recipes, what is needed of them. -/
import Derived.StillTailTactics
import Derived.Test.YtlmdceeeahnkcaaGreatDoorBS4
import Derived.Test.YtlmdceeeahnkcaaGreatDoorBS3
namespace Go.Proofs.YtlmdceeeahnkcaaGreatDoor.S2.R
open Go.RowKit Spn Go.Sort

/-- a call hands back a row of the caller's own and leaves all else. -/
def Hands (W : World) (B : Nat) (l : List Sp) (e : Ending) (w : World) : Prop := ∃ v, e = .returned v ∧ Own w B v l ∧ Below W.heap.size W w
/-- two spans more behind a call's own row, at a step of a region that draws. -/
theorem step_two {ops : Array Oper} {o : Oper} {a : Act} {K : Act → World → Prop} {Q : Exit → Act → World → Prop} {E : Prop} {w : World} {B : Nat} {v : Value} {l : List Sp} {p q : Sp} (hgd : o.guard = none) (s x : Operand)
    (ho : o.op = .call { callee := .builtin .append, args := #[s, x], argTypes := #[113, 113] }) (hs : a.eval s = v) {N : Nat} (hN : w.heap.size = N) (hx : a.eval x = .slice (some ⟨N, 0, none⟩) 2 2)
    (hown : Own w B v l) (hB : B ≤ w.heap.size) (hn : l.length ≤ 1000000)
    (h : ∀ v' w', Own w' B v' (l ++ [p, q]) → Below B w w' → K (a.put o.dst v') w') :
    if Region.wanted o (yielded ops a.tmps) = true then Oper.wp Tryz.prog o a (w.alloc (.cells #[.int .i64 p.1, .int .i64 p.2, .int .i64 q.1, .int .i64 q.2] 50)).drew K Q else E := by
  have hw : Region.wanted o (yielded ops a.tmps) = true := by simp [Region.wanted, hgd]
  rw [if_pos hw]
  subst hN
  obtain ⟨i0, hi, hz0, hz1, hz2⟩ := info_parts span_info
  refine wp_append_own _ s x 113 ho B 50 i0 _ 2 16 Tryz.underlying113 hi hz0 hz1 hz2 rfl (by decide) v l.length (cellsL l) hs (Own.drew (hown.alloc _)) ⟨w.heap.size, 0, none⟩ 2 2 [.int .i64 p.1, .int .i64 p.2, .int .i64 q.1, .int .i64 q.2] hx rfl ?_ ?_ ?_ ?_ ?_ ?_
  · intro j u hu
    rw [plus, World.cell?_drew, World.cell?_alloc_at _ _ _ _ rfl]
    exact (by simpa using hu)
  · intro u hu
    simp only [List.mem_cons, List.not_mem_nil, or_false] at hu
    rcases hu with rfl | rfl | rfl | rfl <;> rfl
  · unfold maxLen; omega
  · omega
  · show B ≤ (w.alloc _).heap.size
    simp only [World.size_alloc]; omega
  · intro v' w' h2 h3 _
    refine h v' w' (by rw [Own, cellsL_append, List.length_append]; exact h2) ((((Below.refl B w).alloc hB _).drew).grown h3 (by show B ≤ (w.alloc _).heap.size; simp only [World.size_alloc]; omega) fun j hj => (hown.lt j hj).1)

/-- how far Add has come. -/
def Far (l : List Sp) (R : List Sp) (k : Nat) (x : Sp) (out : List Sp) (dn : Bool) : Prop :=
  (dn = false ∧ out ++ addL (l.drop k) x = R) ∨ (dn = true ∧ out ++ l.drop k = R ∧ ∀ b, b ∈ l.drop k → x.2 < b.1)
theorem far_join {l R : List Sp} {k : Nat} {x : Sp} {out : List Sp} {b : Bool} (h : Far l R k x out b) (hk : k < l.length) (ht : Tch l[k] x) : b = false ∧ Far l R (k + 1) (min l[k].1 x.1, max l[k].2 x.2) out false := by
  rcases h with ⟨hb, h⟩ | ⟨_, _, h⟩
  · refine ⟨hb, ?_⟩
    refine Or.inl ⟨rfl, ?_⟩
    rw [List.drop_eq_getElem_cons hk, addL, if_pos ht] at h
    exact h
  · exact absurd ht (fun hc => by have := hc.2.2.1; have := h l[k] (by rw [List.drop_eq_getElem_cons hk]; exact List.mem_cons_self); omega)
theorem far_turn {l R : List Sp} {k : Nat} {x : Sp} {out : List Sp} (h : Far l R k x out false) (hk : k < l.length) (hl : Neat l) (ht : ¬ Tch l[k] x) (hx : x.2 < l[k].1) : Far l R (k + 1) x (out ++ [x, l[k]]) true := by
  rcases h with ⟨_, h⟩ | ⟨h, _⟩
  · have e := List.drop_eq_getElem_cons hk
    have hd : Neat (l.drop k) := neat_right (l.take k) _ (by rw [List.take_append_drop]; exact hl)
    rw [e] at hd h
    rw [addL, if_neg ht, if_pos hx] at h
    refine Or.inr ⟨rfl, by rw [List.append_assoc]; exact h, fun b hb => ?_⟩
    have h1 := hd.2.1 b hb
    have h2 := hd.1
    unfold Spn.Ok at h2
    omega
  · cases h
theorem far_pass {l R : List Sp} {k : Nat} {x : Sp} {out : List Sp} (h : Far l R k x out false) (hk : k < l.length) (ht : ¬ Tch l[k] x) (hx : ¬ x.2 < l[k].1) : Far l R (k + 1) x (out ++ [l[k]]) false := by
  rcases h with ⟨_, h⟩ | ⟨h, _⟩
  · rw [List.drop_eq_getElem_cons hk, addL, if_neg ht, if_neg hx] at h
    exact Or.inl ⟨rfl, by rw [List.append_assoc]; exact h⟩
  · cases h
theorem far_past {l R : List Sp} {k : Nat} {x : Sp} {out : List Sp} (h : Far l R k x out true) (hk : k < l.length) : x.2 < l[k].1 ∧ Far l R (k + 1) x (out ++ [l[k]]) true := by
  rcases h with ⟨h, _⟩ | ⟨_, h, hb⟩
  · cases h
  · rw [List.drop_eq_getElem_cons hk] at h hb
    exact ⟨hb _ List.mem_cons_self, Or.inr ⟨rfl, by rw [List.append_assoc]; exact h, fun b h1 => hb b (List.mem_cons_of_mem _ h1)⟩⟩
theorem far_end {l R : List Sp} {x : Sp} {out : List Sp} (h : Far l R l.length x out false) : out ++ [x] = R := by
  rcases h with ⟨_, h⟩ | ⟨h, _⟩
  · rw [List.drop_length] at h; exact h
  · cases h
theorem far_end2 {l R : List Sp} {x : Sp} {out : List Sp} (h : Far l R l.length x out true) : out = R := by
  rcases h with ⟨h, _⟩ | ⟨_, h, _⟩
  · cases h
  · rw [List.drop_length, List.append_nil] at h; exact h
theorem set2 {w : World} {X : Nat} {a b c d : Value} (h0 : w.cell? ⟨X, 0, none⟩ = some a) (h1 : w.cell? ⟨X, 1, none⟩ = some b) :
    ((w.setCell ⟨X, 0, none⟩ c).setCell ⟨X, 1, none⟩ d).drew.cell? ⟨X, 0, none⟩ = some c ∧ ((w.setCell ⟨X, 0, none⟩ c).setCell ⟨X, 1, none⟩ d).drew.cell? ⟨X, 1, none⟩ = some d := by
  rw [World.cell?_drew, World.cell?_drew]
  refine ⟨?_, ?_⟩
  · rw [World.cell?_setCell_other _ _ _ _ (by simp)]
    exact World.cell?_setCell_same _ _ _ h0
  · exact World.cell?_setCell_same _ _ _ ((World.cell?_setCell_other _ _ _ _ (by simp)).trans h1)
theorem apart {b x : Sp} (h : x.2 < b.1) : ¬ Tch b x := fun hc => by have := hc.2.2.1; omega

theorem add_no (B : Nat) (v : Value) (l : List Sp) (f t : Int) (w : World) (hown : Own w B v l) (hok : okB (f, t) = false) :
    Calls Tryz.prog 97 #[v, .agg #[.int .i64 f, .int .i64 t]] w (Hands w B l) := by
  have H1 := hide hok
  have HO := hide hown
  clear hok hown
  go_enter Tryz.func97, Tryz.ntmps97
  go_wp2_with fail
  refine (is_at _ _ false _ H1.out).mono ?_
  rintro e w1 ⟨rfl, hb1⟩
  have hbb := andthen (more (start _) _) hb1
  go_wp2_with fail
  go_ret
  exact ⟨v, rfl, Own.keep HO.out hbb, hbb⟩

set_option maxRecDepth 100000 in
set_option maxHeartbeats 2000000 in
theorem add_yes (B b0 off c : Nat) (l : List Sp) (f t : Int) (w : World) (hB : B ≤ w.heap.size) (hb0 : b0 < w.heap.size)
    (hcl : ∀ i (h : i < l.length), w.cell? ⟨b0, off + i * 2, none⟩ = some (.int .i64 l[i].1) ∧ w.cell? ⟨b0, off + i * 2 + 1, none⟩ = some (.int .i64 l[i].2))
    (hneat : Neat l) (hn : l.length + 2 ≤ 1000000) (hok : okB (f, t) = true) :
    Calls Tryz.prog 97 #[.slice (some ⟨b0, off, none⟩) l.length c, .agg #[.int .i64 f, .int .i64 t]] w (Hands w B (addL l (f, t))) := by
  have H1 := hide hok
  have HC := hide hcl
  have HN := hide hneat
  clear hok hcl hneat
  go_enter Tryz.func97, Tryz.ntmps97
  go_wp2_with fail
  refine (is_at _ _ true _ H1.out).mono ?_
  rintro e w1 ⟨rfl, hb1⟩
  obtain ⟨hc, hf⟩ := old hb1
  have z0 : w.heap.size < w1.heap.size := by have := hb1.size; simp only [World.size_alloc] at this; omega
  go_wp2_with fail
  have hbW : Below w.heap.size w (w1.alloc (.cells #[.int .i64 f, .int .i64 t] 50)) := more (andthen (more (start _) _) hb1) _
  have hX1 : (w1.alloc (.cells #[.int .i64 f, .int .i64 t] 50)).cell? ⟨w1.heap.size, 0, none⟩ = some (.int .i64 f) := by rw [World.cell?_alloc_at _ _ _ _ rfl]; rfl
  have hX2 : (w1.alloc (.cells #[.int .i64 f, .int .i64 t] 50)).cell? ⟨w1.heap.size, 1, none⟩ = some (.int .i64 t) := by rw [World.cell?_alloc_at _ _ _ _ rfl]; rfl
  have hX3 : ∀ i, (w1.alloc (.cells #[.int .i64 f, .int .i64 t] 50)).frozen? ⟨w1.heap.size, i, none⟩ = false := fun i => World.frozen?_alloc_at _ _ _ _ rfl
  have hXs : w1.heap.size < (w1.alloc (.cells #[.int .i64 f, .int .i64 t] 50)).heap.size := by simp
  clear hc hf
  generalize w1.alloc (.cells #[.int .i64 f, .int .i64 t] 50) = W at *
  generalize w1.heap.size = X at *
  have hXX := hide (And.intro hX1 (And.intro hX2 hX3))
  clear hX1 hX2 hX3 hb1
  obtain ⟨R, hR⟩ : ∃ R, addL l (f, t) = R := ⟨_, rfl⟩
  have hFar : Far l R 0 (f, t) [] false := Or.inl ⟨rfl, by rw [← hR]; rfl⟩
  have hXw : w.heap.size ≤ X := by omega
  have HR := hide hR
  clear hR z0
  go_loopw [5, 7, 8] (fun vo dn i wr => ∃ (k : Nat) (x : Sp) (out : List Sp) (b : Bool), k ≤ l.length ∧ i = .int .i64 k ∧ dn = .bool b ∧ Own wr (X + 1) vo out ∧ out.length ≤ k + b.toNat ∧
      wr.cell? ⟨X, 0, none⟩ = some (.int .i64 x.1) ∧ wr.cell? ⟨X, 1, none⟩ = some (.int .i64 x.2) ∧ (∀ i, wr.frozen? ⟨X, i, none⟩ = false) ∧ X < wr.heap.size ∧ Hid (Far l R k x out b) ∧ Below w.heap.size w wr) (fun _ _ i _ => l.length - (intOf i).toNat)
  case atStart => exact ⟨0, (f, t), [], false, Nat.zero_le _, rfl, rfl, World.ownsRow_nil _ _ _ _, Nat.zero_le _, hXX.out.1, hXX.out.2.1, hXX.out.2.2, hXs, hFar, hbW⟩
  case round =>
    obtain ⟨k, x, out, b, hk, rfl, rfl, hown, hol, x1, x2, x3, xs, HF, hbw⟩ := hrel
    by_cases hlt : k < l.length
    · obtain ⟨c1, c2⟩ := HC.out k hlt
      have p1 : wr.cell? ⟨b0, off + k * 2, none⟩ = some (.int .i64 l[k].1) := (hbw.cell (p := ⟨b0, _, none⟩) hb0).trans c1
      have p2 : wr.cell? ⟨b0, off + k * 2 + 1, none⟩ = some (.int .i64 l[k].2) := (hbw.cell (p := ⟨b0, _, none⟩) hb0).trans c2
      clear c1 c2
      have f1 : ∀ d os, (grow (redrawn wr d) os).cell? ⟨b0, off + k * 2, none⟩ = some (.int .i64 l[k].1) := fun d os => cell_regrown p1 d os
      have f2 : ∀ d os, (grow (redrawn wr d) os).cell? ⟨b0, off + k * 2 + 1, none⟩ = some (.int .i64 l[k].2) := fun d os => cell_regrown p2 d os
      have f3 : ∀ d os, (grow (redrawn wr d) os).cell? ⟨X, 0, none⟩ = some (.int .i64 x.1) := fun d os => cell_regrown x1 d os
      have f4 : ∀ d os, (grow (redrawn wr d) os).cell? ⟨X, 1, none⟩ = some (.int .i64 x.2) := fun d os => cell_regrown x2 d os
      have hi0 : (0 : Int) ≤ (k : Int) := by omega
      have hi1 : (k : Int) < (l.length : Int) := by omega
      go_wp2_with fail
      refine wp_region_quiet_below (by kernel_rfl) (by kernel_rfl) ?_
      repeat (first | go_big_quiet_step ((go_at_call 125; exact Calls.regrown_of (touch_any _ _ _ _ _))) | quiet_step ((go_at_call 125; exact Calls.regrown_of (touch_any _ _ _ _ _))))
      refine wpQuiet_nil ?_
      intro _ hw'
      obtain ⟨⟨nq, osq⟩, hw''⟩ := hw'
      subst hw''
      have hbb : Below wr.heap.size wr (grow (redrawn wr nq) osq) := below_regrown wr nq osq
      have e1 := f1 nq osq
      have e2 := f2 nq osq
      have e3 := f3 nq osq
      have e4 := f4 nq osq
      have e5 : ∀ i, (grow (redrawn wr nq) osq).frozen? ⟨X, i, none⟩ = false := fun i => (hbb.frozen (p := ⟨X, i, none⟩) xs).trans (x3 i)
      have hown2 := Own.keep hown hbb
      have xs2 := Nat.lt_of_lt_of_le xs hbb.size
      have hbw2 := hbw.trans (hbb.mono hbw.size)
      clear f1 f2 f3 f4 p1 p2 x1 x2 x3 hbb
      generalize grow (redrawn wr nq) osq = W2 at *
      have hle : X + 1 ≤ W2.heap.size := xs2
      generalize hT : touchB (l[k].1, l[k].2) (x.1, x.2) = tb
      cases tb
      · have hNT : Hid (¬ Tch l[k] x) := fun hc => by
          rw [show touchB (l[k].1, l[k].2) (x.1, x.2) = true from decide_eq_true hc] at hT
          cases hT
        clear hT
        by_cases hx : x.2 < l[k].1
        · cases b
          · have hol0 : out.length ≤ k := hol
            have HF2 := hide (far_turn HF.out hlt HN.out hNT.out hx)
            go_wp2_with fail
            go_quiet (fail)
            go_wp2_with fail
            have hown3 : Own (W2.drewN nq) (X + 1) u5 out := hown2
            have e6 : (W2.drewN nq).cell? ⟨b0, off + k * 2, none⟩ = some (.int .i64 l[k].1) := e1
            have e7 : (W2.drewN nq).cell? ⟨b0, off + k * 2 + 1, none⟩ = some (.int .i64 l[k].2) := e2
            have e8 : (W2.drewN nq).cell? ⟨X, 0, none⟩ = some (.int .i64 x.1) := e3
            have e9 : (W2.drewN nq).cell? ⟨X, 1, none⟩ = some (.int .i64 x.2) := e4
            have e10 : ∀ i, (W2.drewN nq).frozen? ⟨X, i, none⟩ = false := e5
            have hle3 : X + 1 ≤ (W2.drewN nq).heap.size := hle
            have hbw3 : Below w.heap.size w (W2.drewN nq) := below_drawn hbw2 nq
            clear e1 e2 e3 e4 e5 hbw2 hown2 hle xs2
            generalize W2.drewN nq = V at *
            have hq0 : b0 < X + 1 := by omega
            have hq1 : X < X + 1 := by omega
            go_region_held3 (fun w' => w'.cell? ⟨b0, off + k * 2, none⟩ = some (.int .i64 l[k].1) ∧ w'.cell? ⟨b0, off + k * 2 + 1, none⟩ = some (.int .i64 l[k].2) ∧ w'.cell? ⟨X, 0, none⟩ = some (.int .i64 x.1) ∧ w'.cell? ⟨X, 1, none⟩ = some (.int .i64 x.2))
              (first
                | go_keep
                | (exact ⟨(hbw4.cell (p := ⟨b0, _, none⟩) hq0).trans e6, (hbw4.cell (p := ⟨b0, _, none⟩) hq0).trans e7, (hbw4.cell (p := ⟨X, _, none⟩) hq1).trans e8, (hbw4.cell (p := ⟨X, _, none⟩) hq1).trans e9⟩))
              ((refine step_two (w := V) (l := out) (p := x) (q := l[k]) (by rfl) _ _ (by rfl) (by rfl) rfl (by rfl) hown3 hle3 (by omega) ?_; intro v4 w4 hown4 hbw4))
            go_wp2_with fail
            go_roundw
            case rel => exact ⟨k + 1, x, out ++ [x, l[k]], true, by omega, by go_num, rfl, hown4, by simp; omega, (hbw4.cell (p := ⟨X, _, none⟩) hq1).trans e8, (hbw4.cell (p := ⟨X, _, none⟩) hq1).trans e9, fun i => (hbw4.frozen (p := ⟨X, i, none⟩) hq1).trans (e10 i), Nat.lt_of_lt_of_le hle3 hbw4.size, HF2, hbw3.trans (hbw4.mono (by omega))⟩
            case measure => simp [intOf]; omega
          · have hol0 : out.length ≤ k + 1 := hol
            have HF2 := hide (far_past HF.out hlt).2
            go_wp2_with fail
            go_quiet (fail)
            have hown3 : Own (W2.drewN nq) (X + 1) u5 out := hown2
            have e6 : (W2.drewN nq).cell? ⟨b0, off + k * 2, none⟩ = some (.int .i64 l[k].1) := e1
            have e7 : (W2.drewN nq).cell? ⟨b0, off + k * 2 + 1, none⟩ = some (.int .i64 l[k].2) := e2
            have e8 : (W2.drewN nq).cell? ⟨X, 0, none⟩ = some (.int .i64 x.1) := e3
            have e9 : (W2.drewN nq).cell? ⟨X, 1, none⟩ = some (.int .i64 x.2) := e4
            have e10 : ∀ i, (W2.drewN nq).frozen? ⟨X, i, none⟩ = false := e5
            have hle3 : X + 1 ≤ (W2.drewN nq).heap.size := hle
            have hbw3 : Below w.heap.size w (W2.drewN nq) := below_drawn hbw2 nq
            clear e1 e2 e3 e4 e5 hbw2 hown2 hle xs2
            generalize W2.drewN nq = V at *
            have hq0 : b0 < X + 1 := by omega
            have hq1 : X < X + 1 := by omega
            go_wp2_with (at_builtin; refine wp_one (w := V) (l := out) (p := l[k]) rfl _ _ rfl rfl rfl rfl hown3 hle3 (by omega) ?_; intro v4 w4 hown4 hbw4)
            go_roundw
            case rel => exact ⟨k + 1, x, out ++ [l[k]], true, by omega, by go_num, rfl, hown4, by simp; omega, (hbw4.cell (p := ⟨X, _, none⟩) hq1).trans e8, (hbw4.cell (p := ⟨X, _, none⟩) hq1).trans e9, fun i => (hbw4.frozen (p := ⟨X, i, none⟩) hq1).trans (e10 i), Nat.lt_of_lt_of_le hle3 hbw4.size, HF2, hbw3.trans (hbw4.mono (by omega))⟩
            case measure => simp [intOf]; omega
        · cases b
          · have hol0 : out.length ≤ k := hol
            have hxd : decide (x.2 < l[k].1) = false := by simpa using hx
            have HF2 := hide (far_pass HF.out hlt hNT.out hx)
            go_wp2_with fail
            go_quiet (fail)
            have hown3 : Own (W2.drewN nq) (X + 1) u5 out := hown2
            have e6 : (W2.drewN nq).cell? ⟨b0, off + k * 2, none⟩ = some (.int .i64 l[k].1) := e1
            have e7 : (W2.drewN nq).cell? ⟨b0, off + k * 2 + 1, none⟩ = some (.int .i64 l[k].2) := e2
            have e8 : (W2.drewN nq).cell? ⟨X, 0, none⟩ = some (.int .i64 x.1) := e3
            have e9 : (W2.drewN nq).cell? ⟨X, 1, none⟩ = some (.int .i64 x.2) := e4
            have e10 : ∀ i, (W2.drewN nq).frozen? ⟨X, i, none⟩ = false := e5
            have hle3 : X + 1 ≤ (W2.drewN nq).heap.size := hle
            have hbw3 : Below w.heap.size w (W2.drewN nq) := below_drawn hbw2 nq
            clear e1 e2 e3 e4 e5 hbw2 hown2 hle xs2
            generalize W2.drewN nq = V at *
            have hq0 : b0 < X + 1 := by omega
            have hq1 : X < X + 1 := by omega
            go_wp2_with (at_builtin; refine wp_one (w := V) (l := out) (p := l[k]) rfl _ _ rfl rfl rfl rfl hown3 hle3 (by omega) ?_; intro v4 w4 hown4 hbw4)
            go_roundw
            case rel => exact ⟨k + 1, x, out ++ [l[k]], false, by omega, by go_num, rfl, hown4, by simp; omega, (hbw4.cell (p := ⟨X, _, none⟩) hq1).trans e8, (hbw4.cell (p := ⟨X, _, none⟩) hq1).trans e9, fun i => (hbw4.frozen (p := ⟨X, i, none⟩) hq1).trans (e10 i), Nat.lt_of_lt_of_le hle3 hbw4.size, HF2, hbw3.trans (hbw4.mono (by omega))⟩
            case measure => simp [intOf]; omega
          · exact absurd (far_past HF.out hlt).1 hx
      · have HJ := far_join HF.out hlt (of_decide_eq_true hT)
        obtain ⟨rfl, hJ⟩ := HJ
        have HF2 := hide hJ
        clear hT hJ
        have hol0 : out.length ≤ k := hol
        have hq1 : X < X + 1 := by omega
        have xs5 : ∀ u u', X < ((W2.setCell ⟨X, 0, none⟩ u).setCell ⟨X, 1, none⟩ u').drew.heap.size := fun u u' => by simpa using xs2
        go_wp2_with fail
        go_region
        all_goals
          go_wp2_with fail
          go_roundw
          case rel => exact ⟨k + 1, (min l[k].1 x.1, max l[k].2 x.2), out, false, by omega, by go_num, rfl, Own.drew (ownsRow_setCell_below (ownsRow_setCell_below hown2 hq1 _) hq1 _), by simp; omega, (set2 e3 e4).1, (set2 e3 e4).2,
            fun i => (World.frozen?_setCell _ _ _ _).trans ((World.frozen?_setCell _ _ _ _).trans (e5 i)), xs5 _ _, HF2, ((hbw2.setCell hXw _).setCell hXw _).drew⟩
          case measure => simp [intOf]; omega
    · obtain rfl : k = l.length := by omega
      cases b
      · have hol0 : out.length ≤ l.length := hol
        have HE := hide (far_end HF.out)
        have hXl : X + 1 ≤ wr.heap.size := xs
        go_wp2_with (at_builtin; refine wp_one (w := wr) (l := out) (p := x) rfl _ _ rfl rfl rfl rfl hown hXl (by omega) ?_; intro v4 w4 hown4 hbw4)
        go_ret
        rw [HE.out] at hown4
        exact ⟨_, rfl, by rw [HR.out]; exact hown4.low (by omega), hbw.trans (hbw4.mono (by omega))⟩
      · have HE := hide (far_end2 HF.out)
        go_wp2_with fail
        go_ret
        rw [HE.out] at hown
        exact ⟨_, rfl, by rw [HR.out]; exact hown.low (by omega), hbw⟩

end Go.Proofs.YtlmdceeeahnkcaaGreatDoor.S2.R
namespace Go.Proofs.YtlmdceeeahnkcaaGreatDoor.S2.R
open Go.RowKit Spn Go.Sort

set_option maxRecDepth 100000 in
set_option maxHeartbeats 1000000 in
theorem add_nil (B : Nat) (A : Option Addr) (c : Nat) (f t : Int) (w : World) (hB : B ≤ w.heap.size) (hok : okB (f, t) = true) :
    Calls Tryz.prog 97 #[.slice A 0 c, .agg #[.int .i64 f, .int .i64 t]] w (Hands w B [(f, t)]) := by
  have H1 := hide hok
  clear hok
  go_enter Tryz.func97, Tryz.ntmps97
  go_wp2_with fail
  refine (is_at _ _ true _ H1.out).mono ?_
  rintro e w1 ⟨rfl, hb1⟩
  obtain ⟨hc, hf⟩ := old hb1
  have z0 : w.heap.size < w1.heap.size := by have := hb1.size; simp only [World.size_alloc] at this; omega
  go_wp2_with fail
  have hbW : Below w.heap.size w (w1.alloc (.cells #[.int .i64 f, .int .i64 t] 50)) := more (andthen (more (start _) _) hb1) _
  have hX1 : (w1.alloc (.cells #[.int .i64 f, .int .i64 t] 50)).cell? ⟨w1.heap.size, 0, none⟩ = some (.int .i64 f) := by rw [World.cell?_alloc_at _ _ _ _ rfl]; rfl
  have hX2 : (w1.alloc (.cells #[.int .i64 f, .int .i64 t] 50)).cell? ⟨w1.heap.size, 1, none⟩ = some (.int .i64 t) := by rw [World.cell?_alloc_at _ _ _ _ rfl]; rfl
  clear hc hf
  generalize w1.alloc (.cells #[.int .i64 f, .int .i64 t] 50) = W at *
  generalize w1.heap.size = X at *
  clear hb1
  refine wp_loop_rounds 1 ?_
  rw [rounds_succ]
  go_wp2_with (at_builtin; refine wp_one (w := W) (l := []) (p := (f, t)) rfl _ _ rfl rfl rfl rfl (World.ownsRow_nil W W.heap.size 50 2) (Nat.le_refl _) (by simp) ?_; intro v4 w4 hown4 hbw4)
  go_ret
  exact ⟨_, rfl, Own.low hown4 (Nat.le_trans hB hbW.size), andthen hbW hbw4⟩
theorem add_any (B : Nat) (v : Value) (l : List Sp) (f t : Int) (w : World) (hown : Own w B v l) (hB : B ≤ w.heap.size) (hneat : Neat l) (hn : l.length + 2 ≤ 1000000) :
    Calls Tryz.prog 97 #[v, .agg #[.int .i64 f, .int .i64 t]] w (Hands w B (addR l (f, t))) := by
  cases hok : okB (f, t)
  · have e : addR l (f, t) = l := by unfold addR; rw [if_neg]; rw [okB_not] at hok; exact hok
    rw [e]; exact add_no B v l f t w hown hok
  · have e : addR l (f, t) = addL l (f, t) := by unfold addR; rw [if_pos]; rw [okB_iff] at hok; exact hok
    rw [e]
    obtain ⟨A, c, rfl, hrow⟩ := Own.row hown
    by_cases hl : l = []
    · subst hl; exact add_nil B A c f t w hB hok
    · obtain ⟨b, off, rfl, hb, hc⟩ := hrow hl
      exact add_yes B b off c l f t w hB hb hc hneat hn hok

end Go.Proofs.YtlmdceeeahnkcaaGreatDoor.S2.R

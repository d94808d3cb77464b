/- TnA; TnB; TnC of the recipes, what is needed of them. -/
import Derived.Lib.QuietBelow
import Derived.StillTailTactics
import Derived.RegionTactic
import Derived.Deep.RegionHeld3
import Derived.IntWalk
import Derived.Test.YtphojcnehgdbmaaBM1
import Derived.Test.YtphojcnehgdbmaaBS2
namespace Go.Proofs.Ytphojcnehgdbmaa.S2
open Go.RowKit Spn

/-- a node in memory. -/
structure Node (w : World) (b : Nat) (a : Sp) (pl pr : Option Addr) (d : Nat) : Prop where
  lt : b < w.heap.size
  c0 : w.cell? ⟨b, 0, none⟩ = some (.int .i64 a.1)
  c1 : w.cell? ⟨b, 1, none⟩ = some (.int .i64 a.2)
  c2 : w.cell? ⟨b, 2, none⟩ = some (.pointer pl)
  c3 : w.cell? ⟨b, 3, none⟩ = some (.pointer pr)
  c4 : w.cell? ⟨b, 4, none⟩ = some (.int .i64 (d : Int))
theorem Node.keep {w w1 : World} {b : Nat} {a : Sp} {pl pr : Option Addr} {d : Nat} (h : Node w b a pl pr d) (hb : Below w.heap.size w w1) : Node w1 b a pl pr d :=
  ⟨Nat.lt_of_lt_of_le h.lt hb.size, (hb.cell (p := ⟨b, _, none⟩) h.lt).trans h.c0, (hb.cell (p := ⟨b, _, none⟩) h.lt).trans h.c1, (hb.cell (p := ⟨b, _, none⟩) h.lt).trans h.c2, (hb.cell (p := ⟨b, _, none⟩) h.lt).trans h.c3, (hb.cell (p := ⟨b, _, none⟩) h.lt).trans h.c4⟩
/-- what a pointer leads to reads as the tree. -/
def Tree (w : World) : Option Addr → Tr → Prop
  | p, .nil => p = none
  | p, .node l a r => ∃ b pl pr, p = some ⟨b, 0, none⟩ ∧ Node w b a pl pr (Tr.node l a r).deep ∧ Tree w pl l ∧ Tree w pr r
theorem Tree.keep {w w1 : World} (hb : Below w.heap.size w w1) : ∀ {t : Tr} {p : Option Addr}, Tree w p t → Tree w1 p t
  | .nil, _, h => h
  | .node _ _ _, _, ⟨b, pl, pr, e, hn, hl, hr⟩ => ⟨b, pl, pr, e, hn.keep hb, Tree.keep hb hl, Tree.keep hb hr⟩
theorem Tree.nil (w : World) : Tree w none .nil := rfl

set_option maxHeartbeats 400000 in
theorem deep_any (p : Option Addr) (t : Tr) (w : World) (h : Tree w p t) :
    Calls Try.prog 71 #[.pointer p] w fun e w' => e = .returned (.int .i64 (t.deep : Int)) ∧ w' = w := by
  cases t with
  | nil =>
    obtain rfl : p = none := h
    go_enter Try.func71, Try.ntmps71
    go_wp2_with fail
    go_ret
    exact ⟨rfl, rfl⟩
  | node l a r =>
    obtain ⟨b, pl, pr, rfl, hn, hl, hr⟩ := h
    have c4 := hn.c4
    clear hn hl hr
    generalize (Tr.node l a r).deep = d at *
    go_enter Try.func71, Try.ntmps71
    go_wp2_with fail
    go_ret
    exact ⟨rfl, rfl⟩

theorem cell_keep {W W1 : World} {a : Addr} {v : Value} (hb : Below W.heap.size W W1) (h : W.cell? a = some v) : W1.cell? a = some v := (hb.cell (block_lt_of_cell h)).trans h
theorem keep2 {W W1 : World} (hb : Below W.heap.size W W1) {a0 a1 : Addr} {v0 v1 : Value} (h : W.cell? a0 = some v0 ∧ W.cell? a1 = some v1) : W1.cell? a0 = some v0 ∧ W1.cell? a1 = some v1 :=
  ⟨cell_keep hb h.1, cell_keep hb h.2⟩
theorem keep3 {W W1 : World} (hb : Below W.heap.size W W1) {a0 a1 a2 : Addr} {v0 v1 v2 : Value} (h : W.cell? a0 = some v0 ∧ W.cell? a1 = some v1 ∧ W.cell? a2 = some v2) : W1.cell? a0 = some v0 ∧ W1.cell? a1 = some v1 ∧ W1.cell? a2 = some v2 :=
  ⟨cell_keep hb h.1, cell_keep hb h.2.1, cell_keep hb h.2.2⟩
theorem keep4 {W W1 : World} (hb : Below W.heap.size W W1) {a0 a1 a2 a3 : Addr} {v0 v1 v2 v3 : Value} (h : W.cell? a0 = some v0 ∧ W.cell? a1 = some v1 ∧ W.cell? a2 = some v2 ∧ W.cell? a3 = some v3) : W1.cell? a0 = some v0 ∧ W1.cell? a1 = some v1 ∧ W1.cell? a2 = some v2 ∧ W1.cell? a3 = some v3 :=
  ⟨cell_keep hb h.1, cell_keep hb h.2.1, cell_keep hb h.2.2.1, cell_keep hb h.2.2.2⟩
theorem keep5 {W W1 : World} (hb : Below W.heap.size W W1) {a0 a1 a2 a3 a4 : Addr} {v0 v1 v2 v3 v4 : Value} (h : W.cell? a0 = some v0 ∧ W.cell? a1 = some v1 ∧ W.cell? a2 = some v2 ∧ W.cell? a3 = some v3 ∧ W.cell? a4 = some v4) : W1.cell? a0 = some v0 ∧ W1.cell? a1 = some v1 ∧ W1.cell? a2 = some v2 ∧ W1.cell? a3 = some v3 ∧ W1.cell? a4 = some v4 :=
  ⟨cell_keep hb h.1, cell_keep hb h.2.1, cell_keep hb h.2.2.1, cell_keep hb h.2.2.2.1, cell_keep hb h.2.2.2.2⟩
theorem keep6 {W W1 : World} (hb : Below W.heap.size W W1) {a0 a1 a2 a3 a4 a5 : Addr} {v0 v1 v2 v3 v4 v5 : Value} (h : W.cell? a0 = some v0 ∧ W.cell? a1 = some v1 ∧ W.cell? a2 = some v2 ∧ W.cell? a3 = some v3 ∧ W.cell? a4 = some v4 ∧ W.cell? a5 = some v5) : W1.cell? a0 = some v0 ∧ W1.cell? a1 = some v1 ∧ W1.cell? a2 = some v2 ∧ W1.cell? a3 = some v3 ∧ W1.cell? a4 = some v4 ∧ W1.cell? a5 = some v5 :=
  ⟨cell_keep hb h.1, cell_keep hb h.2.1, cell_keep hb h.2.2.1, cell_keep hb h.2.2.2.1, cell_keep hb h.2.2.2.2.1, cell_keep hb h.2.2.2.2.2⟩
theorem keep7 {W W1 : World} (hb : Below W.heap.size W W1) {a0 a1 a2 a3 a4 a5 a6 : Addr} {v0 v1 v2 v3 v4 v5 v6 : Value} (h : W.cell? a0 = some v0 ∧ W.cell? a1 = some v1 ∧ W.cell? a2 = some v2 ∧ W.cell? a3 = some v3 ∧ W.cell? a4 = some v4 ∧ W.cell? a5 = some v5 ∧ W.cell? a6 = some v6) : W1.cell? a0 = some v0 ∧ W1.cell? a1 = some v1 ∧ W1.cell? a2 = some v2 ∧ W1.cell? a3 = some v3 ∧ W1.cell? a4 = some v4 ∧ W1.cell? a5 = some v5 ∧ W1.cell? a6 = some v6 :=
  ⟨cell_keep hb h.1, cell_keep hb h.2.1, cell_keep hb h.2.2.1, cell_keep hb h.2.2.2.1, cell_keep hb h.2.2.2.2.1, cell_keep hb h.2.2.2.2.2.1, cell_keep hb h.2.2.2.2.2.2⟩
theorem keep8 {W W1 : World} (hb : Below W.heap.size W W1) {a0 a1 a2 a3 a4 a5 a6 a7 : Addr} {v0 v1 v2 v3 v4 v5 v6 v7 : Value} (h : W.cell? a0 = some v0 ∧ W.cell? a1 = some v1 ∧ W.cell? a2 = some v2 ∧ W.cell? a3 = some v3 ∧ W.cell? a4 = some v4 ∧ W.cell? a5 = some v5 ∧ W.cell? a6 = some v6 ∧ W.cell? a7 = some v7) : W1.cell? a0 = some v0 ∧ W1.cell? a1 = some v1 ∧ W1.cell? a2 = some v2 ∧ W1.cell? a3 = some v3 ∧ W1.cell? a4 = some v4 ∧ W1.cell? a5 = some v5 ∧ W1.cell? a6 = some v6 ∧ W1.cell? a7 = some v7 :=
  ⟨cell_keep hb h.1, cell_keep hb h.2.1, cell_keep hb h.2.2.1, cell_keep hb h.2.2.2.1, cell_keep hb h.2.2.2.2.1, cell_keep hb h.2.2.2.2.2.1, cell_keep hb h.2.2.2.2.2.2.1, cell_keep hb h.2.2.2.2.2.2.2⟩
theorem keep10 {W W1 : World} (hb : Below W.heap.size W W1) {a0 a1 a2 a3 a4 a5 a6 a7 a8 a9 : Addr} {v0 v1 v2 v3 v4 v5 v6 v7 v8 v9 : Value} (h : W.cell? a0 = some v0 ∧ W.cell? a1 = some v1 ∧ W.cell? a2 = some v2 ∧ W.cell? a3 = some v3 ∧ W.cell? a4 = some v4 ∧ W.cell? a5 = some v5 ∧ W.cell? a6 = some v6 ∧ W.cell? a7 = some v7 ∧ W.cell? a8 = some v8 ∧ W.cell? a9 = some v9) : W1.cell? a0 = some v0 ∧ W1.cell? a1 = some v1 ∧ W1.cell? a2 = some v2 ∧ W1.cell? a3 = some v3 ∧ W1.cell? a4 = some v4 ∧ W1.cell? a5 = some v5 ∧ W1.cell? a6 = some v6 ∧ W1.cell? a7 = some v7 ∧ W1.cell? a8 = some v8 ∧ W1.cell? a9 = some v9 :=
  ⟨cell_keep hb h.1, cell_keep hb h.2.1, cell_keep hb h.2.2.1, cell_keep hb h.2.2.2.1, cell_keep hb h.2.2.2.2.1, cell_keep hb h.2.2.2.2.2.1, cell_keep hb h.2.2.2.2.2.2.1, cell_keep hb h.2.2.2.2.2.2.2.1, cell_keep hb h.2.2.2.2.2.2.2.2.1, cell_keep hb h.2.2.2.2.2.2.2.2.2⟩
/-- a call hands back this tree. -/
def Makes (W : World) (t : Tr) (e : Ending) (w : World) : Prop := ∃ p, e = .returned (.pointer p) ∧ Tree w p t ∧ Below W.heap.size W w
/-- a call hands back a tree of new nodes and old ones, and leaves all else. -/
def Grows (W : World) (R : Tr → Prop) (e : Ending) (w : World) : Prop := ∃ p t, e = .returned (.pointer p) ∧ Tree w p t ∧ R t ∧ Below W.heap.size W w
end Go.Proofs.Ytphojcnehgdbmaa.S2
namespace Go.Proofs.Ytphojcnehgdbmaa.S2
open Go.RowKit Spn

theorem node_new (W : World) (f t : Int) (pl pr : Option Addr) (d : Nat) : Node (W.alloc (.cells #[.int .i64 f, .int .i64 t, .pointer pl, .pointer pr, .int .i64 (d : Int)] 91)) W.heap.size (f, t) pl pr d :=
  ⟨by simp, by rw [World.cell?_alloc_at _ _ _ _ rfl]; rfl, by rw [World.cell?_alloc_at _ _ _ _ rfl]; rfl, by rw [World.cell?_alloc_at _ _ _ _ rfl]; rfl, by rw [World.cell?_alloc_at _ _ _ _ rfl]; rfl, by rw [World.cell?_alloc_at _ _ _ _ rfl]; rfl⟩

set_option maxHeartbeats 800000 in
theorem newNode_any (pl pr : Option Addr) (f g : Int) (l r : Tr) (w : World) (hl : Tree w pl l) (hr : Tree w pr r) (hdl : l.deep ≤ 100000000) (hdr : r.deep ≤ 100000000) :
    Calls Try.prog 73 #[.pointer pl, .agg #[.int .i64 f, .int .i64 g], .pointer pr] w (Makes w (.node l (f, g) r)) := by
  have hbx := more (start w) (.cells #[.int .i64 f, .int .i64 g] 52)
  have HL := hide (hl.keep hbx)
  have HR := hide (hr.keep hbx)
  have hd : (Tr.node l (f, g) r).deep = 1 + max l.deep r.deep := rfl
  have HT : ∀ (w1 : World) (N : Nat), w1.heap.size = N → Below w.heap.size w w1 → Tree (w1.alloc (.cells #[.int .i64 f, .int .i64 g, .pointer pl, .pointer pr, .int .i64 ((1 + max l.deep r.deep : Nat) : Int)] 91)) (some ⟨N, 0, none⟩) (.node l (f, g) r) := fun w1 N hN hb => by
    subst hN; exact ⟨_, _, _, rfl, by rw [hd]; exact node_new _ _ _ _ _ _, (hl.keep hb).keep (more (start _) _), (hr.keep hb).keep (more (start _) _)⟩
  have HTT := hide HT
  clear HT hd hl hr
  rcases Nat.lt_or_ge l.deep r.deep with hc | hc
  · have hM : IntKind.i64.wrap (1 + (r.deep : Int)) = ((1 + max l.deep r.deep : Nat) : Int) := by
      rw [show ((1 + max l.deep r.deep : Nat) : Int) = 1 + (r.deep : Int) by omega]; exact IntWalk.i64_in _ (by omega)
    generalize 1 + max l.deep r.deep = D at HTT hM
    go_enter Try.func73, Try.ntmps73
    go_wp2_with fail
    go_region_held3 (fun w' => w'.cell? ⟨w.heap.size, 0, none⟩ = some (.int .i64 f) ∧ w'.cell? ⟨w.heap.size, 1, none⟩ = some (.int .i64 g)) (first | (simp; done) | (refine ⟨?_, ?_⟩ <;> (simp [*] <;> done))) ((first | (go_at_call 71; (with_reducible refine (deep_any pl l _ (HL.out.keep (start _).drew)).mono ?_); rintro e w' ⟨rfl, rfl⟩) | (go_at_call 71; (with_reducible refine (deep_any pr r _ (HR.out.keep (start _).drew)).mono ?_); rintro e w' ⟨rfl, rfl⟩)))
    all_goals
      go_wp2_with fail
      go_ret
      exact ⟨_, rfl, (HTT.out _ _ (by simp) hbx).keep (start _).drew, (more hbx _).drew⟩
  · have hM : IntKind.i64.wrap (1 + (l.deep : Int)) = ((1 + max l.deep r.deep : Nat) : Int) := by
      rw [show ((1 + max l.deep r.deep : Nat) : Int) = 1 + (l.deep : Int) by omega]; exact IntWalk.i64_in _ (by omega)
    have hc' : ¬ l.deep < r.deep := by omega
    generalize 1 + max l.deep r.deep = D at HTT hM
    go_enter Try.func73, Try.ntmps73
    go_wp2_with fail
    go_region_held3 (fun w' => w'.cell? ⟨w.heap.size, 0, none⟩ = some (.int .i64 f) ∧ w'.cell? ⟨w.heap.size, 1, none⟩ = some (.int .i64 g)) (first | (simp; done) | (refine ⟨?_, ?_⟩ <;> (simp [*] <;> done))) ((first | (go_at_call 71; (with_reducible refine (deep_any pl l _ (HL.out.keep (start _).drew)).mono ?_); rintro e w' ⟨rfl, rfl⟩) | (go_at_call 71; (with_reducible refine (deep_any pr r _ (HR.out.keep (start _).drew)).mono ?_); rintro e w' ⟨rfl, rfl⟩)))
    all_goals
      go_wp2_with fail
      go_ret
      exact ⟨_, rfl, (HTT.out _ _ (by simp) hbx).keep (start _).drew, (more hbx _).drew⟩
end Go.Proofs.Ytphojcnehgdbmaa.S2
namespace Go.Proofs.Ytphojcnehgdbmaa.S2
open Go.RowKit Spn

/-- a tree of both sides and of what lies between, so deep. -/
def Leant (l : Tr) (a : Sp) (r : Tr) (d : Nat) (t : Tr) : Prop := t.row = l.row ++ a :: r.row ∧ t.Bal ∧ d ≤ t.deep ∧ t.deep ≤ d + 1
theorem lean_r1 (ll lr r : Tr) (la a : Sp) (hl : (Tr.node ll la lr).Bal) (hr : r.Bal) (h : (Tr.node ll la lr).deep = r.deep + 2) (hc : lr.deep ≤ ll.deep) :
    Leant (.node ll la lr) a r (r.deep + 2) (.node ll la (.node lr a r)) := by
  obtain ⟨h1, h2, h3, h4⟩ := hl
  simp only [Tr.deep] at h
  refine ⟨by simp [Tr.row], ?_, ?_, ?_⟩
  · simp only [Tr.Bal, Tr.deep]; exact ⟨by omega, by omega, h3, by omega, by omega, h4, hr⟩
  · simp only [Tr.deep]; omega
  · simp only [Tr.deep]; omega
theorem lean_r2 (ll ml mr r : Tr) (la ma a : Sp) (hl : (Tr.node ll la (.node ml ma mr)).Bal) (hr : r.Bal) (h : (Tr.node ll la (.node ml ma mr)).deep = r.deep + 2) (hc : ¬ (Tr.node ml ma mr).deep ≤ ll.deep) :
    Leant (.node ll la (.node ml ma mr)) a r (r.deep + 2) (.node (.node ll la ml) ma (.node mr a r)) := by
  simp only [Tr.Bal] at hl
  obtain ⟨h1, h2, h3, h4, h5, h6, h7⟩ := hl
  simp only [Tr.deep] at h h1 h2 hc
  refine ⟨by simp [Tr.row], ?_, ?_, ?_⟩
  · simp only [Tr.Bal, Tr.deep]; exact ⟨by omega, by omega, ⟨by omega, by omega, h3, h6⟩, by omega, by omega, h7, hr⟩
  · simp only [Tr.deep]; omega
  · simp only [Tr.deep]; omega
theorem lean_l1 (l rl rr : Tr) (a ra : Sp) (hl : l.Bal) (hr : (Tr.node rl ra rr).Bal) (h : (Tr.node rl ra rr).deep = l.deep + 2) (hc : rl.deep ≤ rr.deep) :
    Leant l a (.node rl ra rr) (l.deep + 2) (.node (.node l a rl) ra rr) := by
  obtain ⟨h1, h2, h3, h4⟩ := hr
  simp only [Tr.deep] at h
  refine ⟨by simp [Tr.row], ?_, ?_, ?_⟩
  · simp only [Tr.Bal, Tr.deep]; exact ⟨by omega, by omega, ⟨by omega, by omega, hl, h3⟩, h4⟩
  · simp only [Tr.deep]; omega
  · simp only [Tr.deep]; omega
theorem lean_l2 (l ml mr rr : Tr) (a ma ra : Sp) (hl : l.Bal) (hr : (Tr.node (.node ml ma mr) ra rr).Bal) (h : (Tr.node (.node ml ma mr) ra rr).deep = l.deep + 2) (hc : ¬ (Tr.node ml ma mr).deep ≤ rr.deep) :
    Leant l a (.node (.node ml ma mr) ra rr) (l.deep + 2) (.node (.node l a ml) ma (.node mr ra rr)) := by
  simp only [Tr.Bal] at hr
  obtain ⟨h1, h2, ⟨h3, h4, h5, h6⟩, h7⟩ := hr
  simp only [Tr.deep] at h h1 h2 hc
  refine ⟨by simp [Tr.row], ?_, ?_, ?_⟩
  · simp only [Tr.Bal, Tr.deep]; exact ⟨by omega, by omega, ⟨by omega, by omega, hl, h5⟩, by omega, by omega, h6, h7⟩
  · simp only [Tr.deep]; omega
  · simp only [Tr.deep]; omega

/-- what is told of a call that makes a tree. -/
theorem Makes.to {W w : World} {t : Tr} {e : Ending} {R : Tr → Prop} (h : Makes W t e w) (hR : R t) : Grows W R e w := by
  obtain ⟨p, he, ht, hb⟩ := h
  exact ⟨p, t, he, ht, hR, hb⟩

set_option maxRecDepth 100000 in
set_option maxHeartbeats 1600000 in
theorem leanR_one (p : Option Addr) (f g : Int) (b : Nat) (po pm : Option Addr) (x y : Int) (o m s : Tr) (d : Nat) (w : World) (hn : Node w b (x, y) po pm d) (ho : Tree w po o) (hs : Tree w p s) (hm : Tree w pm m) (hc : m.deep ≤ o.deep) (b1 : o.deep ≤ 10000000) (b2 : m.deep ≤ 10000000) (b3 : s.deep ≤ 10000000) :
    Calls Try.prog 82 #[.pointer (some ⟨b, 0, none⟩), .agg #[.int .i64 f, .int .i64 g], .pointer p] w (Makes w (.node o (x, y) (.node m (f, g) s))) := by
  have hbx := more (start w) (.cells #[.int .i64 f, .int .i64 g] 52)
  obtain ⟨hlt, c0, c1, c2, c3, c4⟩ := hn
  have HO := hide (ho.keep hbx)
  have HP := hide (hs.keep hbx)
  have HM := hide (hm.keep hbx)
  have HS : (w.alloc (.cells #[.int .i64 f, .int .i64 g] 52)).cell? ⟨w.heap.size, 0, none⟩ = some (.int .i64 f) ∧ (w.alloc (.cells #[.int .i64 f, .int .i64 g] 52)).cell? ⟨w.heap.size, 1, none⟩ = some (.int .i64 g) ∧ (w.alloc (.cells #[.int .i64 f, .int .i64 g] 52)).cell? ⟨b, 0, none⟩ = some (.int .i64 x) ∧ (w.alloc (.cells #[.int .i64 f, .int .i64 g] 52)).cell? ⟨b, 1, none⟩ = some (.int .i64 y) ∧ (w.alloc (.cells #[.int .i64 f, .int .i64 g] 52)).cell? ⟨b, 2, none⟩ = some (.pointer po) ∧ (w.alloc (.cells #[.int .i64 f, .int .i64 g] 52)).cell? ⟨b, 3, none⟩ = some (.pointer pm) :=
    ⟨by rw [World.cell?_alloc_at _ _ _ _ rfl]; rfl, by rw [World.cell?_alloc_at _ _ _ _ rfl]; rfl, cell_keep hbx c0, cell_keep hbx c1, cell_keep hbx c2, cell_keep hbx c3⟩
  clear c0 c1 c2 c3 c4 ho hs hm
  go_enter Try.func82, Try.ntmps82
  go_wp2_with fail
  refine (deep_any po o _ HO.out).mono ?_
  rintro e w1 ⟨rfl, rfl⟩
  go_wp2_with fail
  refine (deep_any pm m _ HM.out).mono ?_
  rintro e w1 ⟨rfl, rfl⟩
  go_wp2_with fail
  go_region_held3 (fun w' => w'.cell? ⟨w.heap.size, 0, none⟩ = some (.int .i64 f) ∧ w'.cell? ⟨w.heap.size, 1, none⟩ = some (.int .i64 g) ∧ w'.cell? ⟨b, 0, none⟩ = some (.int .i64 x) ∧ w'.cell? ⟨b, 1, none⟩ = some (.int .i64 y) ∧ w'.cell? ⟨b, 2, none⟩ = some (.pointer po) ∧ w'.cell? ⟨b, 3, none⟩ = some (.pointer pm)) (first | exact keep6 (by assumption) (by assumption) | exact keep6 (start _).drew (by assumption)) ((first | (go_at_call 73; (with_reducible refine (newNode_any pm p f g m s _ (HM.out.keep (start _).drew) (HP.out.keep (start _).drew) (by omega) (by omega)).mono ?_); rintro e w2 ⟨p2, rfl, hT2, hb2⟩) | (go_at_call 73; (with_reducible refine (newNode_any po p2 x y o (.node m (f, g) s) _ (HO.out.keep (andthen (start _).drew hb2)) hT2 (by omega) (by simp only [Tr.deep]; omega)).mono ?_); rintro e w3 ⟨p3, rfl, hT3, hb3⟩)))
  go_wp2_with fail
  go_ret
  exact ⟨_, rfl, hT3, andthen (andthen hbx.drew hb2) hb3⟩
set_option maxRecDepth 100000 in
set_option maxHeartbeats 1600000 in
theorem leanR_two (p : Option Addr) (f g : Int) (b : Nat) (po : Option Addr) (x y : Int) (o s : Tr) (d : Nat) (k : Nat) (pml pmr : Option Addr) (u v : Int) (ml mr : Tr) (w : World) (hn : Node w b (x, y) po (some ⟨k, 0, none⟩) d) (ho : Tree w po o) (hs : Tree w p s) (hk : Node w k (u, v) pml pmr (Tr.node ml (u, v) mr).deep) (hml : Tree w pml ml) (hmr : Tree w pmr mr) (hc : ¬ (Tr.node ml (u, v) mr).deep ≤ o.deep) (b1 : o.deep ≤ 10000000) (b2 : (Tr.node ml (u, v) mr).deep ≤ 10000000) (b3 : s.deep ≤ 10000000) :
    Calls Try.prog 82 #[.pointer (some ⟨b, 0, none⟩), .agg #[.int .i64 f, .int .i64 g], .pointer p] w (Makes w (.node (.node o (x, y) ml) (u, v) (.node mr (f, g) s))) := by
  have hbx := more (start w) (.cells #[.int .i64 f, .int .i64 g] 52)
  have hmt : Tree w (some ⟨k, 0, none⟩) (.node ml (u, v) mr) := ⟨k, pml, pmr, rfl, hk, hml, hmr⟩
  have hdd : (Tr.node ml (u, v) mr).deep = 1 + max ml.deep mr.deep := rfl
  have g1 : ml.deep ≤ 10000000 := by omega
  have g2 : mr.deep ≤ 10000000 := by omega
  clear hdd
  obtain ⟨hlt, c0, c1, c2, c3, c4⟩ := hn
  obtain ⟨hlk, m0, m1, m2, m3, m4⟩ := hk
  have HO := hide (ho.keep hbx)
  have HP := hide (hs.keep hbx)
  have HM := hide (hmt.keep hbx)
  have HML := hide (hml.keep hbx)
  have HMR := hide (hmr.keep hbx)
  have HS : (w.alloc (.cells #[.int .i64 f, .int .i64 g] 52)).cell? ⟨w.heap.size, 0, none⟩ = some (.int .i64 f) ∧ (w.alloc (.cells #[.int .i64 f, .int .i64 g] 52)).cell? ⟨w.heap.size, 1, none⟩ = some (.int .i64 g) ∧ (w.alloc (.cells #[.int .i64 f, .int .i64 g] 52)).cell? ⟨b, 0, none⟩ = some (.int .i64 x) ∧ (w.alloc (.cells #[.int .i64 f, .int .i64 g] 52)).cell? ⟨b, 1, none⟩ = some (.int .i64 y) ∧ (w.alloc (.cells #[.int .i64 f, .int .i64 g] 52)).cell? ⟨b, 2, none⟩ = some (.pointer po) ∧ (w.alloc (.cells #[.int .i64 f, .int .i64 g] 52)).cell? ⟨b, 3, none⟩ = some (.pointer (some ⟨k, 0, none⟩)) ∧ (w.alloc (.cells #[.int .i64 f, .int .i64 g] 52)).cell? ⟨k, 0, none⟩ = some (.int .i64 u) ∧ (w.alloc (.cells #[.int .i64 f, .int .i64 g] 52)).cell? ⟨k, 1, none⟩ = some (.int .i64 v) ∧ (w.alloc (.cells #[.int .i64 f, .int .i64 g] 52)).cell? ⟨k, 2, none⟩ = some (.pointer pml) ∧ (w.alloc (.cells #[.int .i64 f, .int .i64 g] 52)).cell? ⟨k, 3, none⟩ = some (.pointer pmr) :=
    ⟨by rw [World.cell?_alloc_at _ _ _ _ rfl]; rfl, by rw [World.cell?_alloc_at _ _ _ _ rfl]; rfl, cell_keep hbx c0, cell_keep hbx c1, cell_keep hbx c2, cell_keep hbx c3, cell_keep hbx m0, cell_keep hbx m1, cell_keep hbx m2, cell_keep hbx m3⟩
  clear c0 c1 c2 c3 c4 ho hs m0 m1 m2 m3 m4 hml hmr hmt
  go_enter Try.func82, Try.ntmps82
  go_wp2_with fail
  refine (deep_any po o _ HO.out).mono ?_
  rintro e w1 ⟨rfl, rfl⟩
  go_wp2_with fail
  refine (deep_any (some ⟨k, 0, none⟩) (.node ml (u, v) mr) _ HM.out).mono ?_
  rintro e w1 ⟨rfl, rfl⟩
  go_wp2_with fail
  go_region_held3 (fun w' => w'.cell? ⟨w.heap.size, 0, none⟩ = some (.int .i64 f) ∧ w'.cell? ⟨w.heap.size, 1, none⟩ = some (.int .i64 g) ∧ w'.cell? ⟨b, 0, none⟩ = some (.int .i64 x) ∧ w'.cell? ⟨b, 1, none⟩ = some (.int .i64 y) ∧ w'.cell? ⟨b, 2, none⟩ = some (.pointer po) ∧ w'.cell? ⟨b, 3, none⟩ = some (.pointer (some ⟨k, 0, none⟩)) ∧ w'.cell? ⟨k, 0, none⟩ = some (.int .i64 u) ∧ w'.cell? ⟨k, 1, none⟩ = some (.int .i64 v) ∧ w'.cell? ⟨k, 2, none⟩ = some (.pointer pml) ∧ w'.cell? ⟨k, 3, none⟩ = some (.pointer pmr)) (first | exact keep10 (by assumption) (by assumption) | exact keep10 (start _).drew (by assumption)) ((first | (go_at_call 73; (with_reducible refine (newNode_any po pml x y o ml _ (HO.out.keep (start _).drew) (HML.out.keep (start _).drew) (by omega) (by omega)).mono ?_); rintro e w2 ⟨p2, rfl, hT2, hb2⟩)))
  go_wp2_with fail
  go_region_held3 (fun w' => w'.cell? ⟨w.heap.size, 0, none⟩ = some (.int .i64 f) ∧ w'.cell? ⟨w.heap.size, 1, none⟩ = some (.int .i64 g) ∧ w'.cell? ⟨b, 0, none⟩ = some (.int .i64 x) ∧ w'.cell? ⟨b, 1, none⟩ = some (.int .i64 y) ∧ w'.cell? ⟨b, 2, none⟩ = some (.pointer po) ∧ w'.cell? ⟨b, 3, none⟩ = some (.pointer (some ⟨k, 0, none⟩)) ∧ w'.cell? ⟨k, 0, none⟩ = some (.int .i64 u) ∧ w'.cell? ⟨k, 1, none⟩ = some (.int .i64 v) ∧ w'.cell? ⟨k, 2, none⟩ = some (.pointer pml) ∧ w'.cell? ⟨k, 3, none⟩ = some (.pointer pmr)) (first | exact keep10 (by assumption) (by assumption) | exact keep10 (start _).drew (by assumption)) ((first | (go_at_call 73; (with_reducible refine (newNode_any pmr p f g mr s _ (HMR.out.keep (andthen (andthen (start _).drew hb2) (start _).drew)) (HP.out.keep (andthen (andthen (start _).drew hb2) (start _).drew)) (by omega) (by omega)).mono ?_); rintro e w3 ⟨p3, rfl, hT3, hb3⟩) | (go_at_call 73; (with_reducible refine (newNode_any p2 p3 u v (.node o (x, y) ml) (.node mr (f, g) s) _ (hT2.keep (andthen (start _).drew hb3)) hT3 (by simp only [Tr.deep]; omega) (by simp only [Tr.deep]; omega)).mono ?_); rintro e w4 ⟨p4, rfl, hT4, hb4⟩)))
  go_wp2_with fail
  go_ret
  exact ⟨_, rfl, hT4, andthen (andthen (andthen hbx.drew hb2).drew hb3) hb4⟩
set_option maxRecDepth 100000 in
set_option maxHeartbeats 1600000 in
theorem leanL_one (p : Option Addr) (f g : Int) (b : Nat) (po pm : Option Addr) (x y : Int) (o m s : Tr) (d : Nat) (w : World) (hn : Node w b (x, y) pm po d) (ho : Tree w po o) (hs : Tree w p s) (hm : Tree w pm m) (hc : m.deep ≤ o.deep) (b1 : o.deep ≤ 10000000) (b2 : m.deep ≤ 10000000) (b3 : s.deep ≤ 10000000) :
    Calls Try.prog 83 #[.pointer p, .agg #[.int .i64 f, .int .i64 g], .pointer (some ⟨b, 0, none⟩)] w (Makes w (.node (.node s (f, g) m) (x, y) o)) := by
  have hbx := more (start w) (.cells #[.int .i64 f, .int .i64 g] 52)
  obtain ⟨hlt, c0, c1, c2, c3, c4⟩ := hn
  have HO := hide (ho.keep hbx)
  have HP := hide (hs.keep hbx)
  have HM := hide (hm.keep hbx)
  have HS : (w.alloc (.cells #[.int .i64 f, .int .i64 g] 52)).cell? ⟨w.heap.size, 0, none⟩ = some (.int .i64 f) ∧ (w.alloc (.cells #[.int .i64 f, .int .i64 g] 52)).cell? ⟨w.heap.size, 1, none⟩ = some (.int .i64 g) ∧ (w.alloc (.cells #[.int .i64 f, .int .i64 g] 52)).cell? ⟨b, 0, none⟩ = some (.int .i64 x) ∧ (w.alloc (.cells #[.int .i64 f, .int .i64 g] 52)).cell? ⟨b, 1, none⟩ = some (.int .i64 y) ∧ (w.alloc (.cells #[.int .i64 f, .int .i64 g] 52)).cell? ⟨b, 2, none⟩ = some (.pointer pm) ∧ (w.alloc (.cells #[.int .i64 f, .int .i64 g] 52)).cell? ⟨b, 3, none⟩ = some (.pointer po) :=
    ⟨by rw [World.cell?_alloc_at _ _ _ _ rfl]; rfl, by rw [World.cell?_alloc_at _ _ _ _ rfl]; rfl, cell_keep hbx c0, cell_keep hbx c1, cell_keep hbx c2, cell_keep hbx c3⟩
  clear c0 c1 c2 c3 c4 ho hs hm
  go_enter Try.func83, Try.ntmps83
  go_wp2_with fail
  refine (deep_any po o _ HO.out).mono ?_
  rintro e w1 ⟨rfl, rfl⟩
  go_wp2_with fail
  refine (deep_any pm m _ HM.out).mono ?_
  rintro e w1 ⟨rfl, rfl⟩
  go_wp2_with fail
  go_region_held3 (fun w' => w'.cell? ⟨w.heap.size, 0, none⟩ = some (.int .i64 f) ∧ w'.cell? ⟨w.heap.size, 1, none⟩ = some (.int .i64 g) ∧ w'.cell? ⟨b, 0, none⟩ = some (.int .i64 x) ∧ w'.cell? ⟨b, 1, none⟩ = some (.int .i64 y) ∧ w'.cell? ⟨b, 2, none⟩ = some (.pointer pm) ∧ w'.cell? ⟨b, 3, none⟩ = some (.pointer po)) (first | exact keep6 (by assumption) (by assumption) | exact keep6 (start _).drew (by assumption)) ((first | (go_at_call 73; (with_reducible refine (newNode_any p pm f g s m _ (HP.out.keep (start _).drew) (HM.out.keep (start _).drew) (by omega) (by omega)).mono ?_); rintro e w2 ⟨p2, rfl, hT2, hb2⟩) | (go_at_call 73; (with_reducible refine (newNode_any p2 po x y (.node s (f, g) m) o _ hT2 (HO.out.keep (andthen (start _).drew hb2)) (by simp only [Tr.deep]; omega) (by omega)).mono ?_); rintro e w3 ⟨p3, rfl, hT3, hb3⟩)))
  go_wp2_with fail
  go_ret
  exact ⟨_, rfl, hT3, andthen (andthen hbx.drew hb2) hb3⟩
set_option maxRecDepth 100000 in
set_option maxHeartbeats 1600000 in
theorem leanL_two (p : Option Addr) (f g : Int) (b : Nat) (po : Option Addr) (x y : Int) (o s : Tr) (d : Nat) (k : Nat) (pml pmr : Option Addr) (u v : Int) (ml mr : Tr) (w : World) (hn : Node w b (x, y) (some ⟨k, 0, none⟩) po d) (ho : Tree w po o) (hs : Tree w p s) (hk : Node w k (u, v) pml pmr (Tr.node ml (u, v) mr).deep) (hml : Tree w pml ml) (hmr : Tree w pmr mr) (hc : ¬ (Tr.node ml (u, v) mr).deep ≤ o.deep) (b1 : o.deep ≤ 10000000) (b2 : (Tr.node ml (u, v) mr).deep ≤ 10000000) (b3 : s.deep ≤ 10000000) :
    Calls Try.prog 83 #[.pointer p, .agg #[.int .i64 f, .int .i64 g], .pointer (some ⟨b, 0, none⟩)] w (Makes w (.node (.node s (f, g) ml) (u, v) (.node mr (x, y) o))) := by
  have hbx := more (start w) (.cells #[.int .i64 f, .int .i64 g] 52)
  have hmt : Tree w (some ⟨k, 0, none⟩) (.node ml (u, v) mr) := ⟨k, pml, pmr, rfl, hk, hml, hmr⟩
  have hdd : (Tr.node ml (u, v) mr).deep = 1 + max ml.deep mr.deep := rfl
  have g1 : ml.deep ≤ 10000000 := by omega
  have g2 : mr.deep ≤ 10000000 := by omega
  clear hdd
  obtain ⟨hlt, c0, c1, c2, c3, c4⟩ := hn
  obtain ⟨hlk, m0, m1, m2, m3, m4⟩ := hk
  have HO := hide (ho.keep hbx)
  have HP := hide (hs.keep hbx)
  have HM := hide (hmt.keep hbx)
  have HML := hide (hml.keep hbx)
  have HMR := hide (hmr.keep hbx)
  have HS : (w.alloc (.cells #[.int .i64 f, .int .i64 g] 52)).cell? ⟨w.heap.size, 0, none⟩ = some (.int .i64 f) ∧ (w.alloc (.cells #[.int .i64 f, .int .i64 g] 52)).cell? ⟨w.heap.size, 1, none⟩ = some (.int .i64 g) ∧ (w.alloc (.cells #[.int .i64 f, .int .i64 g] 52)).cell? ⟨b, 0, none⟩ = some (.int .i64 x) ∧ (w.alloc (.cells #[.int .i64 f, .int .i64 g] 52)).cell? ⟨b, 1, none⟩ = some (.int .i64 y) ∧ (w.alloc (.cells #[.int .i64 f, .int .i64 g] 52)).cell? ⟨b, 2, none⟩ = some (.pointer (some ⟨k, 0, none⟩)) ∧ (w.alloc (.cells #[.int .i64 f, .int .i64 g] 52)).cell? ⟨b, 3, none⟩ = some (.pointer po) ∧ (w.alloc (.cells #[.int .i64 f, .int .i64 g] 52)).cell? ⟨k, 0, none⟩ = some (.int .i64 u) ∧ (w.alloc (.cells #[.int .i64 f, .int .i64 g] 52)).cell? ⟨k, 1, none⟩ = some (.int .i64 v) ∧ (w.alloc (.cells #[.int .i64 f, .int .i64 g] 52)).cell? ⟨k, 2, none⟩ = some (.pointer pml) ∧ (w.alloc (.cells #[.int .i64 f, .int .i64 g] 52)).cell? ⟨k, 3, none⟩ = some (.pointer pmr) :=
    ⟨by rw [World.cell?_alloc_at _ _ _ _ rfl]; rfl, by rw [World.cell?_alloc_at _ _ _ _ rfl]; rfl, cell_keep hbx c0, cell_keep hbx c1, cell_keep hbx c2, cell_keep hbx c3, cell_keep hbx m0, cell_keep hbx m1, cell_keep hbx m2, cell_keep hbx m3⟩
  clear c0 c1 c2 c3 c4 ho hs m0 m1 m2 m3 m4 hml hmr hmt
  go_enter Try.func83, Try.ntmps83
  go_wp2_with fail
  refine (deep_any po o _ HO.out).mono ?_
  rintro e w1 ⟨rfl, rfl⟩
  go_wp2_with fail
  refine (deep_any (some ⟨k, 0, none⟩) (.node ml (u, v) mr) _ HM.out).mono ?_
  rintro e w1 ⟨rfl, rfl⟩
  go_wp2_with fail
  go_region_held3 (fun w' => w'.cell? ⟨w.heap.size, 0, none⟩ = some (.int .i64 f) ∧ w'.cell? ⟨w.heap.size, 1, none⟩ = some (.int .i64 g) ∧ w'.cell? ⟨b, 0, none⟩ = some (.int .i64 x) ∧ w'.cell? ⟨b, 1, none⟩ = some (.int .i64 y) ∧ w'.cell? ⟨b, 2, none⟩ = some (.pointer (some ⟨k, 0, none⟩)) ∧ w'.cell? ⟨b, 3, none⟩ = some (.pointer po) ∧ w'.cell? ⟨k, 0, none⟩ = some (.int .i64 u) ∧ w'.cell? ⟨k, 1, none⟩ = some (.int .i64 v) ∧ w'.cell? ⟨k, 2, none⟩ = some (.pointer pml) ∧ w'.cell? ⟨k, 3, none⟩ = some (.pointer pmr)) (first | exact keep10 (by assumption) (by assumption) | exact keep10 (start _).drew (by assumption)) ((first | (go_at_call 73; (with_reducible refine (newNode_any pmr po x y mr o _ (HMR.out.keep (start _).drew) (HO.out.keep (start _).drew) (by omega) (by omega)).mono ?_); rintro e w2 ⟨p2, rfl, hT2, hb2⟩)))
  go_wp2_with fail
  go_region_held3 (fun w' => w'.cell? ⟨w.heap.size, 0, none⟩ = some (.int .i64 f) ∧ w'.cell? ⟨w.heap.size, 1, none⟩ = some (.int .i64 g) ∧ w'.cell? ⟨b, 0, none⟩ = some (.int .i64 x) ∧ w'.cell? ⟨b, 1, none⟩ = some (.int .i64 y) ∧ w'.cell? ⟨b, 2, none⟩ = some (.pointer (some ⟨k, 0, none⟩)) ∧ w'.cell? ⟨b, 3, none⟩ = some (.pointer po) ∧ w'.cell? ⟨k, 0, none⟩ = some (.int .i64 u) ∧ w'.cell? ⟨k, 1, none⟩ = some (.int .i64 v) ∧ w'.cell? ⟨k, 2, none⟩ = some (.pointer pml) ∧ w'.cell? ⟨k, 3, none⟩ = some (.pointer pmr)) (first | exact keep10 (by assumption) (by assumption) | exact keep10 (start _).drew (by assumption)) ((first | (go_at_call 73; (with_reducible refine (newNode_any p pml f g s ml _ (HP.out.keep (andthen (andthen (start _).drew hb2) (start _).drew)) (HML.out.keep (andthen (andthen (start _).drew hb2) (start _).drew)) (by omega) (by omega)).mono ?_); rintro e w3 ⟨p3, rfl, hT3, hb3⟩) | (go_at_call 73; (with_reducible refine (newNode_any p3 p2 u v (.node s (f, g) ml) (.node mr (x, y) o) _ hT3 (hT2.keep (andthen (start _).drew hb3)) (by simp only [Tr.deep]; omega) (by simp only [Tr.deep]; omega)).mono ?_); rintro e w4 ⟨p4, rfl, hT4, hb4⟩)))
  go_wp2_with fail
  go_ret
  exact ⟨_, rfl, hT4, andthen (andthen (andthen hbx.drew hb2).drew hb3) hb4⟩
end Go.Proofs.Ytphojcnehgdbmaa.S2

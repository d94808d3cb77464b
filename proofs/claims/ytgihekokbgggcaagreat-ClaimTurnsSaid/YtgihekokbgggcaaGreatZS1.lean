/- BS1; BS2 of the recipes, what is needed of them. -/
import Derived.Test.YtgihekokbgggcaaGreatProg
import Derived.WalkKit
import Derived.WalkSpells
import Derived.WalkLawsBesides
import Derived.Deep.QuietTactic
import Derived.BigQuiet
import Derived.Deep.RegionHeld3
import Derived.Deep.DrawnRows
import Derived.Laws.AppendOwn
import Derived.OwnWalk
import Derived.LoopTactic
import Derived.Test.YtgihekokbgggcaaGreatZM2
set_option maxHeartbeats 8000000
set_option maxRecDepth 1000000
namespace Go.Proofs.YtgihekokbgggcaaGreat.S2
open Go.RowKit Spn
theorem hide {p : Prop} (h : p) : Hid p:=h
theorem ret_bool {a b : Bool} (h : a = b) : Ending.returned (.bool a) = .returned (.bool b):=by rw [h]
theorem ret_int {k : IntKind} {a b : Int} (h : a = b) : Ending.returned (.int k a) = .returned (.int k b):=by rw [h]
theorem below_drawn {B : Nat} {a w : World} (h : Below B a w) (n : Nat) : Below B a (w.drewN n):=⟨h.os,h.tape,h.output,h.size,h.block⟩
theorem more {a w : World} (h : Below a.heap.size a w) (o : Obj) : Below a.heap.size a (w.alloc o):=h.alloc h.size o
theorem andthen {a b c : World} (h : Below a.heap.size a b) (k : Below b.heap.size b c) : Below a.heap.size a c:=h.trans (k.mono h.size)
theorem start (a : World) : Below a.heap.size a a:=Below.refl _ _
theorem old {W w1 : World} {B : Nat} (hb : Below B W w1) : (∀ b o,b < B -> w1.cell? ⟨b,o,none⟩ = W.cell? ⟨b,o,none⟩) /\ (∀ b o,b < B -> w1.frozen? ⟨b,o,none⟩ = W.frozen? ⟨b,o,none⟩) :=
 ⟨fun b o h => hb.cell (p:=⟨b,o,none⟩) h,fun b o h => hb.frozen (p:=⟨b,o,none⟩) h⟩
theorem okB_all (f t : Int) (h1 : 0 <= f) (h2 : f < t) (h3 : t <= 52596000) : okB (f,t) = true:=by
 rw [okB_iff]; exact ⟨h1,h2,h3⟩
theorem okB_no (f t : Int) (h : ¬ (0 <= f /\ f < t /\ t <= 52596000)) : okB (f,t) = false:=by
 rw [okB_not]; exact h
theorem is_any (f t : Int) (w : World) :
  Calls Tryz.prog 35 #[.agg #[.int .i64 f,.int .i64 t]] w fun e w' => e = .returned (.bool (okB (f,t))) /\ Below w.heap.size w w':=by
 by_cases h1 : 0 <= f
 ·by_cases h2 : f < t
  ·by_cases h3 : t <= 52596000
   ·have e:=hide (okB_all f t h1 h2 h3)
    go_enter Tryz.func35,Tryz.ntmps35
    go_wp2
    go_ret
    exact ⟨ret_bool (by rw [e.out]),(Below.refl _ _).alloc (Nat.le_refl _) _⟩
   ·have e:=hide (okB_no f t (fun h => h3 h.2.2))
    go_enter Tryz.func35,Tryz.ntmps35
    go_wp2
    go_ret
    exact ⟨ret_bool (by rw [e.out]),(Below.refl _ _).alloc (Nat.le_refl _) _⟩
  ·have e:=hide (okB_no f t (fun h => h2 h.2.1))
   go_enter Tryz.func35,Tryz.ntmps35
   go_wp2
   go_ret
   exact ⟨ret_bool (by rw [e.out]),(Below.refl _ _).alloc (Nat.le_refl _) _⟩
 ·have e:=hide (okB_no f t (fun h => h1 h.1))
  go_enter Tryz.func35,Tryz.ntmps35
  go_wp2
  go_ret
  exact ⟨ret_bool (by rw [e.out]),(Below.refl _ _).alloc (Nat.le_refl _) _⟩
theorem is_at (f t : Int) (b : Bool) (w : World) (h : okB (f,t) = b) :
  Calls Tryz.prog 35 #[.agg #[.int .i64 f,.int .i64 t]] w fun e w' => e = .returned (.bool b) /\ Below w.heap.size w w':=by
 subst h; exact is_any f t w
theorem long_any (f t : Int) (w : World) :
  Calls Tryz.prog 64 #[.agg #[.int .i64 f,.int .i64 t]] w fun e w' => e = .returned (.int .i64 (long (f,t))) /\ Below w.heap.size w w':=by
 cases hb : okB (f,t)
 ·have hl:=hide (long_no (f,t) ((okB_not _).1 hb))
  have HB:=hide hb
  clear hb
  go_enter Tryz.func64,Tryz.ntmps64
  go_wp2_with fail
  refine (is_at f t false _ HB.out).mono ?_
  rintro e w1 ⟨rfl,hb1⟩
  go_wp2_with fail
  go_ret
  exact ⟨ret_int (by rw [hl.out]),andthen (more (start _) _) hb1⟩
 ·have hk:=(okB_iff _).1 hb
  have hl:=hide (long_pos (f,t) hk).1
  have HB:=hide hb
  have g1 : 0 <= f:=hk.1
  have g2 : f < t:=hk.2.1
  have g3 : t <= 52596000:=hk.2.2
  clear hb hk
  go_enter Tryz.func64,Tryz.ntmps64
  go_wp2_with fail
  refine (is_at f t true _ HB.out).mono ?_
  rintro e w1 ⟨rfl,hb1⟩
  obtain ⟨hc,hf⟩:=old hb1
  go_wp2_with fail
  go_ret
  exact ⟨ret_int (by rw [hl.out]),andthen (more (start _) _) hb1⟩
end Go.Proofs.YtgihekokbgggcaaGreat.S2
namespace Go.Proofs.YtgihekokbgggcaaGreat.S2
open Go.RowKit Spn
theorem inB_no (f t m : Int) (h : okB (f,t) = false) : inB (f,t) m = false:=by
 unfold inB; rw [decide_eq_false]; intro hc; rw [okB_not] at h; exact h hc.1
theorem inB_lo (f t m : Int) (h : ¬ f <= m) : inB (f,t) m = false:=by
 unfold inB; rw [decide_eq_false]; intro hc; exact h hc.2.1
theorem inB_hi (f t m : Int) (h : okB (f,t) = true) (h1 : f <= m) : inB (f,t) m = decide (m < t):=by
 unfold inB; rw [okB_iff] at h; simp [h,h1]
theorem meet_no1 (a b : Sp) (h : okB a = false) : meet a b = (0,0):=by
 unfold meet; rw [if_neg]; intro hc; rw [okB_not] at h; exact h hc.1
theorem meet_no2 (a b : Sp) (h : okB b = false) : meet a b = (0,0):=by
 unfold meet; rw [if_neg]; intro hc; rw [okB_not] at h; exact h hc.2.1
theorem meet_no3 (a b : Sp) (h : okB (max a.1 b.1,min a.2 b.2) = false) : meet a b = (0,0):=by
 unfold meet; rw [if_neg]; intro hc; rw [okB_not] at h; exact h hc.2.2
theorem meet_yes (a b : Sp) (h1 : okB a = true) (h2 : okB b = true) (h : okB (max a.1 b.1,min a.2 b.2) = true) : meet a b = (max a.1 b.1,min a.2 b.2):=by
 unfold meet; rw [if_pos]; · rfl
 ·rw [okB_iff] at h h1 h2; exact ⟨h1,h2,h⟩
theorem up2 (n : Nat) : n <= n + 1 + 1:=by omega
theorem sizes4 {n k : Nat} (h : n + 1 + 1 + 1 + 1 <= k) : n < k /\ n + 1 < k /\ n + 1 + 1 < k /\ n + 1 + 1 + 1 < k:=by omega
theorem meet_w (f t g u x y : Int) (v1 v2 : Int) (w : World) (c1 : (g <= f /\ x = f) ∨ (f < g /\ x = g)) (c2 : (t <= u /\ y = t) ∨ (u < t /\ y = u))
  (h1 : okB (f,t) = true) (h2 : okB (g,u) = true) (h : (okB (x,y) = true /\ v1 = x /\ v2 = y) ∨ (okB (x,y) = false /\ v1 = 0 /\ v2 = 0)) :
  Calls Tryz.prog 70 #[.agg #[.int .i64 f,.int .i64 t],.agg #[.int .i64 g,.int .i64 u]] w fun e w' => e = .returned (.agg #[.int .i64 v1,.int .i64 v2]) /\ Below w.heap.size w w':=by
 rcases h with ⟨h3,rfl,rfl⟩ | ⟨h3,rfl,rfl⟩ <;> rcases c1 with ⟨c1,rfl⟩ | ⟨c1,rfl⟩ <;> rcases c2 with ⟨c2,rfl⟩ | ⟨c2,rfl⟩
 all_goals
  have H1:=hide h1
  have H2:=hide h2
  have H3:=hide h3
  clear h1 h2 h3
  go_enter Tryz.func70,Tryz.ntmps70
  go_wp2_with fail
  refine (is_at _ _ true _ H1.out).mono ?_
  rintro e w1 ⟨rfl,hb1⟩
  obtain ⟨hc,hf⟩:=old hb1
  obtain ⟨z0,z1,z2,z3⟩:=sizes4 (by simpa using hb1.size)
  go_wp2_with fail
  refine (is_at _ _ true _ H2.out).mono ?_
  rintro e w2 ⟨rfl,hb2⟩
  obtain ⟨hc2,hf2⟩:=old hb2
  obtain ⟨y0,y1,y2,y3⟩:=sizes4 (Nat.le_trans (by simpa using hb1.size) hb2.size)
  go_wp2_with fail
  refine (is_at _ _ _ _ H3.out).mono ?_
  rintro e w3 ⟨rfl,hb3⟩
  obtain ⟨hc3,hf3⟩:=old hb3
  obtain ⟨x0,x1,x2,x3⟩:=sizes4 (Nat.le_trans (Nat.le_trans (by simpa using hb1.size) hb2.size) hb3.size)
  go_wp2_with fail
  have hb : Below w.heap.size w w3:=andthen (andthen (andthen (more (more (more (more (start _) _) _) _) _) hb1) hb2) hb3
  first
   | exact bodyPost_ret (v:=.agg #[.int .i64 v1,.int .i64 v2]) (by simp [results,Tryz.results70,go_sem,hc,hc2,hc3,z2,y2]) rfl ⟨rfl,(hb.setCell (up2 _) _).setCell (up2 _) _⟩
   | exact bodyPost_ret (v:=.agg #[.int .i64 0,.int .i64 0]) (by simp [results,Tryz.results70,go_sem,hc,hc2,hc3,z2,y2]) rfl ⟨rfl,(hb.setCell (up2 _) _).setCell (up2 _) _⟩
end Go.Proofs.YtgihekokbgggcaaGreat.S2
namespace Go.Proofs.YtgihekokbgggcaaGreat.S2
open Go.RowKit Spn
theorem meet_n1 (f t g u : Int) (w : World) (h1 : okB (f,t) = false) :
  Calls Tryz.prog 70 #[.agg #[.int .i64 f,.int .i64 t],.agg #[.int .i64 g,.int .i64 u]] w fun e w' => e = .returned (.agg #[.int .i64 0,.int .i64 0]) /\ Below w.heap.size w w':=by
 have H1:=hide h1
 clear h1
 by_cases c1 : g <= f <;> by_cases c2 : t <= u
 all_goals
  go_enter Tryz.func70,Tryz.ntmps70
  go_wp2_with fail
  refine (is_at _ _ false _ H1.out).mono ?_
  rintro e w1 ⟨rfl,hb1⟩
  obtain ⟨hc,hf⟩:=old hb1
  obtain ⟨z0,z1,z2,z3⟩:=sizes4 (by simpa using hb1.size)
  go_wp2_with fail
  have hb : Below w.heap.size w w1:=andthen (more (more (more (more (start _) _) _) _) _) hb1
  exact bodyPost_ret (v:=.agg #[.int .i64 0,.int .i64 0]) (by simp [results,Tryz.results70,go_sem,hc]) rfl ⟨rfl,(hb.setCell (up2 _) _).setCell (up2 _) _⟩
theorem meet_n2 (f t g u : Int) (w : World) (h1 : okB (f,t) = true) (h2 : okB (g,u) = false) :
  Calls Tryz.prog 70 #[.agg #[.int .i64 f,.int .i64 t],.agg #[.int .i64 g,.int .i64 u]] w fun e w' => e = .returned (.agg #[.int .i64 0,.int .i64 0]) /\ Below w.heap.size w w':=by
 have H1:=hide h1
 have H2:=hide h2
 clear h1 h2
 by_cases c1 : g <= f <;> by_cases c2 : t <= u
 all_goals
  go_enter Tryz.func70,Tryz.ntmps70
  go_wp2_with fail
  refine (is_at _ _ true _ H1.out).mono ?_
  rintro e w1 ⟨rfl,hb1⟩
  obtain ⟨hc,hf⟩:=old hb1
  obtain ⟨z0,z1,z2,z3⟩:=sizes4 (by simpa using hb1.size)
  go_wp2_with fail
  refine (is_at _ _ false _ H2.out).mono ?_
  rintro e w2 ⟨rfl,hb2⟩
  obtain ⟨hc2,hf2⟩:=old hb2
  obtain ⟨y0,y1,y2,y3⟩:=sizes4 (Nat.le_trans (by simpa using hb1.size) hb2.size)
  go_wp2_with fail
  have hb : Below w.heap.size w w2:=andthen (andthen (more (more (more (more (start _) _) _) _) _) hb1) hb2
  exact bodyPost_ret (v:=.agg #[.int .i64 0,.int .i64 0]) (by simp [results,Tryz.results70,go_sem,hc,hc2,z2]) rfl ⟨rfl,(hb.setCell (up2 _) _).setCell (up2 _) _⟩
theorem meet_any (f t g u : Int) (w : World) :
  Calls Tryz.prog 70 #[.agg #[.int .i64 f,.int .i64 t],.agg #[.int .i64 g,.int .i64 u]] w fun e w' => e = .returned (.agg #[.int .i64 (meet (f,t) (g,u)).1,.int .i64 (meet (f,t) (g,u)).2]) /\ Below w.heap.size w w':=by
 cases h1 : okB (f,t)
 ·rw [meet_no1 _ _ h1]; exact meet_n1 f t g u w h1
 ·cases h2 : okB (g,u)
  ·rw [meet_no2 _ _ h2]; exact meet_n2 f t g u w h1 h2
  ·have c1 : (g <= f /\ max f g = f) ∨ (f < g /\ max f g = g):=by omega
   have c2 : (t <= u /\ min t u = t) ∨ (u < t /\ min t u = u):=by omega
   cases h3 : okB (max f g,min t u)
   ·rw [meet_no3 (f,t) (g,u) h3]; exact meet_w f t g u _ _ 0 0 w c1 c2 h1 h2 (Or.inr ⟨h3,rfl,rfl⟩)
   ·rw [meet_yes (f,t) (g,u) h1 h2 h3]; exact meet_w f t g u _ _ _ _ w c1 c2 h1 h2 (Or.inl ⟨h3,rfl,rfl⟩)
theorem meet_is (f t g u x y : Int) (w : World) (h : meet (f,t) (g,u) = (x,y)) :
  Calls Tryz.prog 70 #[.agg #[.int .i64 f,.int .i64 t],.agg #[.int .i64 g,.int .i64 u]] w fun e w' => e = .returned (.agg #[.int .i64 x,.int .i64 y]) /\ Below w.heap.size w w':=by
 have:=meet_any f t g u w
 rwa [h] at this
theorem tch_no1 (f t g u : Int) (h : okB (f,t) = false) : touchB (f,t) (g,u) = false:=by
 unfold touchB; rw [decide_eq_false]; intro hc; rw [okB_not] at h; exact h hc.1
theorem tch_no2 (f t g u : Int) (h : okB (g,u) = false) : touchB (f,t) (g,u) = false:=by
 unfold touchB; rw [decide_eq_false]; intro hc; rw [okB_not] at h; exact h hc.2.1
theorem tch_no3 (f t g u : Int) (h : ¬ f <= u) : touchB (f,t) (g,u) = false:=by
 unfold touchB; rw [decide_eq_false]; intro hc; exact h hc.2.2.1
theorem tch_yes (f t g u : Int) (h1 : okB (f,t) = true) (h2 : okB (g,u) = true) (h : f <= u) : touchB (f,t) (g,u) = decide (g <= t):=by
 unfold touchB Tch; rw [okB_iff] at h1 h2; simp [h1,h2,h]
theorem touch_any (f t g u : Int) (w : World) :
  Calls Tryz.prog 94 #[.agg #[.int .i64 f,.int .i64 t],.agg #[.int .i64 g,.int .i64 u]] w fun e w' => e = .returned (.bool (touchB (f,t) (g,u))) /\ Below w.heap.size w w':=by
 cases h1 : okB (f,t)
 ·have H:=hide (tch_no1 f t g u h1)
  have H1:=hide h1
  clear h1
  go_enter Tryz.func94,Tryz.ntmps94
  go_wp2_with fail
  refine (is_at _ _ false _ H1.out).mono ?_
  rintro e w1 ⟨rfl,hb1⟩
  go_wp2_with fail
  go_ret
  exact ⟨ret_bool (by rw [H.out]),andthen (more (more (start _) _) _) hb1⟩
 ·cases h2 : okB (g,u)
  ·have H:=hide (tch_no2 f t g u h2)
   have H1:=hide h1
   have H2:=hide h2
   clear h1 h2
   go_enter Tryz.func94,Tryz.ntmps94
   go_wp2_with fail
   refine (is_at _ _ true _ H1.out).mono ?_
   rintro e w1 ⟨rfl,hb1⟩
   obtain ⟨hc,hf⟩:=old hb1
   have z0 : w.heap.size < w1.heap.size:=by have:=hb1.size; simp only [World.size_alloc] at this; omega
   have z1 : w.heap.size + 1 < w1.heap.size:=by have:=hb1.size; simp only [World.size_alloc] at this; omega
   go_wp2_with fail
   refine (is_at _ _ false _ H2.out).mono ?_
   rintro e w2 ⟨rfl,hb2⟩
   go_wp2_with fail
   go_ret
   exact ⟨ret_bool (by rw [H.out]),andthen (andthen (more (more (start _) _) _) hb1) hb2⟩
  ·by_cases h3 : f <= u
   ·have H:=hide (tch_yes f t g u h1 h2 h3)
    have H1:=hide h1
    have H2:=hide h2
    clear h1 h2
    go_enter Tryz.func94,Tryz.ntmps94
    go_wp2_with fail
    refine (is_at _ _ true _ H1.out).mono ?_
    rintro e w1 ⟨rfl,hb1⟩
    obtain ⟨hc,hf⟩:=old hb1
    have z0 : w.heap.size < w1.heap.size:=by have:=hb1.size; simp only [World.size_alloc] at this; omega
    have z1 : w.heap.size + 1 < w1.heap.size:=by have:=hb1.size; simp only [World.size_alloc] at this; omega
    go_wp2_with fail
    refine (is_at _ _ true _ H2.out).mono ?_
    rintro e w2 ⟨rfl,hb2⟩
    obtain ⟨hc2,hf2⟩:=old hb2
    have y0 : w.heap.size < w2.heap.size:=by have:=hb2.size; omega
    have y1 : w.heap.size + 1 < w2.heap.size:=by have:=hb2.size; omega
    go_wp2_with fail
    all_goals
     go_ret
     exact ⟨ret_bool (by rw [H.out]),andthen (andthen (more (more (start _) _) _) hb1) hb2⟩
   ·have H:=hide (tch_no3 f t g u h3)
    have H1:=hide h1
    have H2:=hide h2
    clear h1 h2
    go_enter Tryz.func94,Tryz.ntmps94
    go_wp2_with fail
    refine (is_at _ _ true _ H1.out).mono ?_
    rintro e w1 ⟨rfl,hb1⟩
    obtain ⟨hc,hf⟩:=old hb1
    have z0 : w.heap.size < w1.heap.size:=by have:=hb1.size; simp only [World.size_alloc] at this; omega
    have z1 : w.heap.size + 1 < w1.heap.size:=by have:=hb1.size; simp only [World.size_alloc] at this; omega
    go_wp2_with fail
    refine (is_at _ _ true _ H2.out).mono ?_
    rintro e w2 ⟨rfl,hb2⟩
    obtain ⟨hc2,hf2⟩:=old hb2
    have y0 : w.heap.size < w2.heap.size:=by have:=hb2.size; omega
    have y1 : w.heap.size + 1 < w2.heap.size:=by have:=hb2.size; omega
    go_wp2_with fail
    go_ret
    exact ⟨ret_bool (by rw [H.out]),andthen (andthen (more (more (start _) _) _) hb1) hb2⟩
end Go.Proofs.YtgihekokbgggcaaGreat.S2
namespace Go.Proofs.YtgihekokbgggcaaGreat.S2
open Go.RowKit Spn
def cellsL (l : List Sp) : List Value:=l.flatMap fun a => [.int .i64 a.1,.int .i64 a.2]
theorem cellsL_cons (a : Sp) (l : List Sp) : cellsL (a :: l) = .int .i64 a.1 :: .int .i64 a.2 :: cellsL l:=rfl
theorem cellsL_append (l k : List Sp) : cellsL (l ++ k) = cellsL l ++ cellsL k:=by simp [cellsL]
theorem cellsL_len : ∀ l : List Sp,(cellsL l).length = l.length * 2
 | [] => rfl
 | a :: l => by rw [cellsL_cons,List.length_cons,List.length_cons,cellsL_len l,List.length_cons]; omega
theorem cellsL_get : ∀ (l : List Sp) (i : Nat) (h : i < l.length),(cellsL l)[i * 2]? = some (.int .i64 l[i].1) /\ (cellsL l)[i * 2 + 1]? = some (.int .i64 l[i].2)
 | [],i,h => absurd h (Nat.not_lt_zero i)
 | a :: l,0,_ => by simp [cellsL_cons]
 | a :: l,i + 1,h => by
  have hi : i < l.length:=by simpa using h
  have:=cellsL_get l i hi
  rw [cellsL_cons,show (i + 1) * 2 = i * 2 + 1 + 1 by omega]
  simpa using this
theorem cellsL_one (l : List Sp) : ∀ u ∈ cellsL l,u.oneCell' = true:=by
 intro u hu
 obtain ⟨a,_,h⟩:=List.mem_flatMap.1 hu
 simp only [List.mem_cons,List.not_mem_nil,or_false] at h
 rcases h with rfl | rfl <;> rfl
def Row (w : World) (A : Option Addr) (l : List Sp) : Prop :=
 l ≠ [] -> ∃ b off,A = some ⟨b,off,none⟩ /\ b < w.heap.size /\ ∀ i (h : i < l.length),
  w.cell? ⟨b,off + i * 2,none⟩ = some (.int .i64 l[i].1) /\ w.cell? ⟨b,off + i * 2 + 1,none⟩ = some (.int .i64 l[i].2)
theorem Row.nil (w : World) (A : Option Addr) : Row w A []:=fun h => absurd rfl h
theorem Row.keep {w w1 : World} {A : Option Addr} {l : List Sp} (h : Row w A l) (hb : Below w.heap.size w w1) : Row w1 A l:=fun hl => by
 obtain ⟨b,off,e,hlt,hc⟩:=h hl
 exact ⟨b,off,e,Nat.lt_of_lt_of_le hlt hb.size,fun i hi => ⟨(hb.cell (p:=⟨b,_,none⟩) hlt).trans (hc i hi).1,(hb.cell (p:=⟨b,_,none⟩) hlt).trans (hc i hi).2⟩⟩
abbrev Own (w : World) (B : Nat) (v : Value) (l : List Sp) : Prop:=w.ownsRow B 23 2 v l.length (cellsL l)
theorem plus (g j : Nat) : (⟨g,0,none⟩ : Addr).add j = ⟨g,j,none⟩:=by unfold Addr.add; split <;> simp_all
theorem Own.row {w : World} {B : Nat} {v : Value} {l : List Sp} (h : Own w B v l) : ∃ A cap,v = .slice A l.length cap /\ Row w A l:=by
 have h2:=h.2
 rcases h2 with ⟨rfl,hn⟩ | ⟨g,cap,cur,rfl,hb,hg,hnc,hcm,hcs,htake⟩
 ·refine ⟨none,0,by rw [hn],fun hl => absurd (List.eq_nil_of_length_eq_zero hn) hl⟩
 ·refine ⟨some ⟨g,0,none⟩,cap,rfl,fun _ => ⟨g,0,rfl,(h.lt g rfl).2,fun i hi => ?_⟩⟩
  have hc:=World.ownsRow.cells h (g:=g) rfl
  obtain ⟨c1,c2⟩:=cellsL_get l i hi
  have g1:=hc _ _ c1
  have g2:=hc _ _ c2
  rw [plus] at g1 g2
  rw [Nat.zero_add]
  exact ⟨g1,g2⟩
theorem Own.keep {w w1 : World} {B : Nat} {v : Value} {l : List Sp} (h : Own w B v l) (hb : Below w.heap.size w w1) : Own w1 B v l :=
 World.ownsRow.kept (row:=none) h ⟨hb.os,hb.tape,hb.output,hb.size,fun i hi _ => hb.block i hi⟩ (by cases v.ownBlock <;> simp)
def Gives (W : World) (l : List Sp) (e : Ending) (w : World) : Prop:=∃ v,e = .returned v /\ Own w W.heap.size v l /\ Below W.heap.size W w
theorem span_info : (Tryz.prog.info? 23).map (fun i => (i.zero,i.size,i.bytes)) = some (some (.agg #[.int .i64 0,.int .i64 0]),2,16):=by kernel_rfl
theorem wp_one {ops : Array Oper} {rest : List Oper} {o : Oper} {a : Act} {Q : Exit -> Act -> World -> Prop} {w : World} {B : Nat} {v : Value} {l : List Sp} {p : Sp} (hgd : o.guard = none) (s x : Operand)
  (ho : o.op = .call { callee:=.builtin .append,args:=#[s,x],argTypes:=#[52,52] }) (hs : a.eval s = v) {N : Nat} (hN : w.heap.size = N) (hx : a.eval x = .slice (some ⟨N,0,none⟩) 1 1)
  (hown : Own w B v l) (hB : B <= w.heap.size) (hn : l.length <= 1000000)
  (h : ∀ v' w',Own w' B v' (l ++ [p]) -> Below B w w' -> wpList Tryz.prog ops Q rest (a.put o.dst v') w') :
  wpList Tryz.prog ops Q (o :: rest) a (w.alloc (.cells #[.int .i64 p.1,.int .i64 p.2] 23)):=by
 subst hN
 obtain ⟨i0,hi,hz0,hz1,hz2⟩:=info_parts span_info
 refine wpList_append_own _ hgd s x 52 ho B 23 i0 _ 2 16 Tryz.underlying52 hi hz0 hz1 hz2 rfl (by decide) v l.length (cellsL l) hs (hown.alloc _) ⟨w.heap.size,0,none⟩ 1 1 [.int .i64 p.1,.int .i64 p.2] hx rfl ?_ ?_ ?_ ?_ ?_ ?_
 ·intro j u hu
  rw [plus,World.cell?_alloc_at _ _ _ _ rfl]
  exact (by simpa using hu)
 ·intro u hu
  simp only [List.mem_cons,List.not_mem_nil,or_false] at hu
  rcases hu with rfl | rfl <;> rfl
 ·unfold maxLen; omega
 ·omega
 ·simp only [World.size_alloc]; omega
 ·intro v' w' h2 h3 _
  refine h v' w' (by rw [Own,cellsL_append,List.length_append]; exact h2) (((Below.refl B w).alloc hB _).grown h3 (by simp only [World.size_alloc]; omega) fun j hj => (hown.lt j hj).1)
theorem valid_snoc (l : List Sp) (k : Nat) (h : k < l.length) (hb : okB l[k] = true) : valid (l.take (k + 1)) = valid (l.take k) ++ [l[k]]:=by
 rw [List.take_succ_eq_append_getElem h]; unfold valid; rw [List.filter_append]; simp [hb]
theorem valid_skip (l : List Sp) (k : Nat) (h : k < l.length) (hb : okB l[k] = false) : valid (l.take (k + 1)) = valid (l.take k):=by
 rw [List.take_succ_eq_append_getElem h]; unfold valid; rw [List.filter_append]; simp [hb]
theorem valid_len (l : List Sp) : (valid l).length <= l.length:=List.length_filter_le _ _
theorem valid_some (b off c : Nat) (l : List Sp) (w : World) (hb : b < w.heap.size) (hn : l.length <= 1000000)
  (hc : ∀ i (h : i < l.length),w.cell? ⟨b,off + i * 2,none⟩ = some (.int .i64 l[i].1) /\ w.cell? ⟨b,off + i * 2 + 1,none⟩ = some (.int .i64 l[i].2)) :
  Calls Tryz.prog 91 #[.slice (some ⟨b,off,none⟩) l.length c] w (Gives w (valid l)):=by
 obtain ⟨i0,hi,hz0,hz1,hz2⟩:=info_parts span_info
 have HC:=hide hc
 clear hc
 go_enter Tryz.func91,Tryz.ntmps91
 go_wp2_with fail
 go_loopw [3,8] (fun v i wr => ∃ k : Nat,k <= l.length /\ i = .int .i64 k /\ Own wr w.heap.size v (valid (l.take k)) /\ Below w.heap.size w wr) (fun _ i _ => l.length - (intOf i).toNat)
 case atStart => exact ⟨0,Nat.zero_le _,rfl,World.ownsRow_nil _ _ _ _,start _⟩
 case round =>
  obtain ⟨k,hk,rfl,hown,hbw⟩:=hrel
  by_cases hlt : k < l.length
  ·obtain ⟨c1,c2⟩:=HC.out k hlt
   obtain ⟨hc,hf⟩:=old hbw
   have hsz:=hbw.size
   have hvl:=valid_len (l.take k)
   have htl : (l.take k).length <= k:=List.length_take_le _ _
   cases hok : okB (l[k].1,l[k].2)
   ·have HOK:=hide hok
    have HV:=hide (valid_skip l k hlt hok)
    clear hok
    go_wp2_with fail
    refine (is_at _ _ false _ HOK.out).mono ?_
    rintro e w1 ⟨rfl,hb1⟩
    have hbb:=andthen (more (start _) _) hb1
    go_wp2_with fail
    go_roundw
    case rel => exact ⟨k + 1,by omega,by go_num,by rw [HV.out]; exact Own.keep hown hbb,hbw.trans (hbb.mono hsz)⟩
    case measure => simp [intOf]; omega
   ·have HOK:=hide hok
    have HV:=hide (valid_snoc l k hlt hok)
    clear hok
    go_wp2_with fail
    refine (is_at _ _ true _ HOK.out).mono ?_
    rintro e w1 ⟨rfl,hb1⟩
    have hbb:=andthen (more (start _) _) hb1
    have hown1:=Own.keep hown hbb
    obtain ⟨hd,he⟩:=old hb1
    have hzz : wr.heap.size < w1.heap.size:=by have:=hb1.size; simp only [World.size_alloc] at this; omega
    go_wp2_with (at_builtin; refine wp_one (p:=l[k]) rfl _ _ rfl rfl rfl rfl hown1 (by omega) (by omega) ?_; intro v2 w2 hown2 hbw2)
    go_roundw
    case rel => exact ⟨k + 1,by omega,by go_num,by rw [HV.out]; exact hown2,(hbw.trans (hbb.mono hsz)).trans hbw2⟩
    case measure => simp [intOf]; omega
  ·obtain rfl : k = l.length:=by omega
   rw [List.take_length] at hown
   go_wp2_with fail
   go_ret
   exact ⟨_,rfl,hown,hbw⟩
end Go.Proofs.YtgihekokbgggcaaGreat.S2
namespace Go.Proofs.YtgihekokbgggcaaGreat.S2
open Go.RowKit Spn
theorem valid_none (A : Option Addr) (c : Nat) (w : World) : Calls Tryz.prog 91 #[.slice A 0 c] w (Gives w []):=by
 go_enter Tryz.func91,Tryz.ntmps91
 go_wp2_with fail
 refine wp_loop_rounds 1 ?_
 rw [rounds_succ]
 go_wp2_with fail
 go_ret
 exact ⟨_,rfl,World.ownsRow_nil _ _ _ _,start _⟩
theorem valid_any (A : Option Addr) (n c : Nat) (l : List Sp) (w : World) (h : Row w A l) (he : n = l.length) (hn : l.length <= 1000000) :
  Calls Tryz.prog 91 #[.slice A n c] w (Gives w (valid l)):=by
 subst he
 by_cases hl : l = []
 ·subst hl; exact valid_none A c w
 ·obtain ⟨b,off,rfl,hb,hc⟩:=h hl
  exact valid_some b off c l w hb hn hc
theorem row_one {w : World} {b : Nat} {p : Sp} (hb : b < w.heap.size) (h0 : w.cell? ⟨b,0,none⟩ = some (.int .i64 p.1)) (h1 : w.cell? ⟨b,1,none⟩ = some (.int .i64 p.2)) : Row w (some ⟨b,0,none⟩) [p]:=fun _ =>
 ⟨b,0,rfl,hb,fun i hi => by
  obtain rfl : i = 0:=by simpa using hi
  exact ⟨h0,h1⟩⟩
theorem Own.low {w : World} {B B' : Nat} {v : Value} {l : List Sp} (h : Own w B' v l) (hB : B <= B') : Own w B v l:=by
 refine ⟨h.1,?_⟩
 rcases h.2 with h2 | ⟨g,cap,cur,h1,h2,h3⟩
 ·exact Or.inl h2
 ·exact Or.inr ⟨g,cap,cur,h1,Nat.le_trans hB h2,h3⟩
theorem Gives.of {W w : World} {B : Nat} {v : Value} {l : List Sp} (h : Own w B v l) (hB : W.heap.size <= B) (hw : Below W.heap.size W w) : Gives W l (.returned v) w:=⟨v,rfl,h.low hB,hw⟩
end Go.Proofs.YtgihekokbgggcaaGreat.S2

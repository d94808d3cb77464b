/- ScRD; ScL of the recipes, what is needed of them. -/
import Derived.Laws.OwnMore
import Derived.Deep.WholeRow
import Derived.Test.YtlmdceeeahnkcaaGreatDoorZQ8
import Derived.Test.YtlmdceeeahnkcaaGreatDoorZQ3
import Derived.Test.YtlmdceeeahnkcaaGreatDoorZQ4
namespace Go.Proofs.YtlmdceeeahnkcaaGreatDoor
open Go.RowKit Rul Rt Go.Sort Sc De Cl

/-- from block S on. -/
def Beyond (S : Nat) (A : Option Addr) : Prop := ∀ b o, A = some ⟨b, o, none⟩ → S ≤ b
theorem Beyond.low {S S2 : Nat} {A : Option Addr} (h : Beyond S A) (hs : S2 ≤ S) : Beyond S2 A := fun b o e => Nat.le_trans hs (h b o e)
/-- rows of a call's own, told by where they lie. -/
structure KI (S : Nat) (w : World) (A : Option Addr) (l : List Int) : Prop where
  r : RowI w A l
  b : Beyond S A
structure KD (S : Nat) (w : World) (A : Option Addr) (l : List Wd) : Prop where
  r : RowD w A l
  b : Beyond S A
structure KC (S : Nat) (w : World) (A : Option Addr) (l : List C) : Prop where
  r : S2.RowC w A l
  b : Beyond S A
theorem KI.low {S T : Nat} {w : World} {A : Option Addr} {l : List Int} (h : KI S w A l) (hs : T ≤ S) : KI T w A l := ⟨h.r, h.b.low hs⟩
theorem KD.low {S T : Nat} {w : World} {A : Option Addr} {l : List Wd} (h : KD S w A l) (hs : T ≤ S) : KD T w A l := ⟨h.r, h.b.low hs⟩
theorem KC.low {S T : Nat} {w : World} {A : Option Addr} {l : List C} (h : KC S w A l) (hs : T ≤ S) : KC T w A l := ⟨h.r, h.b.low hs⟩
theorem KI.go {S k : Nat} {w w1 : World} {A : Option Addr} {l : List Int} (h : KI S w A l) (g : w.grownBy w1 (some k)) (hk : k < S) : KI S w1 A l := ⟨fun hn => by
  obtain ⟨b, o, e, hl, hc⟩ := h.r hn
  have hb := h.b b o e
  have hh := g.block b hl (by intro q; injection q with q; omega)
  exact ⟨b, o, e, Nat.lt_of_lt_of_le hl g.size, fun i hi => (World.cell?_of_block (a := ⟨b, _, none⟩) hh).trans (hc i hi)⟩, h.b⟩
theorem KD.go {S k : Nat} {w w1 : World} {A : Option Addr} {l : List Wd} (h : KD S w A l) (g : w.grownBy w1 (some k)) (hk : k < S) : KD S w1 A l := ⟨fun hn => by
  obtain ⟨b, o, e, hl, hc⟩ := h.r hn
  have hb := h.b b o e
  have hh := g.block b hl (by intro q; injection q with q; omega)
  exact ⟨b, o, e, Nat.lt_of_lt_of_le hl g.size, fun i hi => ⟨(World.cell?_of_block (a := ⟨b, _, none⟩) hh).trans (hc i hi).1, (World.cell?_of_block (a := ⟨b, _, none⟩) hh).trans (hc i hi).2⟩⟩, h.b⟩
theorem KC.go {S k : Nat} {w w1 : World} {A : Option Addr} {l : List C} (h : KC S w A l) (g : w.grownBy w1 (some k)) (hk : k < S) : KC S w1 A l := ⟨fun hn => by
  obtain ⟨b, o, e, hl, hc⟩ := h.r hn
  have hb := h.b b o e
  have hh := g.block b hl (by intro q; injection q with q; omega)
  exact ⟨b, o, e, Nat.lt_of_lt_of_le hl g.size, fun i hi => ⟨(World.cell?_of_block (a := ⟨b, _, none⟩) hh).trans (hc i hi).1, (World.cell?_of_block (a := ⟨b, _, none⟩) hh).trans (hc i hi).2.1, (World.cell?_of_block (a := ⟨b, _, none⟩) hh).trans (hc i hi).2.2⟩⟩, h.b⟩
theorem own_beyond {w : World} {B : Nat} {e : TypeId} {s n c m : Nat} {A : Option Addr} {xs : List Value} (h : w.ownsRow B e s (.slice A m c) n xs) : Beyond B A := fun b o q => by
  rcases h.2 with ⟨hv, _⟩ | ⟨g, cap, cur, hv, hb, _⟩
  · injection hv with hv _ _; rw [hv] at q; cases q
  · injection hv with hv _ _; rw [hv] at q; injection q with q; injection q with q _ _; omega
theorem own_KI {w : World} {B : Nat} {v : Value} {l : List Int} (h : OwnI w B v l) : ∃ A c, v = .slice A l.length c ∧ KI B w A l := by
  obtain ⟨A, c, rfl, hr⟩ := OwnI.row h; exact ⟨A, c, rfl, hr, own_beyond (c := c) h⟩
theorem own_KD {w : World} {B : Nat} {v : Value} {l : List Wd} (h : OwnD w B v l) : ∃ A c, v = .slice A l.length c ∧ KD B w A l := by
  obtain ⟨A, c, rfl, hr⟩ := OwnD.row h; exact ⟨A, c, rfl, hr, own_beyond (c := c) h⟩
theorem own_KC {w : World} {B : Nat} {v : Value} {l : List C} (h : S2.OwnC w B v l) : ∃ A c, v = .slice A l.length c ∧ KC B w A l := by
  obtain ⟨A, c, rfl, hr⟩ := S2.OwnC.row h; exact ⟨A, c, rfl, hr, own_beyond (c := c) h⟩
theorem grown_setCells (vs : List Value) : ∀ (w : World) (b o : Nat), w.grownBy (w.setCells b o vs) (some b) := by
  induction vs with
  | nil => intro w b o; exact ⟨rfl, rfl, rfl, Nat.le_refl _, fun _ _ _ => rfl⟩
  | cons v vs ih =>
    intro w b o
    have h := ih (w.setCell ⟨b, o, none⟩ v) b (o + 1)
    have hs : (w.setCell ⟨b, o, none⟩ v).heap.size = w.heap.size := by simp [World.setCell]
    exact ⟨h.os, h.tape, h.output, hs ▸ h.size, fun k hk hx => (h.block k (hs.symm ▸ hk) hx).trans (Below.heap_setCell _ _ _ _ (fun e => hx (by rw [e])))⟩
def RdI (B X f : Nat) (w : World) (l : List Int) (t : Tx) (e : Ending) (w' : World) : Prop := ∃ A c, e = .returned (.slice A l.length c) ∧ KI w.heap.size w' A l ∧ FX X f w w' ∧ Rd B X f w' t
def RdW (B X f : Nat) (w : World) (l : List Wd) (t : Tx) (e : Ending) (w' : World) : Prop := ∃ A c, e = .returned (.slice A l.length c) ∧ KD w.heap.size w' A l ∧ FX X f w w' ∧ Rd B X f w' t
def RdC (B X f : Nat) (w : World) (l : List C) (t : Tx) (e : Ending) (w' : World) : Prop := ∃ A c, e = .returned (.slice A l.length c) ∧ KC w.heap.size w' A l ∧ FX X f w w' ∧ Rd B X f w' t
theorem wds_any (B X f : Nat) (t : Tx) (w : World) (h : Rd B X f w t) : Calls Tryz.prog 135 #[.pointer (some ⟨X, f, none⟩), .func (.func 136) #[.pointer (some ⟨X, f, none⟩)] #[]] w (RdW B X f w (lst wdy t).1 (lst wdy t).2) :=
  (list_wd B X f t w h).mono fun e w' ⟨v, he, ho, hf, hr⟩ => by
    obtain ⟨A, c, rfl, hk⟩ := own_KD ho
    exact ⟨A, c, he, hk, hf, hr⟩
theorem cls_any (B X f : Nat) (t : Tx) (w : World) (h : Rd B X f w t) : Calls Tryz.prog 76 #[.pointer (some ⟨X, f, none⟩), .func (.func 77) #[.pointer (some ⟨X, f, none⟩)] #[]] w (RdC B X f w (lst clm t).1 (lst clm t).2) :=
  (list_cl B X f t w h).mono fun e w' ⟨v, he, ho, hf, hr⟩ => by
    obtain ⟨A, c, rfl, hk⟩ := own_KC ho
    exact ⟨A, c, he, hk, hf, hr⟩
set_option maxRecDepth 100000 in
set_option maxHeartbeats 800000 in
theorem ints_any (B X f : Nat) (t : Tx) (w : World) (h : Rd B X f w t) : Calls Tryz.prog 101 #[.pointer (some ⟨X, f, none⟩)] w (RdI B X f w (lst num t).1 (lst num t).2) := by
  have hmf : ∀ (fn : Fn) (first cap : Array Value) (w : World), (Instr.makeFunc fn first cap).run Tryz.prog w = .ok (.func fn first cap) w := fun _ _ _ _ => rfl
  have HL := hide (list_int B X f t w h)
  clear h
  generalize lst num t = R at *
  obtain ⟨l, s⟩ := R
  dsimp only at *
  go_enter Tryz.func101, Tryz.ntmps101
  go_wp2_with fail
  refine HL.out.mono ?_
  rintro e w1 ⟨v, rfl, ho, hf, hr⟩
  obtain ⟨A, c, rfl, hk⟩ := own_KI ho
  have HK := hide hk
  have HF := hide hf
  have HR := hide hr
  clear ho hk hf hr
  go_wp2_with fail
  go_ret
  exact ⟨A, c, rfl, HK.out, HF.out, HR.out⟩
theorem ownY_conv {w : World} {B : Nat} {v : Value} {l : Tx} (h : OwnY w B v l) : (convert 44 9 v).run Tryz.prog w = .ok (.string (str l)) w := by
  rcases h.2 with ⟨rfl, hn⟩ | ⟨g, cap, cur, rfl, hb, hg, hnc, hcm, hcs, htake⟩
  · obtain rfl := List.eq_nil_of_length_eq_zero hn
    kernel_rfl
  · exact run_convert_bytes_back w _ _ 5 _ cap l Tryz.underlying44 Tryz.underlying5 Tryz.underlying9 (fun j hj => by
      have hc := World.ownsRow.cells h (g := g) rfl
      have g1 := hc j (.int .u8 (((l[j]).toNat : Nat) : Int)) (by simp [cellsY, hj])
      exact g1)
set_option maxRecDepth 100000 in
set_option maxHeartbeats 800000 in
theorem letters_any (B X f : Nat) (t : Tx) (w : World) (h : Rd B X f w t) : Calls Tryz.prog 100 #[.pointer (some ⟨X, f, none⟩)] w (RdS B X f w (.string (str (lst ltr t).1)) (lst ltr t).2) := by
  have hmf : ∀ (fn : Fn) (first cap : Array Value) (w : World), (Instr.makeFunc fn first cap).run Tryz.prog w = .ok (.func fn first cap) w := fun _ _ _ _ => rfl
  have HL := hide (list_byte B X f t w h)
  clear h
  generalize lst ltr t = R at *
  obtain ⟨l, s⟩ := R
  dsimp only at *
  go_enter Tryz.func100, Tryz.ntmps100
  go_wp2_with fail
  refine HL.out.mono ?_
  rintro e w1 ⟨v, rfl, ho, hf, hr⟩
  have hcv := ownY_conv ho
  have HF := hide hf
  have HR := hide hr
  clear ho hf hr
  go_wp2_with fail
  go_ret
  exact ⟨rfl, HF.out, HR.out⟩
/-- a rule is read. -/
def RdU (B X f : Nat) (w : World) (r : Rul.T) (t : Tx) (e : Ending) (w' : World) : Prop :=
  ∃ D dc M mc Y yc, e = .returned (.agg #[.int .i64 r.fr, .int .i64 r.ev, .int .i64 r.ct, .int .i64 r.un, .slice D r.ds.length dc, .slice M r.ms.length mc, .slice Y r.ys.length yc]) ∧ KD w.heap.size w' D r.ds ∧ KI w.heap.size w' M r.ms ∧ KI w.heap.size w' Y r.ys ∧ FX X f w w' ∧ Rd B X f w' t
set_option maxRecDepth 100000 in
set_option maxHeartbeats 3200000 in
theorem rrule_any (B X f : Nat) (t : Tx) (w : World) (h : Rd B X f w t) :
    Calls Tryz.prog 102 #[.pointer (some ⟨X, f, none⟩)] w (RdU B X f w (rulE t).1 (rulE t).2) := by
  have hmf : ∀ (fn : Fn) (first cap : Array Value) (w : World), (Instr.makeFunc fn first cap).run Tryz.prog w = .ok (.func fn first cap) w := fun _ _ _ _ => rfl
  have HX := hide h.lt
  have HT0 := hide (there_new w #[.int .i64 0, .int .i64 0, .int .i64 0, .int .i64 0, .slice none 0 0, .slice none 0 0, .slice none 0 0] 27 7 (by simp))
  have F0 := hide (FX.of (f := f) (more (start w) (.cells #[.int .i64 0, .int .i64 0, .int .i64 0, .int .i64 0, .slice none 0 0, .slice none 0 0, .slice none 0 0] 27)) h.lt)
  have S0 : Hid (w.heap.size + 1 ≤ (w.alloc (.cells #[.int .i64 0, .int .i64 0, .int .i64 0, .int .i64 0, .slice none 0 0, .slice none 0 0, .slice none 0 0] 27)).heap.size) := hide (by simp)
  have H0 := hide (h.keep (more (start w) (.cells #[.int .i64 0, .int .i64 0, .int .i64 0, .int .i64 0, .slice none 0 0, .slice none 0 0, .slice none 0 0] 27)))
  have N0 := hide (fun w h => number_any B X f t w h)
  have N1 := hide (fun w h => number_any B X f (num t).2 w h)
  have N2 := hide (fun w h => number_any B X f (num (num t).2).2 w h)
  have N3 := hide (fun w h => number_any B X f (num (num (num t).2).2).2 w h)
  have N4 := hide (fun w h => wds_any B X f (num (num (num (num t).2).2).2).2 w h)
  have N5 := hide (fun w h => ints_any B X f (lst wdy (num (num (num (num t).2).2).2).2).2 w h)
  have N6 := hide (fun w h => ints_any B X f (lst num (lst wdy (num (num (num (num t).2).2).2).2).2).2 w h)
  have HE := hide (show rulE t = (⟨(num t).1, (num (num t).2).1, (num (num (num t).2).2).1, (num (num (num (num t).2).2).2).1, (lst wdy (num (num (num (num t).2).2).2).2).1, (lst num (lst wdy (num (num (num (num t).2).2).2).2).2).1, (lst num (lst num (lst wdy (num (num (num (num t).2).2).2).2).2).2).1⟩, (lst num (lst num (lst wdy (num (num (num (num t).2).2).2).2).2).2).2) from rfl)
  generalize num t = n0 at *
  obtain ⟨a0, s0⟩ := n0
  dsimp only at *
  generalize num s0 = n1 at *
  obtain ⟨a1, s1⟩ := n1
  dsimp only at *
  generalize num s1 = n2 at *
  obtain ⟨a2, s2⟩ := n2
  dsimp only at *
  generalize num s2 = n3 at *
  obtain ⟨a3, s3⟩ := n3
  dsimp only at *
  generalize lst wdy s3 = n4 at *
  obtain ⟨a4, s4⟩ := n4
  dsimp only at *
  generalize lst num s4 = n5 at *
  obtain ⟨a5, s5⟩ := n5
  dsimp only at *
  generalize lst num s5 = n6 at *
  obtain ⟨a6, s6⟩ := n6
  dsimp only at *
  clear h
  go_enter Tryz.func102, Tryz.ntmps102
  go_wp2_with fail
  refine (N0.out _ H0.out).mono ?_
  rintro e w1 ⟨rfl, f1, h1⟩
  have HT1 := hide (there_fx HT0.out f1 (by have := S0.out; omega) (by have := HX.out; omega))
  have S1 := hide (Nat.le_trans S0.out f1.size)
  have F1 := hide (F0.out.trans f1)
  have H1 := hide h1
  clear f1 h1
  go_wp2_with fail
  refine (N1.out _ H1.out).mono ?_
  rintro e w2 ⟨rfl, f1, h1⟩
  have HT2 := hide (there_fx HT1.out f1 (by have := S1.out; omega) (by have := HX.out; omega))
  have S2 := hide (Nat.le_trans S1.out f1.size)
  have F2 := hide (F1.out.trans f1)
  have H2 := hide h1
  clear f1 h1
  go_wp2_with fail
  refine (N2.out _ H2.out).mono ?_
  rintro e w3 ⟨rfl, f1, h1⟩
  have HT3 := hide (there_fx HT2.out f1 (by have := S2.out; omega) (by have := HX.out; omega))
  have S3 := hide (Nat.le_trans S2.out f1.size)
  have F3 := hide (F2.out.trans f1)
  have H3 := hide h1
  clear f1 h1
  go_wp2_with fail
  refine (N3.out _ H3.out).mono ?_
  rintro e w4 ⟨rfl, f1, h1⟩
  have HT4 := hide (there_fx HT3.out f1 (by have := S3.out; omega) (by have := HX.out; omega))
  have S4 := hide (Nat.le_trans S3.out f1.size)
  have F4 := hide (F3.out.trans f1)
  have H4 := hide h1
  clear f1 h1
  go_wp2_with fail
  refine (N4.out _ H4.out).mono ?_
  rintro e w5 ⟨A4, c4, rfl, k4, f1, h1⟩
  have HT5 := hide (there_fx HT4.out f1 (by have := S4.out; omega) (by have := HX.out; omega))
  have S5 := hide (Nat.le_trans S4.out f1.size)
  have Hk4 := hide (k4.low S4.out)
  have F5 := hide (F4.out.trans f1)
  have H5 := hide h1
  clear f1 h1 k4
  go_wp2_with fail
  refine (N5.out _ H5.out).mono ?_
  rintro e w6 ⟨A5, c5, rfl, k5, f1, h1⟩
  have HT6 := hide (there_fx HT5.out f1 (by have := S5.out; omega) (by have := HX.out; omega))
  have S6 := hide (Nat.le_trans S5.out f1.size)
  replace Hk4 := hide (Hk4.out.go f1.g (by have := HX.out; omega))
  have Hk5 := hide (k5.low S5.out)
  have F6 := hide (F5.out.trans f1)
  have H6 := hide h1
  clear f1 h1 k5
  go_wp2_with fail
  refine (N6.out _ H6.out).mono ?_
  rintro e w7 ⟨A6, c6, rfl, k6, f1, h1⟩
  have HT7 := hide (there_fx HT6.out f1 (by have := S6.out; omega) (by have := HX.out; omega))
  have S7 := hide (Nat.le_trans S6.out f1.size)
  replace Hk4 := hide (Hk4.out.go f1.g (by have := HX.out; omega))
  replace Hk5 := hide (Hk5.out.go f1.g (by have := HX.out; omega))
  have Hk6 := hide (k6.low S6.out)
  have F7 := hide (F6.out.trans f1)
  have H7 := hide h1
  clear f1 h1 k6
  go_wp2_with (first | refine store_mid rfl _ _ _ rfl w.heap.size 0 #[.int .i64 a0, .int .i64 a1, .int .i64 a2, .int .i64 a3, .slice A4 a4.length c4, .slice A5 a5.length c5, .slice A6 a6.length c6] rfl rfl HT7.out (by kernel_rfl) (by kernel_rfl) ?_ | refine build_at rfl 27 _ rfl #[.int .i64 a0, .int .i64 a1, .int .i64 a2, .int .i64 a3, .slice A4 a4.length c4, .slice A5 a5.length c5, .slice A6 a6.length c6] (by kernel_rfl) ?_)
  have hc := World.rangeAt_setCells_same w7 w.heap.size 0 [.int .i64 a0, .int .i64 a1, .int .i64 a2, .int .i64 a3, .slice A4 a4.length c4, .slice A5 a5.length c5, .slice A6 a6.length c6] HT7.out
  have HF := hide (FX.put (o := 0) (b := w.heap.size) F7.out [.int .i64 a0, .int .i64 a1, .int .i64 a2, .int .i64 a3, .slice A4 a4.length c4, .slice A5 a5.length c5, .slice A6 a6.length c6] (Nat.le_refl _) HX.out)
  have HR := hide (H7.out.low (below_setCells [.int .i64 a0, .int .i64 a1, .int .i64 a2, .int .i64 a3, .slice A4 a4.length c4, .slice A5 a5.length c5, .slice A6 a6.length c6] w.heap.size 0 (Below.refl w.heap.size _) (Nat.le_refl _)) HX.out)
  replace Hk4 := hide (Hk4.out.go (grown_setCells [.int .i64 a0, .int .i64 a1, .int .i64 a2, .int .i64 a3, .slice A4 a4.length c4, .slice A5 a5.length c5, .slice A6 a6.length c6] w7 w.heap.size 0) (Nat.lt_succ_self _))
  replace Hk5 := hide (Hk5.out.go (grown_setCells [.int .i64 a0, .int .i64 a1, .int .i64 a2, .int .i64 a3, .slice A4 a4.length c4, .slice A5 a5.length c5, .slice A6 a6.length c6] w7 w.heap.size 0) (Nat.lt_succ_self _))
  replace Hk6 := hide (Hk6.out.go (grown_setCells [.int .i64 a0, .int .i64 a1, .int .i64 a2, .int .i64 a3, .slice A4 a4.length c4, .slice A5 a5.length c5, .slice A6 a6.length c6] w7 w.heap.size 0) (Nat.lt_succ_self _))
  go_wp2_with fail
  refine bodyPost_ret (v := .agg [.int .i64 a0, .int .i64 a1, .int .i64 a2, .int .i64 a3, .slice A4 a4.length c4, .slice A5 a5.length c5, .slice A6 a6.length c6].toArray) ?_ ?_ ?_
  · exact results_mid rfl _ _ w.heap.size [.int .i64 a0, .int .i64 a1, .int .i64 a2, .int .i64 a3, .slice A4 a4.length c4, .slice A5 a5.length c5, .slice A6 a6.length c6] _ rfl hc Tryz.underlying27 rfl (by kernel_rfl)
  · rfl
  · rw [HE.out]
    exact ⟨A4, c4, A5, c5, A6, c6, rfl, Hk4.out.low (Nat.le_succ _), Hk5.out.low (Nat.le_succ _), Hk6.out.low (Nat.le_succ _), HF.out, HR.out⟩
/-- an event's rows, where they lie. -/
structure EvF (S : Nat) (w : World) (e : Ev.E) (m : Mem) : Prop where
  ro : KI S w m.O e.rooms
  rd : KD S w m.D e.r.ds
  rm : KI S w m.M e.r.ms
  ry : KI S w m.Y e.r.ys
  rx : KI S w m.X e.ex
theorem EvF.low {S T : Nat} {w : World} {e : Ev.E} {m : Mem} (h : EvF S w e m) (hs : T ≤ S) : EvF T w e m := ⟨h.ro.low hs, h.rd.low hs, h.rm.low hs, h.ry.low hs, h.rx.low hs⟩
theorem EvF.go {S k : Nat} {w w1 : World} {e : Ev.E} {m : Mem} (h : EvF S w e m) (g : w.grownBy w1 (some k)) (hk : k < S) : EvF S w1 e m := ⟨h.ro.go g hk, h.rd.go g hk, h.rm.go g hk, h.ry.go g hk, h.rx.go g hk⟩
def RdE (B X f : Nat) (w : World) (v : Ev.E) (t : Tx) (e : Ending) (w' : World) : Prop := ∃ m, e = .returned (.agg (evC v m).toArray) ∧ EvF w.heap.size w' v m ∧ FX X f w w' ∧ Rd B X f w' t
set_option maxRecDepth 100000 in
set_option maxHeartbeats 3200000 in
theorem revent_any (B X f : Nat) (t : Tx) (w : World) (h : Rd B X f w t) :
    Calls Tryz.prog 75 #[.pointer (some ⟨X, f, none⟩)] w (RdE B X f w (evtE t).1 (evtE t).2) := by
  have hmf : ∀ (fn : Fn) (first cap : Array Value) (w : World), (Instr.makeFunc fn first cap).run Tryz.prog w = .ok (.func fn first cap) w := fun _ _ _ _ => rfl
  have HX := hide h.lt
  have HT0 := hide (there_new w #[.string ByteArray.empty, .string ByteArray.empty, .int .i64 0, .int .i64 0, .slice none 0 0, .int .i64 0, .int .i64 0, .int .i64 0, .int .i64 0, .slice none 0 0, .slice none 0 0, .slice none 0 0, .slice none 0 0] 29 13 (by simp))
  have F0 := hide (FX.of (f := f) (more (start w) (.cells #[.string ByteArray.empty, .string ByteArray.empty, .int .i64 0, .int .i64 0, .slice none 0 0, .int .i64 0, .int .i64 0, .int .i64 0, .int .i64 0, .slice none 0 0, .slice none 0 0, .slice none 0 0, .slice none 0 0] 29)) h.lt)
  have S0 : Hid (w.heap.size + 1 ≤ (w.alloc (.cells #[.string ByteArray.empty, .string ByteArray.empty, .int .i64 0, .int .i64 0, .slice none 0 0, .int .i64 0, .int .i64 0, .int .i64 0, .int .i64 0, .slice none 0 0, .slice none 0 0, .slice none 0 0, .slice none 0 0] 29)).heap.size) := hide (by simp)
  have H0 := hide (h.keep (more (start w) (.cells #[.string ByteArray.empty, .string ByteArray.empty, .int .i64 0, .int .i64 0, .slice none 0 0, .int .i64 0, .int .i64 0, .int .i64 0, .int .i64 0, .slice none 0 0, .slice none 0 0, .slice none 0 0, .slice none 0 0] 29)))
  have N0 := hide (fun w h => letters_any B X f t w h)
  have N1 := hide (fun w h => letters_any B X f (lst ltr t).2 w h)
  have N2 := hide (fun w h => number_any B X f (lst ltr (lst ltr t).2).2 w h)
  have N3 := hide (fun w h => number_any B X f (num (lst ltr (lst ltr t).2).2).2 w h)
  have N4 := hide (fun w h => ints_any B X f (num (num (lst ltr (lst ltr t).2).2).2).2 w h)
  have N5 := hide (fun w h => rrule_any B X f (lst num (num (num (lst ltr (lst ltr t).2).2).2).2).2 w h)
  have N6 := hide (fun w h => ints_any B X f (rulE (lst num (num (num (lst ltr (lst ltr t).2).2).2).2).2).2 w h)
  have HE := hide (show evtE t = (⟨(lst ltr t).1, (lst ltr (lst ltr t).2).1, (num (lst ltr (lst ltr t).2).2).1, (num (num (lst ltr (lst ltr t).2).2).2).1, (lst num (num (num (lst ltr (lst ltr t).2).2).2).2).1, (rulE (lst num (num (num (lst ltr (lst ltr t).2).2).2).2).2).1, (lst num (rulE (lst num (num (num (lst ltr (lst ltr t).2).2).2).2).2).2).1⟩, (lst num (rulE (lst num (num (num (lst ltr (lst ltr t).2).2).2).2).2).2).2) from rfl)
  generalize lst ltr t = n0 at *
  obtain ⟨a0, s0⟩ := n0
  dsimp only at *
  generalize lst ltr s0 = n1 at *
  obtain ⟨a1, s1⟩ := n1
  dsimp only at *
  generalize num s1 = n2 at *
  obtain ⟨a2, s2⟩ := n2
  dsimp only at *
  generalize num s2 = n3 at *
  obtain ⟨a3, s3⟩ := n3
  dsimp only at *
  generalize lst num s3 = n4 at *
  obtain ⟨a4, s4⟩ := n4
  dsimp only at *
  generalize rulE s4 = n5 at *
  obtain ⟨a5, s5⟩ := n5
  dsimp only at *
  generalize lst num s5 = n6 at *
  obtain ⟨a6, s6⟩ := n6
  dsimp only at *
  clear h
  go_enter Tryz.func75, Tryz.ntmps75
  go_wp2_with fail
  refine (N0.out _ H0.out).mono ?_
  rintro e w1 ⟨rfl, f1, h1⟩
  have HT1 := hide (there_fx HT0.out f1 (by have := S0.out; omega) (by have := HX.out; omega))
  have S1 := hide (Nat.le_trans S0.out f1.size)
  have F1 := hide (F0.out.trans f1)
  have H1 := hide h1
  clear f1 h1
  go_wp2_with fail
  refine (N1.out _ H1.out).mono ?_
  rintro e w2 ⟨rfl, f1, h1⟩
  have HT2 := hide (there_fx HT1.out f1 (by have := S1.out; omega) (by have := HX.out; omega))
  have S2 := hide (Nat.le_trans S1.out f1.size)
  have F2 := hide (F1.out.trans f1)
  have H2 := hide h1
  clear f1 h1
  go_wp2_with fail
  refine (N2.out _ H2.out).mono ?_
  rintro e w3 ⟨rfl, f1, h1⟩
  have HT3 := hide (there_fx HT2.out f1 (by have := S2.out; omega) (by have := HX.out; omega))
  have S3 := hide (Nat.le_trans S2.out f1.size)
  have F3 := hide (F2.out.trans f1)
  have H3 := hide h1
  clear f1 h1
  go_wp2_with fail
  refine (N3.out _ H3.out).mono ?_
  rintro e w4 ⟨rfl, f1, h1⟩
  have HT4 := hide (there_fx HT3.out f1 (by have := S3.out; omega) (by have := HX.out; omega))
  have S4 := hide (Nat.le_trans S3.out f1.size)
  have F4 := hide (F3.out.trans f1)
  have H4 := hide h1
  clear f1 h1
  go_wp2_with fail
  refine (N4.out _ H4.out).mono ?_
  rintro e w5 ⟨A4, c4, rfl, k4, f1, h1⟩
  have HT5 := hide (there_fx HT4.out f1 (by have := S4.out; omega) (by have := HX.out; omega))
  have S5 := hide (Nat.le_trans S4.out f1.size)
  have Hk4 := hide (k4.low S4.out)
  have F5 := hide (F4.out.trans f1)
  have H5 := hide h1
  clear f1 h1 k4
  go_wp2_with fail
  refine (N5.out _ H5.out).mono ?_
  rintro e w6 ⟨D5, dc5, M5, mc5, Y5, yc5, rfl, kd5, km5, ky5, f1, h1⟩
  have HT6 := hide (there_fx HT5.out f1 (by have := S5.out; omega) (by have := HX.out; omega))
  have S6 := hide (Nat.le_trans S5.out f1.size)
  replace Hk4 := hide (Hk4.out.go f1.g (by have := HX.out; omega))
  have Hkd5 := hide (kd5.low S5.out)
  have Hkm5 := hide (km5.low S5.out)
  have Hky5 := hide (ky5.low S5.out)
  have F6 := hide (F5.out.trans f1)
  have H6 := hide h1
  clear f1 h1 kd5 km5 ky5
  go_wp2_with fail
  refine (N6.out _ H6.out).mono ?_
  rintro e w7 ⟨A6, c6, rfl, k6, f1, h1⟩
  have HT7 := hide (there_fx HT6.out f1 (by have := S6.out; omega) (by have := HX.out; omega))
  have S7 := hide (Nat.le_trans S6.out f1.size)
  replace Hk4 := hide (Hk4.out.go f1.g (by have := HX.out; omega))
  replace Hkd5 := hide (Hkd5.out.go f1.g (by have := HX.out; omega))
  replace Hkm5 := hide (Hkm5.out.go f1.g (by have := HX.out; omega))
  replace Hky5 := hide (Hky5.out.go f1.g (by have := HX.out; omega))
  have Hk6 := hide (k6.low S6.out)
  have F7 := hide (F6.out.trans f1)
  have H7 := hide h1
  clear f1 h1 k6
  go_wp2_with (first | refine store_mid rfl _ _ _ rfl w.heap.size 0 #[.string (str a0), .string (str a1), .int .i64 a2, .int .i64 a3, .slice A4 a4.length c4, .int .i64 a5.fr, .int .i64 a5.ev, .int .i64 a5.ct, .int .i64 a5.un, .slice D5 a5.ds.length dc5, .slice M5 a5.ms.length mc5, .slice Y5 a5.ys.length yc5, .slice A6 a6.length c6] rfl rfl HT7.out (by kernel_rfl) (by kernel_rfl) ?_ | refine build_at rfl 29 _ rfl #[.string (str a0), .string (str a1), .int .i64 a2, .int .i64 a3, .slice A4 a4.length c4, .int .i64 a5.fr, .int .i64 a5.ev, .int .i64 a5.ct, .int .i64 a5.un, .slice D5 a5.ds.length dc5, .slice M5 a5.ms.length mc5, .slice Y5 a5.ys.length yc5, .slice A6 a6.length c6] (by kernel_rfl) ?_)
  have hc := World.rangeAt_setCells_same w7 w.heap.size 0 [.string (str a0), .string (str a1), .int .i64 a2, .int .i64 a3, .slice A4 a4.length c4, .int .i64 a5.fr, .int .i64 a5.ev, .int .i64 a5.ct, .int .i64 a5.un, .slice D5 a5.ds.length dc5, .slice M5 a5.ms.length mc5, .slice Y5 a5.ys.length yc5, .slice A6 a6.length c6] HT7.out
  have HF := hide (FX.put (o := 0) (b := w.heap.size) F7.out [.string (str a0), .string (str a1), .int .i64 a2, .int .i64 a3, .slice A4 a4.length c4, .int .i64 a5.fr, .int .i64 a5.ev, .int .i64 a5.ct, .int .i64 a5.un, .slice D5 a5.ds.length dc5, .slice M5 a5.ms.length mc5, .slice Y5 a5.ys.length yc5, .slice A6 a6.length c6] (Nat.le_refl _) HX.out)
  have HR := hide (H7.out.low (below_setCells [.string (str a0), .string (str a1), .int .i64 a2, .int .i64 a3, .slice A4 a4.length c4, .int .i64 a5.fr, .int .i64 a5.ev, .int .i64 a5.ct, .int .i64 a5.un, .slice D5 a5.ds.length dc5, .slice M5 a5.ms.length mc5, .slice Y5 a5.ys.length yc5, .slice A6 a6.length c6] w.heap.size 0 (Below.refl w.heap.size _) (Nat.le_refl _)) HX.out)
  replace Hk4 := hide (Hk4.out.go (grown_setCells [.string (str a0), .string (str a1), .int .i64 a2, .int .i64 a3, .slice A4 a4.length c4, .int .i64 a5.fr, .int .i64 a5.ev, .int .i64 a5.ct, .int .i64 a5.un, .slice D5 a5.ds.length dc5, .slice M5 a5.ms.length mc5, .slice Y5 a5.ys.length yc5, .slice A6 a6.length c6] w7 w.heap.size 0) (Nat.lt_succ_self _))
  replace Hkd5 := hide (Hkd5.out.go (grown_setCells [.string (str a0), .string (str a1), .int .i64 a2, .int .i64 a3, .slice A4 a4.length c4, .int .i64 a5.fr, .int .i64 a5.ev, .int .i64 a5.ct, .int .i64 a5.un, .slice D5 a5.ds.length dc5, .slice M5 a5.ms.length mc5, .slice Y5 a5.ys.length yc5, .slice A6 a6.length c6] w7 w.heap.size 0) (Nat.lt_succ_self _))
  replace Hkm5 := hide (Hkm5.out.go (grown_setCells [.string (str a0), .string (str a1), .int .i64 a2, .int .i64 a3, .slice A4 a4.length c4, .int .i64 a5.fr, .int .i64 a5.ev, .int .i64 a5.ct, .int .i64 a5.un, .slice D5 a5.ds.length dc5, .slice M5 a5.ms.length mc5, .slice Y5 a5.ys.length yc5, .slice A6 a6.length c6] w7 w.heap.size 0) (Nat.lt_succ_self _))
  replace Hky5 := hide (Hky5.out.go (grown_setCells [.string (str a0), .string (str a1), .int .i64 a2, .int .i64 a3, .slice A4 a4.length c4, .int .i64 a5.fr, .int .i64 a5.ev, .int .i64 a5.ct, .int .i64 a5.un, .slice D5 a5.ds.length dc5, .slice M5 a5.ms.length mc5, .slice Y5 a5.ys.length yc5, .slice A6 a6.length c6] w7 w.heap.size 0) (Nat.lt_succ_self _))
  replace Hk6 := hide (Hk6.out.go (grown_setCells [.string (str a0), .string (str a1), .int .i64 a2, .int .i64 a3, .slice A4 a4.length c4, .int .i64 a5.fr, .int .i64 a5.ev, .int .i64 a5.ct, .int .i64 a5.un, .slice D5 a5.ds.length dc5, .slice M5 a5.ms.length mc5, .slice Y5 a5.ys.length yc5, .slice A6 a6.length c6] w7 w.heap.size 0) (Nat.lt_succ_self _))
  go_wp2_with fail
  refine bodyPost_ret (v := .agg [.string (str a0), .string (str a1), .int .i64 a2, .int .i64 a3, .slice A4 a4.length c4, .int .i64 a5.fr, .int .i64 a5.ev, .int .i64 a5.ct, .int .i64 a5.un, .slice D5 a5.ds.length dc5, .slice M5 a5.ms.length mc5, .slice Y5 a5.ys.length yc5, .slice A6 a6.length c6].toArray) ?_ ?_ ?_
  · exact results_mid rfl _ _ w.heap.size [.string (str a0), .string (str a1), .int .i64 a2, .int .i64 a3, .slice A4 a4.length c4, .int .i64 a5.fr, .int .i64 a5.ev, .int .i64 a5.ct, .int .i64 a5.un, .slice D5 a5.ds.length dc5, .slice M5 a5.ms.length mc5, .slice Y5 a5.ys.length yc5, .slice A6 a6.length c6] _ rfl hc Tryz.underlying29 rfl (by kernel_rfl)
  · rfl
  · rw [HE.out]
    exact ⟨⟨A4, c4, D5, dc5, M5, mc5, Y5, yc5, A6, c6⟩, rfl, ⟨Hk4.out.low (Nat.le_succ _), Hkd5.out.low (Nat.le_succ _), Hkm5.out.low (Nat.le_succ _), Hky5.out.low (Nat.le_succ _), Hk6.out.low (Nat.le_succ _)⟩, HF.out, HR.out⟩
/-- a booking is read. -/
def RdB (Bd X f : Nat) (w : World) (v : De.B) (t : Tx) (e : Ending) (w' : World) : Prop := ∃ m, e = .returned (.agg (bkC v m).toArray) ∧ EvF w.heap.size w' v.e m ∧ FX X f w w' ∧ Rd Bd X f w' t
set_option maxRecDepth 100000 in
set_option maxHeartbeats 3200000 in
theorem rbook_any (B X f : Nat) (t : Tx) (w : World) (h : Rd B X f w t) :
    Calls Tryz.prog 78 #[.pointer (some ⟨X, f, none⟩)] w (RdB B X f w (bkgE t).1 (bkgE t).2) := by
  have hmf : ∀ (fn : Fn) (first cap : Array Value) (w : World), (Instr.makeFunc fn first cap).run Tryz.prog w = .ok (.func fn first cap) w := fun _ _ _ _ => rfl
  have HX := hide h.lt
  have HT0 := hide (there_new w #[.int .i64 0, .int .i64 0, .int .i64 0, .string ByteArray.empty, .string ByteArray.empty, .int .i64 0, .int .i64 0, .slice none 0 0, .int .i64 0, .int .i64 0, .int .i64 0, .int .i64 0, .slice none 0 0, .slice none 0 0, .slice none 0 0, .slice none 0 0] 32 16 (by simp))
  have F0 := hide (FX.of (f := f) (more (start w) (.cells #[.int .i64 0, .int .i64 0, .int .i64 0, .string ByteArray.empty, .string ByteArray.empty, .int .i64 0, .int .i64 0, .slice none 0 0, .int .i64 0, .int .i64 0, .int .i64 0, .int .i64 0, .slice none 0 0, .slice none 0 0, .slice none 0 0, .slice none 0 0] 32)) h.lt)
  have S0 : Hid (w.heap.size + 1 ≤ (w.alloc (.cells #[.int .i64 0, .int .i64 0, .int .i64 0, .string ByteArray.empty, .string ByteArray.empty, .int .i64 0, .int .i64 0, .slice none 0 0, .int .i64 0, .int .i64 0, .int .i64 0, .int .i64 0, .slice none 0 0, .slice none 0 0, .slice none 0 0, .slice none 0 0] 32)).heap.size) := hide (by simp)
  have H0 := hide (h.keep (more (start w) (.cells #[.int .i64 0, .int .i64 0, .int .i64 0, .string ByteArray.empty, .string ByteArray.empty, .int .i64 0, .int .i64 0, .slice none 0 0, .int .i64 0, .int .i64 0, .int .i64 0, .int .i64 0, .slice none 0 0, .slice none 0 0, .slice none 0 0, .slice none 0 0] 32)))
  have N0 := hide (fun w h => rdId_any B X f t w h)
  have N1 := hide (fun w h => number_any B X f (idnE t).2 w h)
  have N2 := hide (fun w h => revent_any B X f (num (idnE t).2).2 w h)
  have HE := hide (show bkgE t = (⟨(idnE t).1, (num (idnE t).2).1, (evtE (num (idnE t).2).2).1⟩, (evtE (num (idnE t).2).2).2) from rfl)
  generalize idnE t = n0 at *
  obtain ⟨a0, s0⟩ := n0
  dsimp only at *
  generalize num s0 = n1 at *
  obtain ⟨a1, s1⟩ := n1
  dsimp only at *
  generalize evtE s1 = n2 at *
  obtain ⟨a2, s2⟩ := n2
  dsimp only at *
  clear h
  go_enter Tryz.func78, Tryz.ntmps78
  go_wp2_with fail
  refine (N0.out _ H0.out).mono ?_
  rintro e w1 ⟨rfl, f1, h1⟩
  have HT1 := hide (there_fx HT0.out f1 (by have := S0.out; omega) (by have := HX.out; omega))
  have S1 := hide (Nat.le_trans S0.out f1.size)
  have F1 := hide (F0.out.trans f1)
  have H1 := hide h1
  clear f1 h1
  go_wp2_with fail
  refine (N1.out _ H1.out).mono ?_
  rintro e w2 ⟨rfl, f1, h1⟩
  have HT2 := hide (there_fx HT1.out f1 (by have := S1.out; omega) (by have := HX.out; omega))
  have S2 := hide (Nat.le_trans S1.out f1.size)
  have F2 := hide (F1.out.trans f1)
  have H2 := hide h1
  clear f1 h1
  go_wp2_with fail
  refine (N2.out _ H2.out).mono ?_
  rintro e w3 ⟨m2, rfl, ke2, f1, h1⟩
  have HT3 := hide (there_fx HT2.out f1 (by have := S2.out; omega) (by have := HX.out; omega))
  have S3 := hide (Nat.le_trans S2.out f1.size)
  have Hke2 := hide (ke2.low S2.out)
  have F3 := hide (F2.out.trans f1)
  have H3 := hide h1
  clear f1 h1 ke2
  go_wp2_with (first | refine store_mid rfl _ _ _ rfl w.heap.size 0 (bkC ⟨a0, a1, a2⟩ m2).toArray rfl rfl HT3.out (by kernel_rfl) (by kernel_rfl) ?_ | refine build_at rfl 32 _ rfl (bkC ⟨a0, a1, a2⟩ m2).toArray (by kernel_rfl) ?_)
  have hc := World.rangeAt_setCells_same w3 w.heap.size 0 (bkC ⟨a0, a1, a2⟩ m2) HT3.out
  have HF := hide (FX.put (o := 0) (b := w.heap.size) F3.out (bkC ⟨a0, a1, a2⟩ m2) (Nat.le_refl _) HX.out)
  have HR := hide (H3.out.low (below_setCells (bkC ⟨a0, a1, a2⟩ m2) w.heap.size 0 (Below.refl w.heap.size _) (Nat.le_refl _)) HX.out)
  replace Hke2 := hide (Hke2.out.go (grown_setCells (bkC ⟨a0, a1, a2⟩ m2) w3 w.heap.size 0) (Nat.lt_succ_self _))
  go_wp2_with fail
  refine bodyPost_ret (v := .agg (bkC ⟨a0, a1, a2⟩ m2).toArray) ?_ ?_ ?_
  · exact results_mid rfl _ _ w.heap.size (bkC ⟨a0, a1, a2⟩ m2) _ rfl hc Tryz.underlying32 rfl (by kernel_rfl)
  · rfl
  · rw [HE.out]
    exact ⟨m2, rfl, Hke2.out.low (Nat.le_succ _), HF.out, HR.out⟩
end Go.Proofs.YtlmdceeeahnkcaaGreatDoor
namespace Go.Proofs.YtlmdceeeahnkcaaGreatDoor
open Go.RowKit Rul De Cl Go.Sort

theorem store_new {ops : Array Oper} {rest : List Oper} {o : Oper} {a : Act} {w : World} {Q : Exit → Act → World → Prop} (hw : Region.wanted o (yielded ops a.tmps) = true) (ty : TypeId) (x y : Operand) (ho : o.op = .store ty x y) (W : World) (c c' : Array Value) (hW : w = W.alloc (.cells c ty))
    (hx : a.eval x = .pointer (some ⟨W.heap.size, 0, none⟩)) (hy : a.eval y = .agg c') (hi : (Tryz.prog.info? ty).map (·.size) = some c'.size) (hsz : c.size = c'.size) (h1 : c'.all (·.oneCell') = true)
    (h : wpList Tryz.prog ops Q rest (a.put o.dst undef) (W.alloc (.cells c' ty))) : wpList Tryz.prog ops Q (o :: rest) a w :=
  wpList_step fun K hK => by
    subst hW
    rw [if_pos hw]
    unfold Oper.wp execOp
    simp only [ho, hx, hy, Sem.run_bind, Sem.run_pure, Result.andThen_ok, run_storeAt_new W ty c c' hi hsz h1]
    exact hK _ _ h
/-- the chapter's example; nothing. -/
def dK : D := ⟨4, (3, 1), e0, [], 0, 0, b0⟩
def d0 : D := ⟨0, (0, 0), e0, [], 0, 0, b0⟩
def mD : DM := ⟨mZ, none, 0, mZ⟩
theorem range_set {w : World} {b f : Nat} {cs : List Value} (h : w.rangeAt b f cs) (i k : Nat) (v : Value) (hi : i < cs.length) (hk : f + i = k) : (w.setCell ⟨b, k, none⟩ v).rangeAt b f (cs.set i v) := fun j u hu => by
  subst hk
  by_cases e : i = j
  · subst e
    rw [List.getElem?_set_self hi] at hu
    have := h i _ (List.getElem?_eq_getElem hi)
    rw [World.cell?_setCell_same _ _ _ this]
    exact hu
  · rw [List.getElem?_set_ne e] at hu
    rw [World.cell?_setCell_other _ _ _ _ (by intro q; injection q with _ q; omega)]
    exact h j u hu
theorem own_set {w : World} {B : Nat} {v : Value} {l : List C} (h : S2.OwnC w B v l) (g r : Nat) (u : Value) (hg : g < B) : S2.OwnC (w.setCell ⟨g, r, none⟩ u) B v l :=
  have hb := Below.setCell (Below.refl g w) (p := ⟨g, r, none⟩) (Nat.le_refl g) u
  World.ownsRow.kept (row := some g) h ⟨hb.os, hb.tape, hb.output, hb.size, fun i _ hne => Below.heap_setCell w _ u i (fun e => hne (by rw [e]))⟩ (by
    cases hv : v.ownBlock with
    | none => exact .inl rfl
    | some k => right; intro e; injection e with e; have := (World.ownsRow.lt h k hv).1; omega)
theorem own_row {w : World} {B n c : Nat} {A : Option Addr} {l : List C} (h : S2.OwnC w B (.slice A n c) l) : S2.RowC w A l := by
  obtain ⟨A2, c2, e, hr⟩ := S2.OwnC.row h
  injection e with e1 e2 e3
  subst e1
  exact hr
end Go.Proofs.YtlmdceeeahnkcaaGreatDoor

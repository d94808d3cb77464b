/- EvU; EvRd; EvCut of the recipes, what is needed of them. -/
import Derived.Shelf.Strings.Search1
import Derived.Deep.QuietTactic
import Derived.BigQuiet
import Derived.Test.YtgdjeddelcfgeaaGreatDoorZW12
import Derived.Test.YtgdjeddelcfgeaaGreatDoorZM3
import Derived.Test.YtgdjeddelcfgeaaGreatDoorZEvKo
import Derived.Test.YtgdjeddelcfgeaaGreatDoorZEvK
import Derived.Test.YtgdjeddelcfgeaaGreatDoorZW4
namespace Go.Proofs.YtgdjeddelcfgeaaGreatDoor
open Go.RowKit Rul Rt Go.Sort

theorem minE_in {y m d h i n : Int} (e : minE y m d h i = (n, 0)) : 0 ≤ n ∧ n < 52596000 := by
  unfold minE at e
  cases hb : Cal.isB y m d
  · rw [numE_11 y m d hb] at e
    simp at e
  · by_cases hy : y < 2000 ∨ 2099 < y
    · rw [numE_10 y m d hb hy] at e
      simp at e
    · rw [numE_0 y m d hb (by omega) (by omega)] at e
      have hn := Cal.num_bd y m d (by omega) (by omega) hb
      simp only [if_true] at e
      cases ht : timeB h i
      · rw [ht] at e
        simp at e
      · rw [ht] at e
        simp only [if_true, Prod.mk.injEq, and_true] at e
        have := (timeB_iff h i).1 ht
        omega
theorem parse_in (l : Tx) (n : Int) (h : parseE l = (n, 0)) : 0 ≤ n ∧ n < 52596000 := by
  unfold parseE at h
  split at h
  · exact minE_in h
  · simp at h
theorem unU_good : Ev.Good unU where
  comma v n h := form_free v (un_form v n h) 44 (by decide) (by decide)
  range v n h := by
    have h' : unE v = some n := h
    unfold unE at h'
    split at h'
    · rename_i h0
      injection h' with h'
      exact parse_in v n (Prod.ext h' h0)
    · cases h'
  free n := by
    by_cases h : 0 ≤ n ∧ n < 52596000
    · exact form_free _ (text_form n h.1 h.2) 44 (by decide) (by decide)
    · have : textOf n = [] := if_neg h
      show (44 : UInt8) ∉ textOf n
      rw [this]; simp

end Go.Proofs.YtgdjeddelcfgeaaGreatDoor
namespace Go.Proofs.YtgdjeddelcfgeaaGreatDoor
open Go.RowKit Rul Rt Go.Sort

theorem run_rowS {w : World} {B : Nat} {v : Value} {l k : List Tx} (ty : TypeId) {a : Addr} {m c : Nat} (hm : m = k.length) (hrow : RowS w (some a) k)
    (hown : OwnS w B v l) (hB : B ≤ w.heap.size) (hn : l.length ≤ 1000000) (hk : k.length ≤ 1000000) :
    ∃ v' w', (Builtin.append_ #[32, 32] ty #[v, .slice (some a) m c]).run Tryz.prog w = .ok v' w' ∧ OwnS w' B v' (l ++ k) ∧ Below B w w' := by
  obtain ⟨i0, hi, hz0, hz1, hz2⟩ := info_parts string_info
  have hnews : ∀ j u, (cellsS k)[j]? = some u → w.cell? (a.add j) = some u := by
    rcases k with _ | ⟨z, k0⟩
    · intro j u hu; simp [cellsS] at hu
    · obtain ⟨b, off, he, _, hc⟩ := hrow (by simp)
      injection he with he
      subst he
      generalize hkk : z :: k0 = k at *
      clear hkk
      intro j u hu
      have hj : j < (cellsS k).length := (List.getElem?_eq_some_iff.1 hu).1
      rw [cellsS_len] at hj
      rw [plusE, hc j hj]
      rw [← hu]; simp [cellsS, hj]
  subst hm
  obtain ⟨v', w', hr, h2, h3, _, _⟩ := run_append_own_at (P := Tryz.prog) (w := w) B 32 ty 9 i0 _ 1 16 Tryz.underlying32 hi hz0 hz1 hz2 rfl (by decide) v l.length (cellsS l) hown a k.length c (cellsS k) (by rw [cellsS_len, Nat.mul_one]) hnews (by intro u hu; obtain ⟨z, _, rfl⟩ := List.mem_map.1 hu; rfl) (by unfold maxLen; omega) (by omega) hB
  exact ⟨v', w', hr, by rw [OwnS, cellsS_append, List.length_append]; exact h2, (Below.refl B w).grown h3 hB fun j hj => (hown.lt j hj).1⟩
set_option maxRecDepth 100000 in
theorem wp_rowS {ops : Array Oper} {rest : List Oper} {o : Oper} {a : Act} {Q : Exit → Act → World → Prop} {w : World} {B : Nat} {v : Value} {l k : List Tx} (hgd : o.guard = none) (s x : Operand)
    (ho : o.op = .call { callee := .builtin .append, args := #[s, x], argTypes := #[32, 32] }) (hs : a.eval s = v) {A : Addr} {m c : Nat} (hx : a.eval x = .slice (some A) m c) (hm : m = k.length) (hrow : RowS w (some A) k)
    (hown : OwnS w B v l) (hB : B ≤ w.heap.size) (hn : l.length ≤ 1000000) (hk : k.length ≤ 1000000)
    (h : ∀ v' w', OwnS w' B v' (l ++ k) → Below B w w' → wpList Tryz.prog ops Q rest (a.put o.dst v') w') :
    wpList Tryz.prog ops Q (o :: rest) a w := by
  refine wpList_plain hgd fun K hK => ?_
  obtain ⟨v', w', hr, h2, h3⟩ := run_rowS (c := c) o.type hm hrow hown hB hn hk
  unfold Oper.wp execOp
  simp only [ho, resolve, invoke, builtin, Sem.run_bind, Sem.run_pure, Result.andThen_ok, List.map_toArray, List.map_cons, List.map_nil, hs, hx, hr]
  exact hK _ _ (h v' w' h2 h3)
theorem rowS_drop {w : World} {b o : Nat} {l : List Tx} (h : RowS w (some ⟨b, o, none⟩) l) (k : Nat) : RowS w (some ⟨b, o + k, none⟩) (l.drop k) := fun hn => by
  obtain ⟨b1, off, e, hl, hc⟩ := h (fun e => hn (by rw [e]; simp))
  injection e with e
  injection e with e1 e2
  subst e1 e2
  refine ⟨b, o + k, rfl, hl, fun i hi => ?_⟩
  rw [List.length_drop] at hi
  have := hc (k + i) (by omega)
  rw [Nat.add_assoc, this, List.getElem_drop]
theorem rowS_lit (w : World) (t : TypeId) (l : List Tx) : RowS (w.alloc (.cells (cellsS l).toArray t)) (some ⟨w.heap.size, 0, none⟩) l := fun _ => by
  refine ⟨w.heap.size, 0, rfl, by simp, fun i hi => ?_⟩
  rw [World.cell?_alloc_at _ _ _ _ rfl, Nat.zero_add]
  simp [cellsS, hi]
theorem items_small (e : Ev.E) (hI : Ev.Is e) : ∀ p ∈ Ev.items unU e, p.1.length ≤ 1000 ∧ p.2.length ≤ 90000 := by
  have h1 := Ev.uidB_len hI.uid
  have h2 := Ev.textB_len hI.text
  have h3 := hI.lg
  rw [Ev.lgB, btw_iff] at h3
  have hlg : in64 e.lg := by unfold in64; omega
  have h4 := (Ev.roomsB_iff _).1 hI.rooms
  have hro : ∀ x ∈ e.rooms, in64 x := fun x hx => by
    have := h4.2.1 x hx
    rw [Ev.roomB, btw_iff] at this
    unfold in64; omega
  have h5 := (Ev.exB_iff _).1 hI.ex
  have h41 := h4.1
  have h51 := h5.1
  have l1 := Lib.itoa_length_le e.lg hlg.1 hlg.2
  have l2 := text_len e.st
  have l3 := pr_len e.r
  have l4 := listT_len textOf 15 e.ex fun x _ => text_len x
  have l5 := listT_len Lib.itoa 30 e.rooms fun x hx => Nat.le_trans (Lib.itoa_length_le x (hro x hx).1 (hro x hx).2) (by omega)
  have l6 := Fo.escE_len e.text
  have l7 : (Ev.wPT ++ Lib.itoa e.lg ++ [77]).length ≤ 200 := by simp only [List.length_append, Ev.wPT, List.length_cons, List.length_nil]; omega
  have hit : Ev.items unU e = [(Ev.nBEGIN, Ev.wEV), (Ev.nUID, e.uid), (Ev.nSTART, textOf e.st), (Ev.nLONG, Ev.wPT ++ Lib.itoa e.lg ++ [77]), (Ev.nRULE, printE unU e.r), (Ev.nEX, listT textOf e.ex), (Ev.nROOMS, listT Lib.itoa e.rooms), (Ev.nTEXT, Fo.escE e.text), (Ev.nEND, Ev.wEV)] := rfl
  intro p hp
  rw [hit] at hp
  simp only [List.mem_cons, List.not_mem_nil, or_false] at hp
  rcases hp with rfl | rfl | rfl | rfl | rfl | rfl | rfl | rfl | rfl
  · exact ⟨by decide, by decide⟩
  · exact ⟨by simp only; decide, by simp only; omega⟩
  · exact ⟨by simp only; decide, by simp only; omega⟩
  · exact ⟨by simp only; decide, by simp only; omega⟩
  · exact ⟨by simp only; decide, by simp only; omega⟩
  · exact ⟨by simp only; decide, by simp only; omega⟩
  · exact ⟨by simp only; decide, by simp only; omega⟩
  · exact ⟨by simp only; decide, by simp only; omega⟩
  · exact ⟨by decide, by decide⟩
theorem lines_small (e : Ev.E) (hI : Ev.Is e) : ∀ p ∈ Ev.linesE unU e, p.length ≤ 100000 := by
  intro p hp
  unfold Ev.linesE at hp
  rw [if_pos ((Ev.isE_iff e).2 hI)] at hp
  obtain ⟨q, hq, rfl⟩ := List.mem_map.1 hp
  have := items_small e hI q ((List.mem_filter.1 hq).1)
  simp only [Ev.line2, List.length_append, List.length_cons]
  omega
/-- the lines of what is an event. -/
def GivesL (w : World) (l : List Tx) (x : Ending) (w' : World) : Prop := ∃ A cap, x = .returned (.slice A l.length cap) ∧ l.length ≤ cap ∧ RowS w' A l ∧ Below w.heap.size w w'
theorem lines_some (e : Ev.E) (m : Mem) (w : World) (h : EvL w e m) (he : EnvE w) (l : List Tx) (hl : Ev.linesE unU e = l) : Calls Tryz.prog 16 #[evV e m] w (GivesL w l) := by
  subst hl
  refine (eLines_any e m w h he.e.tab).mono ?_
  rintro _ w' ⟨v, rfl, hown, hb⟩
  obtain ⟨A, cap, rfl, hr, hc⟩ := OwnS.row hown
  exact ⟨A, cap, rfl, hc, hr, hb⟩
/-- lines that can't be read. -/
theorem read_no (A : Option Addr) (n c : Nat) (l : List Tx) (w : World) (hl : RowS w A l) (hn : n = l.length) (hsz : l.length ≤ 900) (hb : ∀ p ∈ l, p.length ≤ 100000) (he : EnvE w) (i : Nat) (hr : Ev.readE unU l = (none, i)) :
    Calls Tryz.prog 20 #[.slice A n c] w fun x w' => x = .returned (.tuple #[noEvent, .int .i64 i, .int .i64 14]) ∧ Below w.heap.size w w' := by
  refine (eRead_any A n c l w hl hn hsz hb he).mono ?_
  rintro _ w' ⟨hb, h⟩
  rw [hr] at h
  exact ⟨h, hb⟩
/-- lines that can. -/
theorem read_yes (A : Option Addr) (n c : Nat) (l : List Tx) (w : World) (hl : RowS w A l) (hn : n = l.length) (hsz : l.length ≤ 900) (hb : ∀ p ∈ l, p.length ≤ 100000) (he : EnvE w) (e : Ev.E) (i : Nat) (hr : Ev.readE unU l = (some e, i)) :
    Calls Tryz.prog 20 #[.slice A n c] w fun x w' => ∃ m, x = .returned (.tuple #[evV e m, .int .i64 i, .int .i64 0]) ∧ EvL w' e m ∧ Below w.heap.size w w' := by
  refine (eRead_any A n c l w hl hn hsz hb he).mono ?_
  rintro _ w' ⟨hb, h⟩
  rw [hr] at h
  obtain ⟨m, rfl, hn⟩ := h
  exact ⟨m, rfl, hn.lies, hb⟩

end Go.Proofs.YtgdjeddelcfgeaaGreatDoor
namespace Go.Proofs.YtgdjeddelcfgeaaGreatDoor
open Go.RowKit Rul Rt Fo Li Go.Sort

theorem ib_at : ∀ (p r : Tx), (58 : UInt8) ∉ p → Lib.indexByte (p ++ 58 :: r) 58 = (p.length : Int)
  | [], r, _ => by rw [List.nil_append, Lib.indexByte, if_pos (by decide)]; rfl
  | c :: p, r, h => by
    have h1 : c ≠ 58 := fun e => h (by rw [e]; exact List.mem_cons_self)
    have ih := ib_at p r (fun g => h (List.mem_cons_of_mem _ g))
    rw [List.cons_append, Lib.indexByte, ih, if_neg (by simpa using h1), if_neg (by rw [beq_iff_eq]; omega), List.length_cons]
    omega
theorem ibyte_any (s : ByteArray) (w : World) : Calls Tryz.prog 196 #[.string s, .int .u8 58] w fun e w' => e = .returned (.int .i64 (Lib.indexByte s.data.toList 58)) ∧ w' = w := Any.stringslite_IndexByte { Tryz.lays137 with } s 58 w
theorem ibyte_at (t p r : Tx) (w : World) (ht : t = p ++ 58 :: r) (h58 : (58 : UInt8) ∉ p) : Calls Tryz.prog 196 #[.string (str t), .int .u8 58] w fun e w' => e = .returned (.int .i64 (p.length : Int)) ∧ w' = w := by
  have h := ibyte_any (str t) w
  rw [str_list] at h
  have e : Lib.indexByte t 58 = (p.length : Int) := by rw [ht]; exact ib_at p r h58
  rwa [e] at h
set_option maxRecDepth 100000 in
set_option maxHeartbeats 1000000 in
theorem sidx_long (t p r : Tx) (w : World) (ht : t = p ++ 58 :: r) (hp : p ≠ []) (h58 : (58 : UInt8) ∉ p) :
    Calls Tryz.prog 178 #[.string (str t), .string (str [58])] w fun e w' => e = .returned (.int .i64 (p.length : Int)) ∧ w' = w := by
  have HI := hide (fun w => ibyte_at t p r w ht h58)
  have q1 := str_tl [58]
  have q2 := str_tl t
  have q3 : (([58] : Tx) == t) = false := by
    rw [beq_eq_false_iff_ne, ht]
    intro e
    cases p with
    | nil => exact hp rfl
    | cons c p =>
      rw [List.cons_append] at e
      injection e with e1 _
      exact h58 (by rw [← e1]; exact List.mem_cons_self)
  have z1 : (str [58]).size = 1 := rfl
  have b0 : (str [58])[0]'(by decide) = 58 := rfl
  clear ht hp h58
  go_enter Tryz.func178, Tryz.ntmps178
  go_wp2_with fail
  refine (HI.out _).mono ?_
  rintro e w' ⟨rfl, rfl⟩
  go_wp2_with fail
  go_ret
  exact ⟨rfl, rfl⟩
set_option maxRecDepth 100000 in
set_option maxHeartbeats 1000000 in
theorem scut_long (t p r : Tx) (w : World) (ht : t = p ++ 58 :: r) (hp : p ≠ []) (h58 : (58 : UInt8) ∉ p) (hl : p.length ≤ 1000) :
    Calls Tryz.prog 143 #[.string (str t), .string (str [58])] w (CutsC w p r true) := by
  have HI := hide (fun w => sidx_long t p r w ht hp h58)
  have z1 : (str [58]).size = 1 := rfl
  obtain ⟨k, hk⟩ : ∃ k, p.length = k := ⟨_, rfl⟩
  have E1 : Hid ((str t).extract 0 k = str p) := hide (by rw [ext_str, str_list, List.drop_zero, ht, ← hk]; simp)
  have E2 : Hid ((str t).extract (k + 1) (str t).size = str r) := hide (by rw [ext_end, str_list, ht, ← hk]; simp)
  have hsz : k + 1 ≤ (str t).size := by rw [str_size, ht, List.length_append, List.length_cons, hk]; omega
  rw [hk] at HI hl
  have k0 : (0 : Int) ≤ (k : Int) := by omega
  have k1 : (0 : Int) ≤ (k : Int) + 1 := by omega
  have k2 : (k : Int) ≤ ((str t).size : Int) := by omega
  have k3 : (k : Int) + 1 ≤ ((str t).size : Int) := by omega
  clear ht hp h58 hk
  generalize str t = S at *
  go_enter Tryz.func143, Tryz.ntmps143
  go_wp2_with fail
  refine (HI.out _).mono ?_
  rintro e w' ⟨rfl, rfl⟩
  go_wp2_with fail
  go_quiet (fail)
  have HB3 := hide (below_drawn (start w') nq)
  generalize w'.drewN nq = wq at *
  go_wp2_with fail
  go_ret3
  exact ⟨by first | rfl | (rw [E1.out, E2.out]; rfl), HB3.out⟩
set_option maxRecDepth 100000 in
set_option maxHeartbeats 1000000 in
theorem cut_long (t p r : Tx) (w : World) (ht : t = p ++ 58 :: r) (hp : p ≠ []) (h58 : (58 : UInt8) ∉ p) (hl : p.length ≤ 1000) :
    Calls Tryz.prog 113 #[.string (str t), .string (str [58])] w (CutsC w p r true) := by
  have HI := hide (scut_long t p r w ht hp h58 hl)
  clear ht hp h58 hl
  go_enter Tryz.func113, Tryz.ntmps113
  go_wp2_with fail
  refine (HI.out).mono ?_
  rintro e w' ⟨rfl, hb⟩
  have HB := hide hb
  clear hb
  go_wp2_with fail
  go_ret3
  exact ⟨rfl, HB.out⟩
set_option maxRecDepth 100000 in
set_option maxHeartbeats 1000000 in
theorem split_long (t p r : Tx) (w : World) (ht : t = p ++ 58 :: r) (hp : p ≠ []) (h58 : (58 : UInt8) ∉ p) (hl : p.length ≤ 1000) (hn : nameE (capE p) = true) :
    Calls Tryz.prog 81 #[.string (str t)] w (Ans w (splA (some (capE p, r)))) := by
  have HC := hide (cut_long t p r w ht hp h58 hl)
  have HK := hide (fun w => capitals_at p _ w (by omega) rfl)
  have HN := hide (fun w => name_is (capE p) true w (by rw [capE_len]; omega) hn)
  generalize capE p = P at *
  clear ht hp h58 hl hn
  unfold splA
  go_enter Tryz.func81, Tryz.ntmps81
  go_wp2_with fail
  refine (HC.out).mono ?_
  rintro e w1 ⟨rfl, b1⟩
  have B1 := hide b1
  clear b1
  go_wp2_with fail
  refine (HK.out _).mono ?_
  rintro e w2 ⟨rfl, b2⟩
  have B2 := hide (andthen B1.out b2)
  clear b2
  go_wp2_with fail
  refine (HN.out _).mono ?_
  rintro e w3 ⟨rfl, b3⟩
  have B3 := hide (andthen B2.out b3)
  clear b3
  go_wp2_with fail
  go_ret3
  exact ⟨rfl, B3.out⟩

end Go.Proofs.YtgdjeddelcfgeaaGreatDoor

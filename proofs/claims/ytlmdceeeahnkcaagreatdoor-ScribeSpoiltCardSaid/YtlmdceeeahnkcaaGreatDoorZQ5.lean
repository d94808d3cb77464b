/- ScEn; ScS of the recipes, what is needed of them. -/
import Derived.Test.YtlmdceeeahnkcaaGreatDoorBW6
import Derived.Test.YtlmdceeeahnkcaaGreatDoorShelf
import Derived.Lib.LaidTab
import Derived.Lib.AtoiErrMem
import Derived.Lib.QuietBelow
import Derived.RegionTactic
import Derived.Laws.BitsAllLaws
import Derived.Test.YtlmdceeeahnkcaaGreatDoorZQ1
namespace Go.Proofs.YtlmdceeeahnkcaaGreatDoor
open Go.RowKit Rul Rt Go.Sort

/-- the library's table of powers of ten lies as its initialiser laid it. -/
def Tab (w : World) : Prop := Lib.TabIs Tryz.prog w "internal/strconv.uint64pow10" .u64 Lib.pow10Tab
theorem tab_global : Tryz.prog.globalNamed "internal/strconv.uint64pow10" = some 0 := by kernel_rfl
theorem Tab.lt {w : World} (h : Tab w) : 0 < w.heap.size := by
  unfold Tab Lib.TabIs World.var? at h
  rw [tab_global] at h
  simp only [Option.bind_some] at h
  apply Classical.byContradiction
  intro hn
  rw [Array.getElem?_eq_none (by omega)] at h
  cases h
theorem Tab.below {B : Nat} {w w' : World} (h : Tab w) (hb : Below B w w') (hB : w.heap.size ≤ B) : Tab w' :=
  var?_below hb tab_global (Nat.lt_of_lt_of_le h.lt hB) h
theorem below_growN (w : World) (k : Nat) (os : Array Obj) : Below w.heap.size w (Sort.grow (w.drewN k) os) := by
  refine ⟨rfl, rfl, rfl, ?_, ?_⟩
  · simp [Sort.grow]
  · intro i hi
    simp only [Sort.grow]
    exact Array.getElem?_append_left (by simpa using hi)
/-- a package-level variable's cell. -/
theorem cell_below {B : Nat} {w w' : World} {b : Nat} {v : Value} (h : w.cell? ⟨b, 0, none⟩ = some v) (hb : Below B w w') (hB : w.heap.size ≤ B) : w'.cell? ⟨b, 0, none⟩ = some v :=
  (hb.cell (p := ⟨b, 0, none⟩) (Nat.lt_of_lt_of_le (block_lt_of_cell h) hB)).trans h
structure Env (w : World) : Prop where
  tab : Tab w
  len : ∃ m : Int, w.cell? ⟨1, 0, none⟩ = some (.int .i64 m)
  syn : ∃ ev, w.cell? ⟨4, 0, none⟩ = some ev ∧ (ev = .nilIface ∨ ∃ te pe, ev = .iface te pe)
  rng : ∃ ev, w.cell? ⟨5, 0, none⟩ = some ev ∧ (ev = .nilIface ∨ ∃ te pe, ev = .iface te pe)
theorem Env.below {B : Nat} {w w' : World} (h : Env w) (hb : Below B w w') (hB : w.heap.size ≤ B) : Env w' := by
  obtain ⟨h1, ⟨m, h2⟩, ⟨e, h3, h4⟩, ⟨f, h5, h6⟩⟩ := h
  exact ⟨h1.below hb hB, ⟨m, cell_below h2 hb hB⟩, ⟨e, cell_below h3 hb hB, h4⟩, ⟨f, cell_below h5 hb hB, h6⟩⟩
theorem Env.keep {w w' : World} (h : Env w) (hb : Below w.heap.size w w') : Env w' := h.below hb (Nat.le_refl _)
/-- the variables lie below B, and nothing below B has turned since. -/
def EnvB (B : Nat) (w : World) : Prop := ∃ w0, Env w0 ∧ w0.heap.size ≤ B ∧ Below B w0 w
theorem EnvB.env {B : Nat} {w : World} (h : EnvB B w) : Env w := by
  obtain ⟨w0, h1, h2, h3⟩ := h; exact h1.below h3 h2
theorem EnvB.on {B : Nat} {w w' : World} (h : EnvB B w) (hb : Below B w w') : EnvB B w' := by
  obtain ⟨w0, h1, h2, h3⟩ := h; exact ⟨w0, h1, h2, h3.trans hb⟩
theorem Env.b {w : World} (h : Env w) : EnvB w.heap.size w := ⟨w, h, Nat.le_refl _, start w⟩

theorem itoa_all (n : Int) (w : World) (h : in64 n) (ht : Tab w) : Calls Tryz.prog 38 #[.int .i64 n] w (Ans w (.string (str (Lib.itoa n)))) :=
  (Tryz.strconv_Itoa n h.1 h.2 w ht).mono fun _ _ ⟨he, k, os, hw⟩ => ⟨he, hw ▸ below_growN w k os⟩
theorem join_all (c : UInt8) (s : ByteArray) (hs : s = str [c]) (A : Option Addr) (n cap : Nat) (l : List Tx) (w : World) (hl : RowS w A l) (hn : n = l.length) (hcap : l.length ≤ cap) (hsz : l.length ≤ 10000) (hlen : ∀ p ∈ l, p.length ≤ 100000) :
    Calls Tryz.prog 60 #[.slice A n cap, .string s] w (Ans w (.string (str (joinAt c l)))) := by
  subst hn hs
  by_cases h0 : l = []
  · subst h0
    exact (Tryz.strings_Join_none A cap _ w).mono fun _ _ ⟨he, hw⟩ => ⟨he, hw ▸ start _⟩
  · obtain ⟨b, o, rfl, hb, hc⟩ := hl h0
    have em : (l.map str).map (fun x : ByteArray => x.data.toList) = l := by
      rw [List.map_map]
      have : (fun x : ByteArray => x.data.toList) ∘ str = id := by funext x; simp [str]
      rw [this, List.map_id]
    have ej : Lib.join ((l.map str).map (fun x : ByteArray => x.data.toList)) (str [c]).data.toList = joinAt c l := by rw [em, str_list]; exact join_lib c l
    have hJ : (joinAt c l).length ≤ 140737488355328 := by
      have h1 := join_len c 100000 l hlen
      have h2 : l.length * (100000 + 1) ≤ 10000 * (100000 + 1) := Nat.mul_le_mul_right _ hsz
      omega
    have := Tryz.strings_Join b o cap (l.map str) (str [c]) w (fun j x hx => by
      rw [List.getElem?_map, Option.map_eq_some_iff] at hx
      obtain ⟨t, ht, rfl⟩ := hx
      obtain ⟨hj, e⟩ := List.getElem?_eq_some_iff.1 ht
      rw [hc j hj, e]) hb (by rw [List.length_map]; omega) (by rw [List.length_map]; exact hcap) (by rw [ej]; exact hJ)
    rw [List.length_map, ej] at this
    exact this
theorem cutB_all (c : UInt8) (s : ByteArray) (hs : s = str [c]) (t : Tx) (w : World) (he : Env w) (ht : t.length ≤ 100000) :
    Calls Tryz.prog 53 #[.string (str t), .string s] w (Ans w (.tuple #[.string (str (Lib.cut t [c]).1), .string (str (Lib.cut t [c]).2.1), .bool (Lib.cut t [c]).2.2])) := by
  subst hs
  obtain ⟨m, hm⟩ := he.len
  refine (Tryz.strings_Cut (str t) (str [c]) m w (by rw [str_size]; omega) hm).mono ?_
  rintro e w' ⟨rfl, n, rfl⟩
  refine ⟨by rw [str_list, str_list]; rfl, below_drawn (start _) n⟩
/-- Atoi: a number, and an error or none. -/
def Reads (w : World) (t : Tx) (e : Ending) (w' : World) : Prop := Below w.heap.size w w' ∧ ∃ er, e = .returned (.tuple #[.int .i64 (Sc.nv t), er]) ∧ (er = .nilIface ∨ ∃ te pe, er = .iface te pe)
theorem atoi_all (t : Tx) (w : World) (he : Env w) (ht : t.length ≤ 100000) : Calls Tryz.prog 99 #[.string (str t)] w (Reads w t) := by
  have hz : (str t).size ≤ 100000 := by rw [str_size]; exact ht
  have hl : (str t).data.toList = t := str_list t
  cases ha : Lib.atoiAll t with
  | ok n =>
    refine (Tryz.strconv_Atoi_ok (str t) (by omega) n (by rw [hl]; exact ha) w).mono ?_
    rintro e w' ⟨rfl, hw⟩
    refine ⟨?_, .nilIface, by unfold Sc.nv; rw [ha], Or.inl rfl⟩
    rcases hw with rfl | ⟨k, rfl⟩
    · exact start _
    · exact Lib.bytesWorld_below _ _ _
  | range =>
    obtain ⟨ev, h1, h2⟩ := he.rng
    refine (Tryz.strconv_Atoi_range (str t) (by omega) (by rw [hl]; exact ha) ev w h1 h2).mono ?_
    rintro e w' ⟨N, rfl, _, _, hb⟩
    exact ⟨hb, _, by unfold Sc.nv; rw [ha, hl], Or.inr ⟨_, _, rfl⟩⟩
  | _ =>
    obtain ⟨ev, h1, h2⟩ := he.syn
    refine (Tryz.strconv_Atoi_bad (str t) (by omega) (fun n g => by rw [hl, ha] at g; cases g) (fun g => by rw [hl, ha] at g; cases g) ev w h1 h2).mono ?_
    rintro e w' ⟨N, rfl, _, _, hb⟩
    exact ⟨hb, _, by unfold Sc.nv; rw [ha], Or.inr ⟨_, _, rfl⟩⟩

/-- a row of zeros, from its front. -/
theorem holds_front (w : World) (T : TypeId) (nd : Nat) (hs : nd ≤ 24) : Holds (fun (b : UInt8) => Value.int .u8 (b.toNat : Int)) (w.alloc (.cells Lib.zeros24 T)) w.heap.size 0 (Array.replicate nd (0 : UInt8)) := fun j hj => by
  rw [Array.size_replicate] at hj
  rw [Nat.zero_add, World.cell?_alloc_new, Lib.zeros24_at j (by omega)]
  simp [hj]
theorem below_putRow {B : Nat} {a w : World} (h : Go.RowKit.Below B a w) {α : Type} [Inhabited α] (enc : α → Value) (b o : Nat) (d : Array α) (hb : B ≤ b) : Go.RowKit.Below B a (putRow enc w b o d) :=
  h.trans ⟨rfl, rfl, rfl, by simp, fun k hk => by
    unfold putRow mapBlock
    simp only [Array.getElem?_modify]
    rw [if_neg (by omega)]⟩
set_option maxHeartbeats 3200000 in
set_option maxRecDepth 100000 in
theorem fmtU_in (u : Nat) (hu : u < 4294967296) (w : World) (ht : Tab w) : Calls Tryz.prog 62 #[.int .u64 u, .int .i64 10] w (Ans w (.string (str (Lib.itoa u)))) := by
  by_cases hi : u < 100
  · have i0 : (u : Int) < 100 := by omega
    have hwr : IntKind.i64.wrap (u : Int) = (u : Int) := IntWalk.i64_in _ (by omega)
    have HI := hide hi
    clear hi
    go_enter Tryz.func62, Tryz.ntmps62
    go_wp2_with fail
    refine (Tryz.internal_strconv_small u HI.out _).mono ?_
    rintro e w' ⟨rfl, rfl⟩
    go_wp2_with fail
    go_ret
    refine ⟨?_, start _⟩
    rw [Lib.itoa_nonneg]; rfl
  · have i0 : ¬ (u : Int) < 100 := by omega
    have hu64 : u < 18446744073709551616 := by omega
    have hnd20 : Lib.nDigits u ≤ 20 := by have := Lib.numDigits_eq u (by omega) hu64; split at this <;> omega
    have hal : Tryz.prog.arrayLen 138 = 24 := by kernel_rfl
    have hsl : ∀ W, (Instr.sliceAt 138 (.pointer (some ⟨w.heap.size, 0, none⟩)) none (some (.int .i64 (Lib.nDigits u : Int))) none).run Tryz.prog W = .ok (.slice (some ⟨w.heap.size, 0, none⟩) (Lib.nDigits u) 24) W := fun W => by
      rw [run_sliceAt_array_h W 138 ⟨w.heap.size, 0, none⟩ (by kernel_rfl) .i64 (Lib.nDigits u : Int) (by omega) (by rw [hal]; omega)]
      go_simp
    have hH0 := holds_front w 138 (Lib.nDigits u) (by omega)
    have hfmt := Tryz.internal_strconv_formatBase10 w.heap.size 0 24 u (Array.replicate (Lib.nDigits u) 0) (w.alloc (.cells Lib.zeros24 138)) hH0 (by rw [Array.size_replicate]; exact Lib.lt_pow_nDigits u) hu64 (by rw [Array.size_replicate]; omega)
    rw [Array.size_replicate] at hfmt
    have hnum := Tryz.internal_strconv_numDigits u (by omega) hu64 (w.alloc (.cells Lib.zeros24 138)) (Lib.tabIs_alloc ht _)
    have HH := hide hH0
    have HF := hide hfmt
    have HN := hide hnum
    clear hH0 hal hfmt hnum hi
    go_enter Tryz.func62, Tryz.ntmps62
    go_wp2_with fail
    refine HN.out.mono ?_
    rintro e w' ⟨rfl, rfl⟩
    go_wp2_with fail
    refine HF.out.mono ?_
    rintro e w' ⟨rfl, k, v', dk, rfl, hF⟩
    have hcv : (convert 44 9 (.slice (some ⟨w.heap.size, 0, none⟩) (Lib.nDigits u) 24)).run Tryz.prog ((putRow (fun (b : UInt8) => Value.int .u8 (b.toNat : Int)) (w.alloc (.cells Lib.zeros24 138)) w.heap.size 0 dk).drewN k) = .ok (.string (str (Lib.decDigits u))) ((putRow (fun (b : UInt8) => Value.int .u8 (b.toNat : Int)) (w.alloc (.cells Lib.zeros24 138)) w.heap.size 0 dk).drewN k) := by
      have h := run_convert_bytes_back (P := Tryz.prog) ((putRow (fun (b : UInt8) => Value.int .u8 (b.toNat : Int)) (w.alloc (.cells Lib.zeros24 138)) w.heap.size 0 dk).drewN k) 44 9 5 ⟨w.heap.size, 0, none⟩ 24 (Lib.decDigits u) Tryz.underlying44 Tryz.underlying5 Tryz.underlying9 (fun j hj => by
        rw [Lib.row_is_numeral hF j hj, Lib.add_plain, World.cell?_drewN]
        exact cell?_putRow (fun (b : UInt8) => Value.int .u8 (b.toNat : Int)) _ w.heap.size 0 _ dk HH.out (by rw [hF.size, Array.size_replicate]) j (by rw [hF.size]; rw [Lib.decDigits_length] at hj; exact hj))
      rw [Lib.decDigits_length] at h
      exact h
    have HB := hide (show Below w.heap.size w ((putRow (fun (b : UInt8) => Value.int .u8 (b.toNat : Int)) (w.alloc (.cells Lib.zeros24 138)) w.heap.size 0 dk).drewN k) from below_drawn (below_putRow (more (start w) _) _ _ _ _ (Nat.le_refl _)) k)
    generalize (putRow (fun (b : UInt8) => Value.int .u8 (b.toNat : Int)) (w.alloc (.cells Lib.zeros24 138)) w.heap.size 0 dk).drewN k = W at hcv HB ⊢
    go_wp2_with fail
    go_ret
    refine ⟨?_, HB.out⟩
    rw [Lib.itoa_nonneg]; rfl
set_option maxHeartbeats 800000 in
theorem fmtU_all (u : Nat) (hu : u < 4294967296) (w : World) (ht : Tab w) : Calls Tryz.prog 39 #[.int .u64 u, .int .i64 10] w (Ans w (.string (str (Lib.itoa u)))) := by
  have HC := hide (fmtU_in u hu w ht)
  clear ht
  go_enter Tryz.func39, Tryz.ntmps39
  go_wp2_with fail
  refine HC.out.mono ?_
  rintro e w1 ⟨rfl, hb⟩
  go_wp2_with fail
  go_ret
  exact ⟨rfl, hb⟩
end Go.Proofs.YtlmdceeeahnkcaaGreatDoor
namespace Go.Proofs.YtlmdceeeahnkcaaGreatDoor
open Go.RowKit Rul Rt Go.Sort Sc

theorem mul_u32 (x : Nat) : IntKind.u32.wrap ((x : Int) * 16777619) = ((x * 16777619 % 4294967296 : Nat) : Int) := by
  rw [IntKind.wrap_u32', Int.natCast_emod, Int.natCast_mul]
  rfl
theorem xor_u32 (s : Nat) (c : UInt8) (hs : s < 4294967296) : bits .xor .u32 (s : Int) ((c.toNat : Nat) : Int) = ((s ^^^ c.toNat : Nat) : Int) := by
  have hc := c.toNat_lt
  exact u32_xor_nat s c.toNat hs (by omega)
theorem stepU_is (s : Nat) (c : UInt8) : stepU s c = (s ^^^ c.toNat) * 16777619 % 4294967296 := by unfold stepU; rfl
theorem stepU_int (s : Nat) (c : UInt8) (hs : s < 4294967296) : bits .xor .u32 (s : Int) (((c.toNat : Nat) : Int) % 4294967296) * 16777619 % 4294967296 = ((stepU s c : Nat) : Int) := by
  have hc := c.toNat_lt
  have e : ((c.toNat : Nat) : Int) % 4294967296 = ((c.toNat : Nat) : Int) := by omega
  rw [e, xor_u32 s c hs, stepU_is, ← mul_u32, IntKind.wrap_u32']
theorem first_int : (2166136261 : Int) = ((2166136261 : Nat) : Int) := by omega
theorem tail_step {t : Tx} {k : Nat} (h : k < t.length) (s : Nat) : (t.take (k + 1)).foldl stepU s = stepU ((t.take k).foldl stepU s) t[k] := by
  rw [List.take_add_one, List.getElem?_eq_getElem h, Option.toList_some, List.foldl_append, List.foldl_cons, List.foldl_nil]
theorem str_at (t : Tx) (k : Nat) (h : k < (str t).size) (h2 : k < t.length) : (str t)[k]'h = t[k] := by
  simp [ByteArray.getElem_eq_getElem_data, str]
set_option maxRecDepth 100000 in
set_option maxHeartbeats 800000 in
theorem sumOf_any (t : Tx) (w : World) (ht : t.length ≤ 100000) : Calls Tryz.prog 40 #[.string (str t)] w (Ans w (.int .u32 ((sumE t : Nat) : Int))) := by
  have hz : (str t).size = t.length := str_size t
  have HZ := hide hz
  have hle : (str t).size ≤ 100000 := by omega
  clear hz
  go_enter Tryz.func40, Tryz.ntmps40
  go_wp2_with fail
  go_loopw [3, 7] (fun s i wr => ∃ k S : Nat, k ≤ (str t).size ∧ s = .int .u32 (S : Int) ∧ i = .int .i64 k ∧ Hid ((t.take k).foldl stepU 2166136261 = S) ∧ Hid (S < 4294967296) ∧ Below w.heap.size w wr) (fun _ i _ => (str t).size - (intOf i).toNat)
  case atStart => exact ⟨0, 2166136261, Nat.zero_le _, congrArg (Value.int .u32) first_int, rfl, hide rfl, hide (by omega), start _⟩
  case round =>
    obtain ⟨k, S, hk, rfl, rfl, HS, HL, hb⟩ := hrel
    by_cases hlt : k < (str t).size
    · have hlt1 : (k : Int) < ((str t).size : Int) := by omega
      have hk0 : (0 : Int) ≤ (k : Int) := by omega
      have hkl : k < t.length := by have := HZ.out; omega
      obtain ⟨c, hc⟩ : ∃ c, (str t)[k]'hlt = c := ⟨_, rfl⟩
      have hcl : t[k] = c := by rw [← hc, str_at t k hlt hkl]
      have HN := hide (show (t.take (k + 1)).foldl stepU 2166136261 = stepU S c by rw [tail_step hkl, HS.out, hcl])
      have hst := stepU_int S c HL.out
      have HM := hide (stepU_lt S c)
      clear hcl
      go_wp2_with fail
      go_roundw
      case rel => exact ⟨k + 1, stepU S c, by omega, congrArg _ hst, by go_num, HN, HM, hb⟩
      case measure => simp [intOf]; omega
    · obtain rfl : k = (str t).size := by omega
      have HF := hide (show sumE t = S by
        have h := HS.out
        rw [List.take_of_length_le (by have := HZ.out; omega)] at h
        exact h)
      go_wp2_with fail
      go_ret
      exact ⟨by rw [HF.out]; rfl, hb⟩
set_option maxHeartbeats 800000 in
theorem joined_any (A : Option Addr) (n cap : Nat) (l : List Tx) (w : World) (hl : RowS w A l) (hn : n = l.length) (hcap : l.length ≤ cap) (hsz : l.length ≤ 10000) (hlen : ∀ p ∈ l, p.length ≤ 100000) :
    Calls Tryz.prog 37 #[.slice A n cap] w (Ans w (.string (str (joinAt 32 l)))) := by
  have HC := hide (join_all 32 (str [32]) rfl A n cap l w hl hn hcap hsz hlen)
  clear hl hn hcap hsz hlen
  go_enter Tryz.func37, Tryz.ntmps37
  go_wp2_with fail
  refine HC.out.mono ?_
  rintro e w1 ⟨rfl, hb⟩
  go_wp2_with fail
  go_ret
  exact ⟨rfl, hb⟩
theorem rowS_new (w : World) (l : List Tx) (t : TypeId) : RowS (w.alloc (.cells (cellsS l).toArray t)) (some ⟨w.heap.size, 0, none⟩) l := fun _ => ⟨w.heap.size, 0, rfl, by simp, fun i h => by
  rw [Nat.zero_add, World.cell?_alloc_at _ _ _ _ rfl]
  simp [cellsS, h]⟩
set_option maxRecDepth 100000 in
set_option maxHeartbeats 800000 in
theorem sealed_any (t : Tx) (w : World) (he : Env w) (ht : t.length ≤ 90000) : Calls Tryz.prog 16 #[.string (str t)] w (Ans w (.string (str (sld t)))) := by
  have hz : (str t).size = t.length := str_size t
  have hin : in64 (t.length : Int) := by unfold in64; omega
  have hlt := sumE_lt t
  have hcv : IntKind.u64.wrap ((sumE t : Nat) : Int) = ((sumE t : Nat) : Int) := by rw [IntKind.wrap_u64]; omega
  have HI := hide hin
  have HT := hide he
  have HL := hide ht
  have HS := hide hlt
  have hl1 : (Lib.itoa (t.length : Int)).length ≤ 21 := Lib.itoa_length_le _ hin.1 hin.2
  have hl2 := dec_len10 (sumE t) hlt
  have HJ := hide (show ∀ p ∈ [Lib.itoa (t.length : Int), Lib.itoa ((sumE t : Nat) : Int), t], p.length ≤ 100000 from fun p hp => by
    simp only [List.mem_cons, List.not_mem_nil, or_false] at hp
    rcases hp with rfl | rfl | rfl <;> omega)
  have HA := hide (fun w => sumOf_any t w (by omega))
  generalize hS : sumE t = S at *
  have HE := hide (show sld t = Lib.itoa (t.length : Int) ++ 32 :: (Lib.itoa (S : Int) ++ 32 :: t) by unfold sld; rw [hS])
  clear he ht hlt hin hl1 hl2 hS
  go_enter Tryz.func16, Tryz.ntmps16
  go_wp2_with fail
  refine (itoa_all (t.length : Int) _ HI.out HT.out.tab).mono ?_
  rintro e w1 ⟨rfl, hb⟩
  have HB := hide hb
  clear hb
  go_wp2_with fail
  refine (HA.out w1).mono ?_
  rintro e w2 ⟨rfl, hb⟩
  replace HB := hide (andthen HB.out hb)
  clear hb
  go_wp2_with fail
  refine (fmtU_all S HS.out w2 (HT.out.keep HB.out).tab).mono ?_
  rintro e w3 ⟨rfl, hb⟩
  replace HB := hide (andthen HB.out hb)
  clear hb
  go_wp2_with fail
  refine (joined_any (some ⟨w3.heap.size, 0, none⟩) 3 3 [Lib.itoa (t.length : Int), Lib.itoa (S : Int), t] _ (rowS_new w3 [Lib.itoa (t.length : Int), Lib.itoa (S : Int), t] _) rfl (by simp) (by simp) HJ.out).mono ?_
  rintro e w4 ⟨rfl, hb⟩
  replace HB := hide (andthen (more HB.out _) hb)
  clear hb
  go_wp2_with fail
  go_ret
  exact ⟨by rw [HE.out]; rfl, HB.out⟩
theorem tx_dec (a b : Tx) : (a == b) = decide (a = b) := tx_eq a b
set_option maxRecDepth 100000 in
set_option maxHeartbeats 800000 in
theorem unsealed_any (s : Tx) (w : World) (he : Env w) (ht : s.length ≤ 90000) (b : Bool) (hd : decide (sld (uns s) = s) = b) :
    Calls Tryz.prog 26 #[.string (str s)] w (Ans w (.tuple #[.string (str (uns s)), .bool b])) := by
  have HC := hide (fun w h => cutB_all 32 (str [32]) rfl s w h (by omega))
  have HC2 := hide (fun w h => cutB_all 32 (str [32]) rfl (Lib.cut s [32]).2.1 w h (by have := cr_le s; unfold cr at this; omega))
  have HT := hide he
  have HU := hide (show (Lib.cut (Lib.cut s [32]).2.1 [32]).2.1 = uns s from rfl)
  have hle : (uns s).length ≤ 90000 := by have := uns_le s; omega
  have q1 := str_tl s
  have q2 := str_tl (sld (uns s))
  have q3 : (sld (uns s) == s) = b := by rw [tx_dec]; exact hd
  have HS := hide (fun w h => sealed_any (uns s) w h hle)
  generalize sld (uns s) = S at *
  generalize hu : uns s = U at *
  generalize Lib.cut s [32] = c1 at *
  generalize Lib.cut c1.2.1 [32] = c2 at *
  obtain ⟨x1, y1, z1⟩ := c1
  obtain ⟨x2, y2, z2⟩ := c2
  have HU2 := HU.out
  subst HU2
  clear he ht hle HU hu hd
  go_enter Tryz.func26, Tryz.ntmps26
  go_wp2_with fail
  refine (HC.out _ HT.out).mono ?_
  rintro e w1 ⟨rfl, hb⟩
  have HB := hide hb
  clear hb
  go_wp2_with fail
  refine (HC2.out _ (HT.out.keep HB.out)).mono ?_
  rintro e w2 ⟨rfl, hb⟩
  replace HB := hide (andthen HB.out hb)
  clear hb
  go_wp2_with fail
  refine (HS.out _ (HT.out.keep HB.out)).mono ?_
  rintro e w3 ⟨rfl, hb⟩
  replace HB := hide (andthen HB.out hb)
  clear hb
  go_wp2_with fail
  go_ret2
  exact ⟨rfl, HB.out⟩
end Go.Proofs.YtlmdceeeahnkcaaGreatDoor

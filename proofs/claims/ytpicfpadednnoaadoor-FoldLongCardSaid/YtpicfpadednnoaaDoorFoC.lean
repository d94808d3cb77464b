/- strings.ContainsAny at the three signs ';', ',' and the end of a line, of whatever text: the library's own text is walked where the shelf's contract asks ASCII bytes. -/
import Derived.Test.YtpicfpadednnoaaDoorFoA
import Derived.Laws.RangeAny
import Derived.Laws.Runes
import Derived.Lib.DecodeN
import Derived.Lib.OthersKept
import Derived.Deep.LoopGhost
import Derived.Deep.QuietTactic
import Derived.BigQuiet
import Derived.IntWalk
namespace Go.Proofs.YtpicfpadednnoaaDoor
open Go.RowKit Rul Rt Fo Go.Sort

theorem byte_at (s : ByteArray) (j : Nat) (h : j < s.size) : s.get! j = s[j] := by
  have := get_at s j h
  simpa using this
/-- the bytes of a rune that is none of ASCII's. -/
theorem decode_width (s : ByteArray) (pos : Nat) (h : pos < s.size) (ha : 128 ≤ (s[pos]'h).toNat) :
    ∀ j, pos ≤ j → j < pos + (Utf8.decode s pos).2 → ∃ hj : j < s.size, 128 ≤ (s[j]'hj).toNat := by
  have key : ∀ j, pos ≤ j → j < pos + (Utf8.decode s pos).2 → j < s.size ∧ 128 ≤ (s.get! j).toNat := by
    intro j h1 h2
    have hb : 128 ≤ (s.get! pos).toNat := by rw [byte_at s pos h]; exact ha
    rw [Lib.decode_at] at h2
    obtain ⟨d, rfl⟩ : ∃ d, j = pos + d := ⟨j - pos, by omega⟩
    generalize e0 : (s.get! pos).toNat = b0 at *
    generalize e1 : (s.get! (pos + 1)).toNat = b1 at *
    generalize e2 : (s.get! (pos + 2)).toNat = b2 at *
    generalize e3 : (s.get! (pos + 3)).toNat = b3 at *
    have hd : d < (Lib.decodeN (s.size - pos) b0 b1 b2 b3).2 := by omega
    clear h1 h2
    have done : (d = 0 ∨ (d = 1 ∧ 1 < s.size - pos ∧ 128 ≤ b1) ∨ (d = 2 ∧ 2 < s.size - pos ∧ 128 ≤ b2) ∨ (d = 3 ∧ 3 < s.size - pos ∧ 128 ≤ b3)) := by
      unfold Lib.decodeN at hd
      repeat' split at hd
      all_goals (simp only at hd; omega)
    rcases done with rfl | ⟨rfl, g1, g2⟩ | ⟨rfl, g1, g2⟩ | ⟨rfl, g1, g2⟩
    · exact ⟨h, by rw [Nat.add_zero, e0]; exact hb⟩
    · exact ⟨by omega, by rw [e1]; exact g2⟩
    · exact ⟨by omega, by rw [e2]; exact g2⟩
    · exact ⟨by omega, by rw [e3]; exact g2⟩
  intro j h1 h2
  obtain ⟨g1, g2⟩ := key j h1 h2
  exact ⟨g1, by rw [← byte_at s j g1]; exact g2⟩
theorem indexByte_high (l : List UInt8) (c : UInt8) (h : c ∉ l) : ¬ (0 : Int) ≤ Lib.indexByte l c := by
  have e := Lib.contains_iff_indexByte l c
  have : l.contains c = false := by simpa using h
  rw [this] at e
  exact of_decide_eq_false e.symm
theorem not_mem_high {s : ByteArray} (hs : ∀ b ∈ s.data.toList, b.toNat < 128) {c : UInt8} (hc : 128 ≤ c.toNat) {l : List UInt8} (hl : ∀ b ∈ l, b ∈ s.data.toList) : c ∉ l := fun g => by
  have := hs c (hl c g); omega
theorem mem_ext {s : ByteArray} {a : Nat} {b : UInt8} (h : b ∈ (s.extract a s.size).data.toList) : b ∈ s.data.toList := by
  rw [ByteArray.data_extract, Array.toList_extract] at h
  exact List.mem_of_mem_drop (List.mem_of_mem_take h)

set_option maxRecDepth 100000 in
set_option maxHeartbeats 2000000 in
/-- a rune that is no ASCII is in no ASCII text: the rune of what is no rune. -/
theorem rune_bad (s : ByteArray) (w : World) (hs : ∀ b ∈ s.data.toList, b.toNat < 128) :
    Calls Tryd.prog 36 #[.string s, .int .i32 65533] w (Ans w (.int .i64 (-1))) := by
  have HS := hide hs
  clear hs
  go_enter Tryd.func36, Tryd.ntmps36
  go_wp2_with fail
  go_loopg [5, 6] s.size (fun g _ _ wx => ∃ i : Nat, i + g = s.size ∧ wx = w.iter s i)
  case atStart => exact ⟨0, by omega, rfl⟩
  case round =>
    obtain ⟨i, hig, rfl⟩ := hrel
    cases gk with
    | zero =>
      obtain rfl : i = s.size := by omega
      have hnx := fun ty => run_next_end (P := Tryd.prog) w s s.size ty (by omega)
      go_wp2_with fail
      go_ret
      exact ⟨rfl, more (start w) _⟩
    | succ g =>
      have hi : i < s.size := by omega
      have hx : (s[i]'hi).toNat < 128 := HS.out _ (Array.getElem_mem_toList (xs := s.data) hi)
      have hnx := fun ty => run_next_ascii (P := Tryd.prog) w s i ty hi hx
      have hq : (((s[i]'hi).toNat : Int) == 65533) = false := by rw [beq_eq_false_iff_ne]; omega
      go_wp2_with fail
      go_roundg g
      case measure => omega
      case rel => exact ⟨i + 1, by omega, rfl⟩

set_option maxRecDepth 100000 in
set_option maxHeartbeats 2000000 in
/-- .. of a number that is no rune. -/
theorem rune_none (s : ByteArray) (r : Int) (w : World) (h1 : 128 ≤ r) (h3 : r ≠ 65533) (hv : Lib.validRune r = false) :
    Calls Tryd.prog 36 #[.string s, .int .i32 r] w (Ans w (.int .i64 (-1))) := by
  have q1 : decide ((0 : Int) ≤ r) = true := decide_eq_true (by omega)
  have q2 : decide (r < 128) = false := decide_eq_false (by omega)
  have q3 : (r == 65533) = false := beq_eq_false_iff_ne.2 h3
  have HV := hide hv
  clear h3 hv
  go_enter Tryd.func36, Tryd.ntmps36
  go_wp2_with fail
  refine (Tryd.utf8_ValidRune r w).mono ?_
  rintro e w' ⟨rfl, rfl⟩
  rw [HV.out]
  go_wp2_with fail
  go_ret
  exact ⟨rfl, start _⟩

set_option maxRecDepth 100000 in
set_option maxHeartbeats 2000000 in
/-- .. of a rune of several bytes. -/
theorem rune_more (s : ByteArray) (r : Int) (w : World) (hs : ∀ b ∈ s.data.toList, b.toNat < 128) (h1 : 128 ≤ r) (h3 : r ≠ 65533) (hv : Lib.validRune r = true) :
    Calls Tryd.prog 36 #[.string s, .int .i32 r] w (Ans w (.int .i64 (-1))) := by
  have q1 : decide ((0 : Int) ≤ r) = true := decide_eq_true (by omega)
  have q2 : decide (r < 128) = false := decide_eq_false (by omega)
  have q3 : (r == 65533) = false := beq_eq_false_iff_ne.2 h3
  obtain ⟨z1, z2, z3⟩ := encode_facts r (by rw [validRune_eq]; exact hv) h1
  have HV := hide hv
  have hcv : ∀ W : World, (convert 21 9 (.int .i32 r)).run Tryd.prog W = .ok (.string (Utf8.encode r)) W := fun W => run_convert_int_string W _ _ _ _ (by kernel_rfl) Tryd.underlying9
  generalize Utf8.encode r = E at *
  obtain ⟨n, hn⟩ : ∃ n, E.size = n + 1 := ⟨E.size - 1, by omega⟩
  have hb := z3 (by omega)
  have hnz : (E.size : Int) = (n : Int) + 1 := by omega
  have hE : n < E.size := by omega
  have HB : Hid (128 ≤ (E[n]'hE).toNat) := hide (by
    have e : E.size - 1 = n := by omega
    simpa [e] using hb)
  have hn1 : 1 ≤ n := by omega
  have hn2 : n ≤ 3 := by omega
  have hsub : (E.size : Int) - 1 = (n : Int) := by omega
  clear h3 hv z1 z2 z3 hb
  have HS := hide hs
  clear hs
  go_enter Tryd.func36, Tryd.ntmps36
  go_wp2_with fail
  refine (Tryd.utf8_ValidRune r w).mono ?_
  rintro e w' ⟨rfl, rfl⟩
  rw [HV.out]
  go_wp2_with fail
  go_step3
  go_wp2_with fail
  refine wp_loop_rounds 1 ?_
  rw [rounds_succ]
  by_cases hlt : n < s.size
  · have hi1 : (n : Int) < (s.size : Int) := by omega
    have hi0 : (0 : Int) ≤ (n : Int) := by omega
    have hEz : (n : Int) < (E.size : Int) := by omega
    have hsn : (s[n]'hlt).toNat < 128 := HS.out _ (Array.getElem_mem_toList (xs := s.data) hlt)
    obtain ⟨c, hc⟩ : ∃ c, E[n]'hE = c := ⟨_, rfl⟩
    obtain ⟨d, hd⟩ : ∃ d, s[n]'hlt = d := ⟨_, rfl⟩
    have hc2 : 128 ≤ c.toNat := by rw [← hc]; exact HB.out
    have qn : ((d.toNat : Int) != (c.toNat : Int)) = true := by rw [bne_iff_ne]; rw [hd] at hsn; omega
    obtain ⟨o, ho⟩ : ∃ o, Lib.indexByte (s.extract (n + 1) s.size).data.toList c = o := ⟨_, rfl⟩
    have ho0 : o < 0 := by
      have := indexByte_high (s.extract (n + 1) s.size).data.toList c (not_mem_high HS.out hc2 fun b hb => mem_ext hb)
      rw [ho] at this; omega
    have HI : Hid (∀ W, Calls Tryd.prog 48 #[.string (s.extract (n + 1) s.size), .int .u8 (c.toNat : Int)] W fun e w' => e = .returned (.int .i64 o) ∧ w' = W) := hide (fun W => by
      have h := Tryd.strings_IndexByte (s.extract (n + 1) s.size) (c.toNat : Int) W
      have hb : ((c.toNat : Int)).toNat.toUInt8 = c := by simp
      rw [hb, ho] at h
      exact h)
    have hsl0 : (n : Int) + 1 ≤ (s.size : Int) := by omega
    have hsl1 : (0 : Int) ≤ (n : Int) + 1 := by omega
    have hsl2 : ((n : Int) + 1).toNat = n + 1 := by omega
    have hsl3 : IntKind.i64.wrap ((n : Int) + 1) = (n : Int) + 1 := IntWalk.i64_in _ (by omega)
    clear hc2 ho hsn HB HS HV hn hnz hsub hn1 hn2 h1 q1 q2 q3
    go_wp2_with fail
    go_step3
    go_wp2_with fail
    go_quiet (fail)
    have HQ := hide (below_drawn (start w') nq)
    generalize w'.drewN nq = wq at *
    go_wp2_with fail
    go_quiet ((go_at_call 48; exact Calls.quiet_of_same (HI.out _)))
    go_wp2_with fail
    go_ret
    exact ⟨rfl, below_drawn HQ.out _⟩
  · have hi1 : ¬ (n : Int) < (s.size : Int) := by omega
    go_wp2_with fail
    go_ret
    exact ⟨rfl, start _⟩

end Go.Proofs.YtpicfpadednnoaaDoor

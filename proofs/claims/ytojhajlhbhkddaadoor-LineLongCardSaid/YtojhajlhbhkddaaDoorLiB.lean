/- Walks: small letters made great, byte by byte: package line's capitals, the document's Great. -/
import Derived.Test.YtojhajlhbhkddaaDoorLiA
namespace Go.Proofs.YtojhajlhbhkddaaDoor
open Go.RowKit Rul Rt Fo Li Go.Sort

/-- a block that begins with these bytes, all of which may be written. -/
structure RowY (W : World) (B : Nat) (l : Tx) : Prop where
  lt : B < W.heap.size
  at_ : ∀ j (h : j < l.length), W.cell? ⟨B, j, none⟩ = some (.int .u8 ((l[j]).toNat : Int))
  free : ∀ j, j < l.length → W.frozen? ⟨B, j, none⟩ = false
theorem RowY.below {W W' : World} {B : Nat} {l : Tx} (h : RowY W B l) (hb : Below W.heap.size W W') : RowY W' B l :=
  ⟨Nat.lt_of_lt_of_le h.lt hb.size, fun j hj => (hb.cell (p := ⟨B, j, none⟩) h.lt).trans (h.at_ j hj), fun j hj => (hb.frozen (p := ⟨B, j, none⟩) h.lt).trans (h.free j hj)⟩
theorem bytesRow_len (s : ByteArray) (cap : Nat) : (bytesRow s cap).size = s.size + (cap - s.size) := by
  unfold bytesRow
  rw [Array.size_append, Array.size_map, Array.size_replicate]
  rfl
theorem rowY_new (w : World) (s : ByteArray) (cap : Nat) : RowY (w.alloc (.cells (bytesRow s cap) 5 ((bytesRow s cap).size, (bytesRow s cap).size + 1))) w.heap.size s.data.toList := by
  refine ⟨by simp, fun j hj => ?_, fun j hj => ?_⟩
  · rw [World.cell?_alloc_mark, bytesRow_at _ _ j (by rw [len_of] at hj; exact hj)]
    simp
  · rw [len_of] at hj
    rw [World.frozen?_alloc_mark]
    have : ¬ (bytesRow s cap).size ≤ j := by rw [bytesRow_len]; omega
    rw [decide_eq_false this]; rfl
theorem RowY.conv {W : World} {B : Nat} {l : Tx} (h : RowY W B l) (n cap : Nat) (hn : n = l.length) : (convert 24 9 (.slice (some ⟨B, 0, none⟩) n cap)).run Tryd.prog W = .ok (.string (str l)) W := by
  subst hn
  exact run_convert_bytes_back W _ _ 5 _ cap l Tryd.underlying24 Tryd.underlying5 Tryd.underlying9 (fun j hj => by
    have : (⟨B, 0, none⟩ : Addr).add j = ⟨B, j, none⟩ := plus B j
    rw [this]; exact h.at_ j hj)
theorem RowY.set {W : World} {B : Nat} {l : Tx} (h : RowY W B l) (k : Nat) (c : UInt8) (x : Int) (hx : x = (c.toNat : Int)) (hk : k < l.length) : RowY (W.setCell ⟨B, k, none⟩ (.int .u8 x)) B (l.set k c) := by
  subst hx
  refine ⟨?_, fun j hj => ?_, fun j hj => ?_⟩
  · have := h.lt; simpa [World.setCell] using this
  · rw [List.length_set] at hj
    by_cases e : k = j
    · subst e
      rw [List.getElem_set_self]
      simp [go_sem, h.at_ k hk]
    · have ne : (⟨B, k, none⟩ : Addr) ≠ ⟨B, j, none⟩ := fun g => e (congrArg Addr.off g)
      rw [World.cell?_setCell_other (h := ne), h.at_ j hj, List.getElem_set_ne e]
  · rw [List.length_set] at hj
    rw [World.frozen?_setCell]; exact h.free j hj

theorem bytes_conv (s : ByteArray) (n : Nat) (hn : s.size = n) (w : World) :
    (convert 9 24 (.string s)).run Tryd.prog w = .ok (.slice (some ⟨w.heap.size, 0, none⟩) n (grownCap w n 0 5))
      (w.drew.alloc (.cells (bytesRow s (grownCap w n 0 5)) 5 ((bytesRow s (grownCap w n 0 5)).size, (bytesRow s (grownCap w n 0 5)).size + 1))) := by
  subst hn
  exact run_bytes_of_string (P := Tryd.prog) w 9 24 5 s Tryd.underlying9 Tryd.underlying24 Tryd.underlying5
theorem bytes_made (s : ByteArray) (w : World) (cap : Nat) :
    RowY (w.alloc (.cells (bytesRow s cap) 5 ((bytesRow s cap).size, (bytesRow s cap).size + 1))).drew w.heap.size s.data.toList ∧
    Below w.heap.size w (w.alloc (.cells (bytesRow s cap) 5 ((bytesRow s cap).size, (bytesRow s cap).size + 1))).drew := by
  have h := rowY_new w.drew s cap
  have e : w.drew.heap.size = w.heap.size := rfl
  rw [e] at h
  exact ⟨h, (start w).drew.alloc (Nat.le_refl _) _⟩

set_option maxRecDepth 100000 in
set_option maxHeartbeats 1000000 in
theorem capitals_any (s : ByteArray) (w : World) (hs : s.size ≤ 100000) :
    Calls Tryd.prog 13 #[.string s] w (Ans w (.string (str (capE s.data.toList)))) := by
  obtain ⟨n, hn⟩ : ∃ n, s.size = n := ⟨_, rfl⟩
  have hcv := bytes_conv s n hn
  have HM := hide (fun cap => bytes_made s w cap)
  have hln : s.data.toList.length = n := by rw [len_of, hn]
  rw [hn] at hs
  obtain ⟨L, hL⟩ : ∃ L, s.data.toList = L := ⟨_, rfl⟩
  rw [hL] at HM hln
  rw [hL]
  have HLN := hide hln
  clear hn hln hL
  go_enter Tryd.func13, Tryd.ntmps13
  go_wp2_with fail
  obtain ⟨cap, hcap⟩ : ∃ cap, grownCap w n 0 5 = cap := ⟨_, rfl⟩
  rw [hcap]
  have HR := hide (HM.out cap).1
  have HB := hide (HM.out cap).2
  clear hcv hcap HM
  generalize (w.alloc (.cells (bytesRow s cap) 5 ((bytesRow s cap).size, (bytesRow s cap).size + 1))).drew = W1 at *
  generalize hg : w.heap.size = g at *
  go_loopw [10] (fun i wr => ∃ k : Nat, k ≤ n ∧ i = .int .i64 k ∧ Hid (RowY wr g (capE (L.take k) ++ L.drop k)) ∧ Hid (Below g w wr)) (fun i _ => n - (intOf i).toNat)
  case atStart => exact ⟨0, Nat.zero_le _, rfl, HR, HB⟩
  case round =>
    obtain ⟨k, hk, rfl, HY, HW⟩ := hrel
    by_cases hlt : k < n
    · have hkL : k < L.length := by rw [HLN.out]; exact hlt
      have hl2 : k < (capE (L.take k) ++ L.drop k).length := by rw [List.length_append, capE_len, List.length_take, List.length_drop]; omega
      obtain ⟨c, hc⟩ : ∃ c, L[k]'hkL = c := ⟨_, rfl⟩
      have p1 : wr.cell? ⟨g, k, none⟩ = some (.int .u8 (c.toNat : Int)) := by rw [HY.out.at_ k hl2, capE_at L k hkL hl2, hc]
      have f1 := HY.out.free k hl2
      have hi0 : (0 : Int) ≤ (k : Int) := by omega
      have hi1 : (k : Int) < (n : Int) := by omega
      by_cases h1 : (97 : Int) ≤ (c.toNat : Int)
      · by_cases h2 : (c.toNat : Int) ≤ 122
        · have d1 : decide ((97 : Int) ≤ (c.toNat : Int)) = true := decide_eq_true h1
          have d2 : decide ((c.toNat : Int) ≤ 122) = true := decide_eq_true h2
          obtain ⟨x, hx⟩ : ∃ x : Int, (c.toNat : Int) - 97 + 65 = x := ⟨_, rfl⟩
          have hw1 : IntKind.u8.wrap ((c.toNat : Int) - 97) = (c.toNat : Int) - 97 := IntWalk.u8_in _ (by omega)
          have hw2 : IntKind.u8.wrap ((c.toNat : Int) - 97 + 65) = x := by rw [hx]; exact IntWalk.u8_in _ (by omega)
          have hux : x = ((up c).toNat : Int) := by rw [up_small c (by omega) (by omega), sub32 c (by omega)]; omega
          have HN := hide ((capE_step L k hkL c hc) ▸ HY.out.set k (up c) x hux hl2)
          have HW2 := hide (HW.out.setCell (p := ⟨g, k, none⟩) (Nat.le_refl _) (.int .u8 x))
          clear hux hl2 hc hkL
          go_wp2_with fail
          go_roundw
          case rel => exact ⟨k + 1, by omega, by go_num, HN, HW2⟩
          case measure => simp [intOf]; omega
        · have d1 : decide ((97 : Int) ≤ (c.toNat : Int)) = true := decide_eq_true h1
          have d2 : decide ((c.toNat : Int) ≤ 122) = false := decide_eq_false h2
          have HN : Hid (RowY wr g (capE (L.take (k + 1)) ++ L.drop (k + 1))) := hide ((capE_stay L k hkL c hc (up_other c (by omega))) ▸ HY.out)
          clear hl2 hc hkL
          go_wp2_with fail
          go_roundw
          case rel => exact ⟨k + 1, by omega, by go_num, HN, HW⟩
          case measure => simp [intOf]; omega
      · have d1 : decide ((97 : Int) ≤ (c.toNat : Int)) = false := decide_eq_false h1
        have HN : Hid (RowY wr g (capE (L.take (k + 1)) ++ L.drop (k + 1))) := hide ((capE_stay L k hkL c hc (up_other c (by omega))) ▸ HY.out)
        clear hl2 hc hkL
        go_wp2_with fail
        go_roundw
        case rel => exact ⟨k + 1, by omega, by go_num, HN, HW⟩
        case measure => simp [intOf]; omega
    · obtain rfl : k = n := by omega
      have e := capE_all L
      rw [HLN.out] at e
      rw [e] at HY
      have hcb := HY.out.conv k cap (by rw [capE_len, HLN.out])
      clear e
      go_wp2_with fail
      go_ret
      exact ⟨rfl, by rw [hg]; exact HW.out⟩

end Go.Proofs.YtojhajlhbhkddaaDoor

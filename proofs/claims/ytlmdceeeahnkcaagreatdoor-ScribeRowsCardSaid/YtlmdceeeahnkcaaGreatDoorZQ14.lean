/- ScBy; ScSp0 of the recipes, what is needed of them. -/
import Derived.Laws.IdiomStrings
import Derived.Laws.BitsAllLaws
import Derived.Deep.RegionHeld3
import Derived.Test.YtlmdceeeahnkcaaGreatDoorZQ13
namespace Go.Proofs.YtlmdceeeahnkcaaGreatDoor
open Go.RowKit Rul Rt Go.Sort Sc De Cl

/-- a block that begins with these bytes, all of which may be written. -/
structure RowY (W : World) (B : Nat) (l : Tx) : Prop where
  lt : B < W.heap.size
  at_ : ∀ j (h : j < l.length), W.cell? ⟨B, j, none⟩ = some (.int .u8 ((l[j]).toNat : Int))
  free : ∀ j, j < l.length → W.frozen? ⟨B, j, none⟩ = false
theorem RowY.below {W W' : World} {B : Nat} {l : Tx} (h : RowY W B l) (hb : Below W.heap.size W W') : RowY W' B l :=
  ⟨Nat.lt_of_lt_of_le h.lt hb.size, fun j hj => (hb.cell (p := ⟨B, j, none⟩) h.lt).trans (h.at_ j hj), fun j hj => (hb.frozen (p := ⟨B, j, none⟩) h.lt).trans (h.free j hj)⟩
theorem bytesRow_len (s : ByteArray) (cap : Nat) : (bytesRow s cap).size = s.size + (cap - s.size) := by
  unfold bytesRow
  rw [Array.size_append, Array.size_map, Array.size_replicate]
  rfl
theorem rowY_new (w : World) (s : ByteArray) (cap : Nat) : RowY (w.alloc (.cells (bytesRow s cap) 5 ((bytesRow s cap).size, (bytesRow s cap).size + 1))) w.heap.size s.data.toList := by
  refine ⟨by simp, fun j hj => ?_, fun j hj => ?_⟩
  · rw [World.cell?_alloc_mark, bytesRow_at _ _ j (by rw [len_of] at hj; exact hj)]
    simp
  · rw [len_of] at hj
    rw [World.frozen?_alloc_mark]
    have : ¬ (bytesRow s cap).size ≤ j := by rw [bytesRow_len]; omega
    rw [decide_eq_false this]; rfl
theorem RowY.conv {W : World} {B : Nat} {l : Tx} (h : RowY W B l) (n cap : Nat) (hn : n = l.length) : (convert 44 9 (.slice (some ⟨B, 0, none⟩) n cap)).run Tryz.prog W = .ok (.string (str l)) W := by
  subst hn
  exact run_convert_bytes_back W _ _ 5 _ cap l Tryz.underlying44 Tryz.underlying5 Tryz.underlying9 (fun j hj => by
    have : (⟨B, 0, none⟩ : Addr).add j = ⟨B, j, none⟩ := plus B j
    rw [this]; exact h.at_ j hj)
theorem RowY.set {W : World} {B : Nat} {l : Tx} (h : RowY W B l) (k : Nat) (c : UInt8) (x : Int) (hx : x = (c.toNat : Int)) (hk : k < l.length) : RowY (W.setCell ⟨B, k, none⟩ (.int .u8 x)) B (l.set k c) := by
  subst hx
  refine ⟨?_, fun j hj => ?_, fun j hj => ?_⟩
  · have := h.lt; simpa [World.setCell] using this
  · rw [List.length_set] at hj
    by_cases e : k = j
    · subst e
      rw [List.getElem_set_self]
      simp [go_sem, h.at_ k hk]
    · have ne : (⟨B, k, none⟩ : Addr) ≠ ⟨B, j, none⟩ := fun g => e (congrArg Addr.off g)
      rw [World.cell?_setCell_other (h := ne), h.at_ j hj, List.getElem_set_ne e]
  · rw [List.length_set] at hj
    rw [World.frozen?_setCell]; exact h.free j hj

theorem bytes_conv (s : ByteArray) (n : Nat) (hn : s.size = n) (w : World) :
    (convert 9 44 (.string s)).run Tryz.prog w = .ok (.slice (some ⟨w.heap.size, 0, none⟩) n (grownCap w n 0 5))
      (w.drew.alloc (.cells (bytesRow s (grownCap w n 0 5)) 5 ((bytesRow s (grownCap w n 0 5)).size, (bytesRow s (grownCap w n 0 5)).size + 1))) := by
  subst hn
  exact run_bytes_of_string (P := Tryz.prog) w 9 44 5 s Tryz.underlying9 Tryz.underlying44 Tryz.underlying5
end Go.Proofs.YtlmdceeeahnkcaaGreatDoor
namespace Go.Proofs.YtlmdceeeahnkcaaGreatDoor
open Go.RowKit Rul Rt Go.Sort Sc De Cl

theorem set_xor (L : Tx) (k : Nat) (y : UInt8) (h : k < L.length) : spo L k y 0 = L.set k (L[k] ^^^ y) := by
  unfold spo; rw [if_pos rfl]
  have : L.getD k 0 = L[k] := by simp [List.getD, h]
  rw [this]
theorem ext_str (L : Tx) (i j : Nat) : (str L).extract i j = str ((L.drop i).take (j - i)) := by
  apply ByteArray.ext
  simp [str, ByteArray.data_extract]
theorem ext_end (L : Tx) (i : Nat) : (str L).extract i (str L).size = str (L.drop i) := by
  rw [ext_str, str_size, List.take_of_length_le (by rw [List.length_drop]; omega)]
theorem str_app (a b : Tx) : str a ++ str b = str (a ++ b) := by
  apply ByteArray.ext
  rw [ByteArray.data_append]
  simp [str]
theorem spo_le (L : Tx) (k : Nat) (y : UInt8) (h : Nat) (hk : k < L.length) : (spo L k y h).length ≤ L.length + 1 := by
  unfold spo
  split
  · rw [List.length_set]; omega
  · split
    · rw [List.length_append, List.length_take, List.length_drop]; omega
    · split
      · rw [List.length_append, List.length_cons, List.length_take, List.length_drop]; omega
      · rw [List.length_take]; omega
set_option maxRecDepth 100000 in
set_option maxHeartbeats 32000000 in
set_option linter.unusedSimpArgs false in
theorem ss0_any (d : D) (m : DM) (n : Nat) (y : UInt8) (how : Int) (w : World) (he : Env w) (h : DL w d m) (hf : fewD d = true) (hd : isD d = true) (h1 : n < 65536) (h4 : how % 4 = 0) (h0 : 0 ≤ how) :
    Calls Tryz.prog 4 #[.agg (dC d m).toArray, .int .u16 n, .int .u8 ((y.toNat : Nat) : Int), .int .u8 how] w (Ans w (.bool true)) := by
  have HB := hide (more (start w) (.cells (dC d m).toArray 34))
  have R1 := hide (range_new w (dC d m) 34)
  have HE := hide (he.keep HB.out)
  have HK := hide (fun w he => known_any w he)
  have HA := hide (h.keep HB.out)
  have HF := hide (fun w => fewD_c d m true w hf)
  have HI := hide (fun w h => rdIs_c d m true w h hd)
  have HL1 := hide (fun w he h => line_any d m w he h)
  rw [lineV_yes hd] at HL1
  have hl := line_len hd
  have hz4 : ¬ ((lineE d).length : Int) < 4 := by omega
  have hkn : n % (lineE d).length < (lineE d).length := Nat.mod_lt _ (by omega)
  have hem : (n : Int) % ((lineE d).length : Int) = ((n % (lineE d).length : Nat) : Int) := (Int.natCast_emod _ _).symm
  have hez : ((lineE d).length : Int) ≠ 0 := by omega
  have hwb : wrap64 (n : Int) = (n : Int) := IntWalk.wrap64_in _ (by omega)
  have e4 : how.tmod 4 = 0 := by rw [Int.tmod_eq_emod_of_nonneg h0]; exact h4
  have HS := hide (spo_le (lineE d) (n % (lineE d).length) y 0 hkn)
  have HRY := hide (fun w he => Read_any (lineE d) w he (by omega))
  rw [read_line hd] at HRY
  have HRN := hide (fun (hne : spo (lineE d) (n % (lineE d).length) y 0 ≠ lineE d) w he => (spo_no y 0 hkn hne) ▸ Read_any (spo (lineE d) (n % (lineE d).length) y 0) w he (by have := HS.out; omega))
  have q1 := str_tl (lineE d)
  have hsz : ((str (lineE d)).size : Int) = ((lineE d).length : Int) := by rw [str_size]
  have HSZ := hide (str_size (lineE d))
  have HLN := hide hl
  clear he h hf hd hl h1 h0
  generalize lineE d = L at *
  generalize n % L.length = k at *
  have hk0 : (0 : Int) ≤ (k : Int) := by omega
  have hk1 : (k : Int) ≤ (L.length : Int) := by omega
  have hk2 : (k : Int) + 1 ≤ (L.length : Int) := by omega
  have hk3 : (0 : Int) ≤ (k : Int) + 1 := by omega
  have hkw : IntKind.i64.wrap ((k : Int) + 1) = (k : Int) + 1 := IntWalk.i64_in _ (by have := HLN.out; omega)
  have hkn1 : ((k : Int) + 1).toNat = k + 1 := by omega
  go_enter Tryz.func4, Tryz.ntmps4
  go_wp2_with fail
  refine (HK.out _ HE.out).mono ?_
  rintro q w1 ⟨rfl, hb⟩
  replace HB := hide (andthen HB.out hb)
  replace R1 := hide (range_keep R1.out hb)
  replace HE := hide (HE.out.keep hb)
  replace HA := hide (HA.out.keep hb)
  clear hb
  go_wp2_with (refine load_deed rfl _ rfl _ _ rfl _ R1.out rfl ?_)
  refine (HF.out _).mono ?_
  rintro q w2 ⟨rfl, hb⟩
  replace HB := hide (andthen HB.out hb)
  replace R1 := hide (range_keep R1.out hb)
  replace HE := hide (HE.out.keep hb)
  replace HA := hide (HA.out.keep hb)
  clear hb
  go_wp2_with (refine load_deed rfl _ rfl _ _ rfl _ R1.out rfl ?_)
  refine (HI.out _ HA.out).mono ?_
  rintro q w3 ⟨rfl, hb⟩
  replace HB := hide (andthen HB.out hb)
  replace R1 := hide (range_keep R1.out hb)
  replace HE := hide (HE.out.keep hb)
  replace HA := hide (HA.out.keep hb)
  clear hb
  go_wp2_with (refine load_deed rfl _ rfl _ _ rfl _ R1.out rfl ?_)
  refine (HL1.out _ HE.out HA.out).mono ?_
  rintro q w4 ⟨rfl, hb⟩
  replace HB := hide (andthen HB.out hb)
  replace R1 := hide (range_keep R1.out hb)
  replace HE := hide (HE.out.keep hb)
  replace HA := hide (HA.out.keep hb)
  clear hb
  obtain ⟨c, hc⟩ : ∃ c, L[k]'hkn = c := ⟨_, rfl⟩
  have hcv := bytes_conv (str L) L.length HSZ.out
  have HRY4 : Hid (∀ cap, RowY (w4.alloc (.cells (bytesRow (str L) cap) 5 ((bytesRow (str L) cap).size, (bytesRow (str L) cap).size + 1))) w4.heap.size L) := hide (fun cap => by have := rowY_new w4 (str L) cap; rwa [str_list] at this)
  have p1 := fun cap => (HRY4.out cap).at_ k hkn
  rw [hc] at p1
  have p2 := fun cap => (HRY4.out cap).free k hkn
  have hx8 : bits .xor .u8 ((c.toNat : Nat) : Int) ((y.toNat : Nat) : Int) = ((c.toNat ^^^ y.toNat : Nat) : Int) := u8_xor_nat _ _ c.toNat_lt y.toNat_lt
  have HY2 := hide (fun cap => (HRY4.out cap).set k (c ^^^ y) ((c.toNat ^^^ y.toNat : Nat) : Int) (by rw [UInt8.toNat_xor]) hkn)
  have hcv2 : ∀ cap cap', (convert 44 9 (.slice (some ⟨w4.heap.size, 0, none⟩) L.length cap')).run Tryz.prog (((w4.alloc (.cells (bytesRow (str L) cap) 5 ((bytesRow (str L) cap).size, (bytesRow (str L) cap).size + 1))).setCell ⟨w4.heap.size, k, none⟩ (.int .u8 ((c.toNat ^^^ y.toNat : Nat) : Int))).drew) = .ok (.string (str (L.set k (c ^^^ y)))) (((w4.alloc (.cells (bytesRow (str L) cap) 5 ((bytesRow (str L) cap).size, (bytesRow (str L) cap).size + 1))).setCell ⟨w4.heap.size, k, none⟩ (.int .u8 ((c.toNat ^^^ y.toNat : Nat) : Int))).drew) := fun cap cap' => RowY.conv ((HY2.out cap).below (Below.drew (start _))) L.length cap' (by simp)
  have HB5 : Hid (∀ cap, Below w4.heap.size w4 (((w4.alloc (.cells (bytesRow (str L) cap) 5 ((bytesRow (str L) cap).size, (bytesRow (str L) cap).size + 1))).setCell ⟨w4.heap.size, k, none⟩ (.int .u8 ((c.toNat ^^^ y.toNat : Nat) : Int))).drew)) := hide (fun cap => Below.drew (Below.setCell (more (start w4) _) (p := ⟨w4.heap.size, k, none⟩) (Nat.le_refl _) _))
  have hS : L.set k (c ^^^ y) = spo L k y 0 := by rw [set_xor L k y hkn, hc]
  clear hc
  go_wp2_with fail
  have hb := HB5.out (grownCap w4 L.length 0 5)
  clear hcv hcv2 p1 p2 HY2 HRY4 HB5 hS
  replace HB := hide (andthen HB.out hb)
  replace R1 := hide (range_keep R1.out hb)
  replace HE := hide (HE.out.keep hb)
  replace HA := hide (HA.out.keep hb)
  clear hb
  generalize ((w4.alloc (.cells (bytesRow (str L) (grownCap w4 L.length 0 5)) 5 ((bytesRow (str L) (grownCap w4 L.length 0 5)).size, (bytesRow (str L) (grownCap w4 L.length 0 5)).size + 1))).setCell ⟨w4.heap.size, k, none⟩ (.int .u8 ((c.toNat ^^^ y.toNat : Nat) : Int))).drew = w5 at *
  generalize hs : spo L k y 0 = s at *
  clear hs
  have q2 := str_tl s
  by_cases hq : s = L
  · have q3 : (s == L) = true := by rw [tx_dec, decide_eq_true hq]
    subst hq
    refine (HRY.out _ HE.out).mono ?_
    rintro q w6 ⟨hb, p, rfl, _⟩
    replace HB := hide (more (andthen HB.out hb) (.cells (dC d p).toArray 34))
    clear hb
    go_wp2_with (refine store_new rfl _ _ _ rfl w6 _ (dC d p).toArray rfl rfl rfl (by kernel_rfl) (by kernel_rfl) (by kernel_rfl) ?_)
    go_ret
    exact ⟨rfl, HB.out⟩
  · have q3 : (s == L) = false := by rw [tx_dec, decide_eq_false hq]
    have HSM := hide (fun w => rsameD_c d0 d0 mD mD true w (dl_nil w) (dl_nil w) (sameD_self _))
    refine (HRN.out hq _ HE.out).mono ?_
    rintro q w6 ⟨hb, rfl⟩
    have R := hide (range_new w6 (dC d0 mD) 34)
    replace HB := hide (more (andthen HB.out hb) (.cells (dC d0 mD).toArray 34))
    clear hb hq
    go_wp2_with (first | refine load_deed rfl _ rfl _ _ rfl _ R.out rfl ?_ | refine store_new rfl _ _ _ rfl w6 _ (dC d0 mD).toArray rfl rfl rfl (by kernel_rfl) (by kernel_rfl) (by kernel_rfl) ?_ | refine build_at rfl 34 _ rfl (dC d0 mD).toArray (by kernel_rfl) ?_)
    refine (HSM.out _).mono ?_
    rintro q w7 ⟨rfl, hb⟩
    replace HB := hide (andthen HB.out hb)
    clear hb
    go_wp2_with fail
    go_ret
    exact ⟨rfl, HB.out⟩
end Go.Proofs.YtlmdceeeahnkcaaGreatDoor

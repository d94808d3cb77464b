/- LineLong walked: a line of whatever length is joined in pieces that aren't too long, and is one line again. -/
import Derived.Test.YtojhajlhbhkddaaDoorLiK
import Derived.Test.YtojhajlhbhkddaaDoorFoLonA
import Derived.Test.YtojhajlhbhkddaaDoorFoH
namespace Go.Proofs.YtojhajlhbhkddaaDoor
open Go.RowKit Rul Rt Fo Li Go.Sort

theorem Wrote.keep {W w w1 : World} {g k j : Nat} {v : Int} (h : Wrote W w g k j v) (hg : g < w.heap.size) (hb : Below w.heap.size w w1) : Wrote W w1 g k j v :=
  ⟨h.1.trans (hb.mono (Nat.le_of_lt hg)), fun t ht => ⟨(hb.cell (p := ⟨g, t, none⟩) hg).trans (h.2 t ht).1, (hb.frozen (p := ⟨g, t, none⟩) hg).trans (h.2 t ht).2⟩⟩
theorem unfold_is (t : Tx) (l : List Tx) (w : World) (he : Env w) (ht : t.length ≤ 100000) (h : unfoldE t = l) : Calls Tryd.prog 5 #[.string (str t)] w (GivesS w l) := by
  have := unfold_any (str t) w he (by rw [str_size]; exact ht)
  rw [str_list, h] at this
  exact this

set_option maxRecDepth 100000 in
set_option maxHeartbeats 1000000 in
theorem llong_core (nn cn : Nat) (w : World) (he : Env w) (hn : nn ≤ 65535) (hcn : cn ≤ 255) :
    Calls Tryd.prog 3 #[.int .u16 nn, .int .u8 cn] w (Ans w (.bool true)) := by
  have HE := hide he
  have HK := hide (lknown_any w he)
  clear he
  have hnt : (nn : Int).tmod 500 = ((nn % 500 : Nat) : Int) := by rw [Int.tmod_eq_emod_of_nonneg (by omega)]; rfl
  obtain ⟨k, hk⟩ : ∃ k, nn % 500 = k := ⟨_, rfl⟩
  rw [hk] at hnt
  have hk5 : (k : Int) ≤ 499 := by omega
  obtain ⟨v, hv⟩ : ∃ v, 97 + cn % 26 = v := ⟨_, rfl⟩
  have hv1 : 97 ≤ v ∧ v ≤ 122 := by omega
  have hct : (cn : Int).tmod 26 = ((cn % 26 : Nat) : Int) := by rw [Int.tmod_eq_emod_of_nonneg (by omega)]; rfl
  obtain ⟨r, hr⟩ : ∃ r, cn % 26 = r := ⟨_, rfl⟩
  rw [hr] at hct hv
  have hr26 : (r : Int) ≤ 25 := by omega
  have hvr : (97 : Int) + (r : Int) = (v : Int) := by omega
  clear hv hk
  go_enter Tryd.func3, Tryd.ntmps3
  go_wp2_with fail
  refine (HK.out).mono ?_
  rintro e w1 ⟨rfl, hb1⟩
  have HB := hide hb1
  clear hb1
  go_wp2_with (refine wp_makeB rfl _ _ rfl (n := k) rfl rfl (by omega) ?_)
  go_wp2_with fail
  generalize hg : w1.heap.size = g at *
  have HW0 : Hid (Wrote w1 (w1.alloc (.cells (Array.replicate k (.int .u8 0)) 5)) g k 0 (v : Int)) := hide (hg ▸ wrote_new w1 k v)
  have HG0 : Hid (g < (w1.alloc (.cells (Array.replicate k (.int .u8 0)) 5)).heap.size) := hide (by rw [← hg]; simp)
  generalize w1.alloc (.cells (Array.replicate k (.int .u8 0)) 5) = W0 at *
  go_loopw [7] (fun i wr => ∃ j : Nat, j ≤ k ∧ i = .int .i64 j ∧ Hid (Wrote w1 wr g k j (v : Int)) ∧ Hid (g < wr.heap.size)) (fun i _ => k - (intOf i).toNat)
  case atStart => exact ⟨0, Nat.zero_le _, rfl, HW0, HG0⟩
  case round =>
    obtain ⟨j, hj, rfl, HW, HG⟩ := hrel
    by_cases hlt : j < k
    · have hi0 : (0 : Int) ≤ (j : Int) := by omega
      have hi1 : (j : Int) < (k : Int) := by omega
      have p1 := (HW.out.2 j hlt).1
      have f1 := (HW.out.2 j hlt).2
      have HN := hide (HW.out.set hlt)
      have HGN : Hid (g < (wr.setCell ⟨g, j, none⟩ (.int .u8 (v : Int))).heap.size) := hide (by simpa [World.setCell] using HG.out)
      go_wp2_with fail
      go_roundw
      case rel => exact ⟨j + 1, by omega, by go_num, HN, HGN⟩
      case measure => simp [intOf]; omega
    · obtain rfl : j = k := by omega
      have hcv := wrote_text HW.out (by omega)
      have hf := repl_facts j v hv1
      have hl : (List.replicate j (UInt8.ofNat v)).length = j := List.length_replicate
      have HWA : Hid (∀ w2, Below wr.heap.size wr w2 → (convert 24 9 (.slice (some ⟨g, 0, none⟩) j j)).run Tryd.prog w2 = .ok (.string (str (List.replicate j (UInt8.ofNat v)))) w2) :=
        hide (fun w2 h2 => wrote_text (HW.out.keep HG.out h2) (by omega))
      have HSP := hide (line_summary (List.replicate j (UInt8.ofNat v)))
      have HUF := hide (unfold_line (List.replicate j (UInt8.ofNat v)) hf.1)
      generalize List.replicate j (UInt8.ofNat v) = L at *
      have hFl := foldE_len (summary ++ 58 :: L)
      have hsl : (summary ++ 58 :: L).length = j + 8 := by rw [List.length_append, List.length_cons, hl]; simp only [summary, List.length_cons, List.length_nil]; omega
      rw [hsl] at hFl
      have C1 := hide (fun w => join_at (str [83, 85, 77, 77, 65, 82, 89]) (str L) (foldE (summary ++ 58 :: L)) w (by rw [str_size]; decide) (by rw [str_size, hl]; omega) (by rw [str_list, str_list]; rfl))
      have C2 := hide (fun w he => unfold_is (foldE (summary ++ 58 :: L)) _ w he (by omega) HUF.out)
      have C3 := hide (fun w he => split_at (str (summary ++ 58 :: L)) (some (summary, L)) w he (by rw [str_size, hsl]; omega) (by rw [str_list]; exact HSP.out))
      simp only [splA] at C3
      generalize foldE (summary ++ 58 :: L) = F at *
      have qS : ((str summary).toList == ([83, 85, 77, 77, 65, 82, 89] : List UInt8)) = true := by rw [str_tl]; rfl
      have qL : ((str L).toList == (str L).toList) = true := beq_self_eq_true _
      generalize summary ++ 58 :: L = S at *
      generalize str summary = SU at *
      replace HB := hide (HB.out.trans (HW.out.1.mono (by rw [← hg]; exact HB.out.size)))
      clear hFl hsl hl hf hlt HW HW0
      go_wp2_with fail
      refine (C1.out _).mono ?_
      rintro e w2 ⟨rfl, hb2⟩
      replace HB := hide (andthen HB.out hb2)
      have HX2 := hide hb2
      clear hb2
      go_wp2_with fail
      refine (C2.out _ (HE.out.keep HB.out)).mono ?_
      rintro e w3 ⟨vU, rfl, hown, hb3⟩
      obtain ⟨A3, c3, rfl, hrow, _⟩ := OwnS.row hown
      obtain ⟨b, o, rfl, hbl, hc⟩ := hrow (by simp)
      have p0 := hc 0 (by simp)
      simp only [List.getElem_cons_zero, Nat.add_zero] at p0
      replace HB := hide (andthen HB.out hb3)
      replace HX2 := hide (andthen HX2.out hb3)
      clear hb3 hown hrow hc
      go_wp2_with fail
      refine (C3.out _ (HE.out.keep HB.out)).mono ?_
      rintro e w4 ⟨rfl, hb4⟩
      replace HB := hide (andthen HB.out hb4)
      replace HX2 := hide (andthen HX2.out hb4)
      clear hb4 hcv
      have hcv2 := HWA.out _ HX2.out
      go_wp2_with fail
      go_ret
      exact ⟨rfl, HB.out⟩

theorem llong_any (x y : Int) (w : World) (he : Env w) (x0 : 0 ≤ x) (x1 : x ≤ 65535) (y0 : 0 ≤ y) (y1 : y ≤ 255) :
    Calls Tryd.prog 3 #[.int .u16 x, .int .u8 y] w (Ans w (.bool true)) := by
  have := llong_core x.toNat y.toNat w he (by omega) (by omega)
  rw [Int.toNat_of_nonneg x0, Int.toNat_of_nonneg y0] at this
  exact this

end Go.Proofs.YtojhajlhbhkddaaDoor

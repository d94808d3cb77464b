/- Walks of package fold: splitAtEnds, unfolded, lines, Unfold. -/
import Derived.Test.YtojhajlhbhkddaaDoorFoD
import Derived.Test.YtojhajlhbhkddaaDoorFoA
import Derived.Test.YtojhajlhbhkddaaDoorFoEn
import Derived.Test.YtojhajlhbhkddaaDoorShelg
import Derived.Lib.SplitLaws
namespace Go.Proofs.YtojhajlhbhkddaaDoor
open Go.RowKit Rul Rt Fo Go.Sort

/-- a call answers a row of texts in new memory. -/
def PieS (w : World) (l : List Tx) (e : Ending) (w' : World) : Prop := ∃ A cap, e = .returned (.slice A l.length cap) ∧ RowS w' A l ∧ l.length ≤ cap ∧ Below w.heap.size w w'
theorem split_all (t : ByteArray) (w : World) (he : Env w) (ht : t.size ≤ 1000000) :
    Calls Tryd.prog 17 #[.string t, .string (str crlf)] w (PieS w (Lib.split t.data.toList crlf)) := by
  obtain ⟨m, hm⟩ := he.len
  refine (Tryd.strings_Split t (str crlf) m w (by omega) hm (by rw [str_size]; decide)).mono ?_
  rintro e w' ⟨rfl, rfl⟩
  have ed := Lib.splitB_data (str crlf) 0 (Lib.countB t (str crlf)) t
  have es : Lib.split t.data.toList crlf = Lib.splitK crlf 0 (Lib.countB t (str crlf)) t.data.toList := by
    unfold Lib.split Lib.countB; rw [str_list]
  have el := Lib.splitB_all (str crlf) (by rw [str_size]; decide) 0 _ t rfl
  rw [str_list, ← es] at ed
  generalize hB : Lib.splitB (str crlf) 0 (Lib.countB t (str crlf)) t = B at *
  have hl : B.length = (Lib.split t.data.toList crlf).length := by rw [← ed, List.length_map]
  rw [el] at hl
  refine ⟨some ⟨w.heap.size, 0, none⟩, _, by rw [hl], fun _ => ⟨w.heap.size, 0, rfl, by simp, fun i hi => ?_⟩, by omega, more (start _) _⟩
  have hi2 : i < B.length := by omega
  have hx : (Lib.split t.data.toList crlf)[i] = B[i].data.toList := by
    have : (B.map (·.data.toList))[i]'(by rw [List.length_map]; exact hi2) = B[i].data.toList := List.getElem_map _
    rw [← this]
    congr 1
    exact ed.symm
  rw [hx, data_str, Nat.zero_add, World.cell?_alloc_at _ _ _ _ rfl]
  simp only [List.getElem?_toArray]
  rw [List.getElem?_map, List.getElem?_eq_getElem hi2]; rfl

theorem split_len (s : Tx) : (Lib.split s crlf).length ≤ s.length + 1 := by
  have h1 := Lib.countB_le (str crlf) (by rw [str_size]; decide) _ (str s) (Nat.le_refl _)
  unfold Lib.countB at h1
  rw [str_list, str_list, str_size] at h1
  have h2 := splitK_count crlf (Lib.count s crlf) s
  unfold Lib.split
  omega
theorem RowS.front {w : World} {A : Option Addr} {l k : List Tx} (h : RowS w A (l ++ k)) : RowS w A l := fun hn => by
  obtain ⟨b, off, e, hl, hc⟩ := h (by simp [hn])
  refine ⟨b, off, e, hl, fun i hi => ?_⟩
  have := hc i (by rw [List.length_append]; omega)
  rw [List.getElem_append_left hi] at this
  exact this

set_option maxRecDepth 100000 in
set_option maxHeartbeats 1000000 in
theorem splitEnds_any (t : ByteArray) (w : World) (he : Env w) (ht : t.size ≤ 1000000) :
    Calls Tryd.prog 10 #[.string t] w (PieS w (fin (Lib.split t.data.toList crlf))) := by
  have HC := hide (split_all t w he ht)
  have hne := split_ne t.data.toList
  have hsl := split_len t.data.toList
  rw [len_of] at hsl
  generalize Lib.split t.data.toList crlf = ps at *
  obtain ⟨l, x, rfl⟩ : ∃ l x, ps = l ++ [x] := ⟨ps.dropLast, ps.getLast hne, (List.dropLast_concat_getLast hne).symm⟩
  obtain ⟨m, hm⟩ : ∃ m, l.length = m := ⟨_, rfl⟩
  rw [List.length_append, hm, List.length_singleton] at hsl
  have hi5 : (m : Int) ≤ 1000000 := by omega
  have HF1 : Hid (x = [] → fin (l ++ [x]) = l) := hide (fun h => by subst h; exact fin_snoc l)
  have HF2 : Hid (x ≠ [] → fin (l ++ [x]) = l ++ [x]) := hide (fun h => fin_keep l x h)
  generalize hF : fin (l ++ [x]) = F at *
  have HM : Hid (l.length = m) := hide hm
  clear hm hne hF he ht hsl
  go_enter Tryd.func10, Tryd.ntmps10
  go_wp2_with fail
  refine (HC.out).mono ?_
  rintro e w1 ⟨A, cap, rfl, hrow, hcap, hb1⟩
  have hlen : (l ++ [x]).length = m + 1 := by rw [List.length_append, HM.out]; rfl
  rw [hlen] at hcap ⊢
  obtain ⟨b, off, rfl, hbl, hc⟩ := hrow (by simp)
  have p1 : w1.cell? ⟨b, off + m, none⟩ = some (.string (str x)) := by
    rw [hc m (by omega)]
    congr 3
    have e := HM.out
    subst e
    simp
  have HR := hide hrow
  have HB := hide hb1
  have HLN := hide hlen
  have hi1 : (m : Int) + 1 - 1 = (m : Int) := by omega
  have hi2 : (m : Int) < (m : Int) + 1 := by omega
  have hi3 : (0 : Int) ≤ (m : Int) := by omega
  have hi4 : (m : Int) ≤ (cap : Int) := by omega
  have HCAP := hide hcap
  clear hrow hb1 hc hlen hcap
  have q1 := str_tl x
  cases x with
  | nil =>
    have HF := hide (HF1.out rfl)
    have q2 : ((str ([] : Tx)).toList == ([] : List UInt8)) = true := by rw [q1]; rfl
    go_wp2_with fail
    go_ret
    refine ⟨_, cap, ?_, by rw [HF.out]; exact HR.out.front, by rw [HF.out]; have := HCAP.out; have := HM.out; omega, HB.out⟩
    rw [HF.out, HM.out]; rfl
  | cons c u =>
    have HF := hide (HF2.out (by simp))
    have q2 : ((str (c :: u)).toList == ([] : List UInt8)) = false := by rw [q1]; rfl
    go_wp2_with fail
    go_ret
    refine ⟨_, cap, ?_, by rw [HF.out]; exact HR.out, by rw [HF.out, HLN.out]; exact HCAP.out, HB.out⟩
    rw [HF.out, HLN.out]; rfl

theorem tail_end {T : Tx} (h : goesOn T = true) : T.drop 1 = T.tail ∧ 0 < T.length := by
  have e := goesOn_form h
  refine ⟨List.drop_one, ?_⟩
  rw [e]; simp
theorem tls_take (l : List Tx) (k : Nat) (h : k < l.length) : tls (l.take (k + 1)) = tls (l.take k) ++ l[k].tail := by
  rw [List.take_succ_eq_append_getElem h, tls_snoc]

set_option maxRecDepth 100000 in
set_option maxHeartbeats 1000000 in
theorem unfolded_any (f : Tx) (A : Option Addr) (n c : Nat) (l : List Tx) (w : World) (hl : RowS w A l) (hn : n = l.length) (hg : ∀ i (h : i < l.length), goesOn l[i] = true) (hsz : l.length ≤ 1000000) (hf : f.length + l.flatten.length ≤ 500000) :
    Calls Tryd.prog 16 #[.string (str f), .slice A n c] w (Ans w (.string (str (f ++ tls l)))) := by
  subst hn
  have HR := hide hl
  have HG := hide hg
  have HF := hide hf
  have HB0 := hide (bu_new w)
  have HW0 : Hid (Below w.heap.size w (w.alloc (.cells #[.pointer none, .slice none 0 0] 44))) := hide (more (start w) _)
  clear hl hg hf
  go_enter Tryd.func16, Tryd.ntmps16
  go_wp2_with fail
  refine (ws_any _ [] (str f) _ HB0.out (by simp) (by rw [str_size]; have := HF.out; omega)).mono ?_
  rintro e w1 ⟨rfl, h1, b1⟩
  rw [str_list, List.nil_append] at h1
  have H1 := hide h1
  have B1 := hide (HW0.out.trans b1)
  clear h1 b1
  go_wp2_with fail
  go_loopw [7, 12] (fun _ i wr => ∃ k : Nat, k ≤ l.length ∧ i = .int .i64 k ∧ Hid (Bu wr w.heap.size (f ++ tls (l.take k))) ∧ Hid (Below w.heap.size w wr)) (fun _ i _ => l.length - (intOf i).toNat)
  case atStart => exact ⟨0, Nat.zero_le _, rfl, hide (by rw [List.take_zero, tls_nil, List.append_nil]; exact H1.out), B1⟩
  case round =>
    obtain ⟨k, hk, rfl, HB, HW⟩ := hrel
    by_cases hlt : k < l.length
    · obtain ⟨b1, o1, rfl, hb1, hc1⟩ := HR.out (by intro h0; rw [h0] at hlt; exact absurd hlt (Nat.not_lt_zero _))
      obtain ⟨T, hm⟩ : ∃ T, l[k] = T := ⟨_, rfl⟩
      obtain ⟨hT, hT0⟩ := tail_end (hm ▸ HG.out k hlt)
      have p1 : wr.cell? ⟨b1, o1 + k, none⟩ = some (.string (str T)) := by rw [← hm]; exact (HW.out.cell (p := ⟨b1, _, none⟩) hb1).trans (hc1 k hlt)
      have hi0 : (0 : Int) ≤ (k : Int) := by omega
      have hi1 : (k : Int) < (l.length : Int) := by omega
      have hi2 : (1 : Int) ≤ ((str T).size : Int) := by rw [str_size]; omega
      have HE : Hid ((str T).extract 1 (str T).size = str T.tail) := hide (by rw [ext_end, str_list, hT])
      have HN := hide (tls_take l k hlt)
      rw [hm] at HN
      have hTl : T.length ≤ l.flatten.length := flat_at l T (by rw [← hm]; exact List.getElem_mem hlt)
      have hEl : (f ++ tls (l.take k)).length ≤ 1000000 := by
        have h1 := tls_len (l.take k)
        have h2 := flat_take l k
        have h3 := HF.out
        rw [List.length_append]; omega
      obtain ⟨X, hX⟩ : ∃ X, (str T).extract 1 (str T).size = X := ⟨_, rfl⟩
      rw [hX] at HE
      have hXs : X.size ≤ 1000000 := by rw [HE.out, str_size, List.length_tail]; have := HF.out; omega
      have HXs := hide (And.intro hEl hXs)
      clear hc1 hm hT hT0 hTl hEl hXs
      go_wp2_with fail
      refine (ws_any _ _ X wr HB.out HXs.out.1 HXs.out.2).mono ?_
      rintro e w2 ⟨rfl, h2, b2⟩
      rw [HE.out, str_list, List.append_assoc, ← HN.out] at h2
      have H2 := hide h2
      have B2 := hide (HW.out.trans b2)
      clear h2 b2 p1
      go_wp2_with fail
      go_roundw
      case rel => exact ⟨k + 1, by omega, by go_num, H2, B2⟩
      case measure => simp [intOf]; omega
    · obtain rfl : k = l.length := by omega
      rw [List.take_length] at HB
      go_wp2_with fail
      refine (bstr_any _ _ wr HB.out).mono ?_
      rintro e w1 ⟨rfl, b1⟩
      have B1 := hide (HW.out.trans b1)
      clear b1
      go_wp2_with fail
      go_ret
      exact ⟨rfl, B1.out⟩

end Go.Proofs.YtojhajlhbhkddaaDoor

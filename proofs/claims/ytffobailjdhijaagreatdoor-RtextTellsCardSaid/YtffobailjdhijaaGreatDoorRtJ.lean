/- Walks of package rtext: parts put together, Print. -/
import Derived.Test.YtffobailjdhijaaGreatDoorRtI
import Derived.Deep.RegionHeld3
namespace Go.Proofs.YtffobailjdhijaaGreatDoor
open Go.RowKit Rul Rt Go.Sort

/-- minutes' texts. -/
theorem form_chars (v : Tx) (h : formB v = true) : ∀ c ∈ v, digit c = true ∨ c = 84 := by
  have hp := form_parts v h
  have h84 : v.getD 8 0 = 84 := by
    unfold formB at h
    simp only [Bool.and_eq_true, beq_iff_eq] at h
    exact h.1.1.1.2
  intro c hc
  have e : v = v.take 8 ++ (v.getD 8 0 :: v.drop 9) := by
    have : v.drop 8 = v.getD 8 0 :: v.drop 9 := by
      rw [List.drop_eq_getElem_cons (by omega), List.getD_eq_getElem?_getD, List.getElem?_eq_getElem (by omega)]; rfl
    rw [← this, List.take_append_drop]
  rw [e] at hc
  have hd : ∀ l : Tx, digitsB l = true → ∀ c ∈ l, digit c = true := fun l hl c hc => List.all_eq_true.1 hl c hc
  rcases List.mem_append.1 hc with g | g
  · exact Or.inl (hd _ hp.2.1 c g)
  · rcases List.mem_cons.1 g with g | g
    · exact Or.inr (g.trans h84)
    · exact Or.inl (hd _ hp.2.2 c g)
theorem form_free (v : Tx) (h : formB v = true) (c : UInt8) (h1 : digit c = false) (h2 : c ≠ 84) : c ∉ v := fun g => by
  rcases form_chars v h c g with e | e
  · rw [h1] at e; cases e
  · exact h2 e
theorem un_form (v : Tx) (n : Int) (h : unE v = some n) : formB v = true := by
  unfold unE parseE at h
  cases hf : formB v with
  | true => rfl
  | false => rw [hf] at h; simp at h
theorem text_form (n : Int) (h1 : 0 ≤ n) (h2 : n < 52596000) : formB (textOf n) = true := by rw [textOf_in n h1 h2]; exact txt_form _ _ _ _ _ (fields_of n h1 h2)
def unU : Un where
  f := unE
  text := textOf
  noeq v n h := form_free v (un_form v n h) 61 (by decide) (by decide)
  back n h1 h2 := by unfold unE; rw [parse_text n h1 h2]; rfl
  free n := by
    by_cases h : 0 ≤ n ∧ n < 52596000
    · have hf := text_form n h.1 h.2
      exact ⟨form_free _ hf 59 (by decide) (by decide), form_free _ hf 61 (by decide) (by decide)⟩
    · have : textOf n = [] := if_neg h
      rw [this]; simp
  nil := if_neg (by omega)
  some n h1 h2 := by rw [textOf_in n h1 h2]; unfold txt; simp
theorem text_len (n : Int) : (textOf n).length ≤ 15 := by
  unfold textOf
  split
  · exact Nat.le_refl 15
  · simp

/-- a row of names and values. -/
def RowP (w : World) (A : Option Addr) (l : List (Tx × Tx)) : Prop :=
  l ≠ [] → ∃ b off, A = some ⟨b, off, none⟩ ∧ b < w.heap.size ∧ ∀ i (h : i < l.length), w.cell? ⟨b, off + i * 2, none⟩ = some (.string (str l[i].1)) ∧ w.cell? ⟨b, off + i * 2 + 1, none⟩ = some (.string (str l[i].2))
def partT (p : Tx × Tx) : Tx := p.1 ++ 61 :: p.2
def keepP (p : Tx × Tx) : Bool := decide (p.2 ≠ [])
def writtenT (l : List (Tx × Tx)) : Tx := joinAt 59 ((l.filter keepP).map partT)
theorem keep_yes {l : List (Tx × Tx)} {j : Nat} (hlt : j < l.length) {p : Tx × Tx} (hp : l[j] = p) (h : keepP p = true) : ((l.take (j + 1)).filter keepP).map partT = ((l.take j).filter keepP).map partT ++ [partT p] := by
  rw [List.take_succ_eq_append_getElem hlt, hp, List.filter_append, List.map_append]
  simp [h]
theorem keep_no {l : List (Tx × Tx)} {j : Nat} (hlt : j < l.length) {p : Tx × Tx} (hp : l[j] = p) (h : keepP p = false) : ((l.take (j + 1)).filter keepP).map partT = ((l.take j).filter keepP).map partT := by
  rw [List.take_succ_eq_append_getElem hlt, hp, List.filter_append, List.map_append]
  simp [h]

set_option maxRecDepth 100000 in
set_option maxHeartbeats 1000000 in
theorem written_any (A : Option Addr) (n c : Nat) (l : List (Tx × Tx)) (w : World) (hl : RowP w A l) (hn : n = l.length) (hsz : l.length ≤ 1000) (hb : ∀ p ∈ l, p.1.length ≤ 1000 ∧ p.2.length ≤ 90000) :
    Calls Tryz.prog 27 #[.slice A n c] w (Ans w (.string (str (writtenT l)))) := by
  subst hn
  have HR := hide hl
  have HB := hide hb
  have HLEN : Hid (∀ p ∈ (l.filter keepP).map partT, p.length ≤ 100000) := hide (fun p hp => by
    obtain ⟨x, hx, rfl⟩ := List.mem_map.1 hp
    have := hb x (List.mem_filter.1 hx).1
    unfold partT
    rw [List.length_append, List.length_cons]; omega)
  clear hl hb
  go_enter Tryz.func27, Tryz.ntmps27
  go_wp2_with fail
  go_loopw [3, 5, 8] (fun v _ i wr => ∃ j : Nat, j ≤ l.length ∧ i = .int .i64 j ∧ OwnS wr w.heap.size v (((l.take j).filter keepP).map partT) ∧ Below w.heap.size w wr) (fun _ _ i _ => l.length - (intOf i).toNat)
  case atStart => exact ⟨0, Nat.zero_le _, rfl, ownS_nil _ _, start _⟩
  case round =>
    obtain ⟨j, hj, rfl, hown, hbw⟩ := hrel
    have HO := hide hown
    have HBR := hide hbw
    clear hown hbw
    by_cases hlt : j < l.length
    · obtain ⟨b1, o1, rfl, hb1, hc1⟩ := HR.out (by intro h0; rw [h0] at hlt; exact absurd hlt (Nat.not_lt_zero _))
      obtain ⟨m, hm⟩ : ∃ m, l[j] = m := ⟨_, rfl⟩
      obtain ⟨nm, vl⟩ := m
      have hmr := HB.out l[j] (List.getElem_mem _)
      rw [hm] at hmr
      have p1 : wr.cell? ⟨b1, o1 + j * 2, none⟩ = some (.string (str nm)) := (HBR.out.cell (p := ⟨b1, _, none⟩) hb1).trans (by have := (hc1 j hlt).1; rwa [hm] at this)
      have p2 : wr.cell? ⟨b1, o1 + j * 2 + 1, none⟩ = some (.string (str vl)) := (HBR.out.cell (p := ⟨b1, _, none⟩) hb1).trans (by have := (hc1 j hlt).2; rwa [hm] at this)
      have hi0 : (0 : Int) ≤ (j : Int) := by omega
      have hi1 : (j : Int) < (l.length : Int) := by omega
      have hbV := more (start wr) (.cells #[.string (str nm), .string (str vl)] 56)
      replace HO := hide (HO.out.keep hbV)
      replace HBR := hide (andthen HBR.out hbV)
      have q1 := str_tl vl
      have z1 : (str nm).size ≤ 1000 := by rw [str_size]; exact hmr.1
      have z2 : (str vl).size ≤ 90000 := by rw [str_size]; exact hmr.2
      have hln0 : (((l.take j).filter keepP).map partT).length ≤ 1000000 := by rw [List.length_map]; exact Nat.le_trans (List.length_filter_le _ _) (Nat.le_trans (List.length_take_le _ _) (by omega))
      clear hc1 hbV hmr
      by_cases hv : vl = []
      · have HN := hide (keep_no hlt hm (by unfold keepP; rw [hv]; rfl))
        have q2 : vl.isEmpty = true := by rw [hv]; rfl
        generalize ((l.take j).filter keepP).map partT = S at *
        clear hm hv
        go_wp2_with fail
        go_roundw
        case rel => exact ⟨j + 1, by omega, by go_num, by rw [HN.out]; exact HO.out, HBR.out⟩
        case measure => simp [intOf]; omega
      · have HN := hide (keep_yes hlt hm (by unfold keepP; simpa using hv))
        have q2 : vl.isEmpty = false := by cases vl with | nil => exact absurd rfl hv | cons _ _ => rfl
        have HE : Hid ((str nm ++ (⟨#[61]⟩ : ByteArray)) ++ str vl = str (partT (nm, vl))) := hide (by unfold partT; rw [show (⟨#[61]⟩ : ByteArray) = str [61] from rfl, str_app, str_app]; simp)
        have z3 : (str nm ++ (⟨#[61]⟩ : ByteArray)).size ≤ 1001 := by rw [show (⟨#[61]⟩ : ByteArray) = str [61] from rfl, str_app, str_size, List.length_append]; rw [str_size] at z1; simp only [List.length_cons, List.length_nil]; omega
        obtain ⟨Z, hZ⟩ : ∃ Z, (str nm ++ (⟨#[61]⟩ : ByteArray)) ++ str vl = Z := ⟨_, rfl⟩
        have HZ : Hid (Z = str (partT (nm, vl))) := hide (hZ ▸ HE.out)
        generalize ((l.take j).filter keepP).map partT = S at *
        have hz := HBR.out.size
        have hown := HO.out
        have hln := hln0
        clear hm hv
        go_wp2_with (at_builtin; rw [HZ.out]; refine wp_oneS (l := S) (p := partT (nm, vl)) rfl _ _ rfl rfl (World.size_alloc _ _) rfl hown hz hln ?_; intro v3 w3 hown3 hb3)
        have HO3 := hide hown3
        have HB3 := hide (HBR.out.trans hb3)
        clear hown hown3 hb3 hz hln
        go_wp2_with fail
        go_roundw
        case rel => exact ⟨j + 1, by omega, by go_num, by rw [HN.out]; exact HO3.out, HB3.out⟩
        case measure => simp [intOf]; omega
    · obtain rfl : j = l.length := by omega
      rw [List.take_length] at HO
      obtain ⟨A2, cap2, rfl, hrow, hcap⟩ := OwnS.row HO.out
      have HRW := hide hrow
      have HCAP := hide hcap
      have HLM : Hid (((l.filter keepP).map partT).length ≤ 1000) := hide (by rw [List.length_map]; exact Nat.le_trans (List.length_filter_le _ _) hsz)
      obtain ⟨L, hL⟩ : ∃ L, (l.filter keepP).map partT = L := ⟨_, rfl⟩
      have HLT : Hid (writtenT l = joinAt 59 L) := hide (by unfold writtenT; rw [hL])
      rw [hL] at HO HRW HCAP HLM HLEN ⊢
      clear hrow hcap hL
      go_wp2_with fail
      refine (join_all 59 _ rfl A2 _ cap2 L _ HRW.out rfl HCAP.out HLM.out HLEN.out).mono ?_
      rintro e v1 ⟨rfl, hbv⟩
      go_wp2_with fail
      go_ret
      exact ⟨ret_str (by rw [HLT.out]), andthen HBR.out hbv⟩

theorem bsParts (T0 T1 T2 T3 T4 T5 T6 : Tx) (w : World) : (Instr.buildSlice 86 7 #[(0, .agg #[.string ⟨#[70, 82, 69, 81]⟩, .string (str T0)]), (1, .agg #[.string ⟨#[73, 78, 84, 69, 82, 86, 65, 76]⟩, .string (str T1)]), (2, .agg #[.string ⟨#[67, 79, 85, 78, 84]⟩, .string (str T2)]), (3, .agg #[.string ⟨#[85, 78, 84, 73, 76]⟩, .string (str T3)]), (4, .agg #[.string ⟨#[66, 89, 77, 79, 78, 84, 72]⟩, .string (str T4)]), (5, .agg #[.string ⟨#[66, 89, 77, 79, 78, 84, 72, 68, 65, 89]⟩, .string (str T5)]), (6, .agg #[.string ⟨#[66, 89, 68, 65, 89]⟩, .string (str T6)])]).run Tryz.prog w = .ok (.slice (some ⟨w.heap.size, 0, none⟩) 7 7) (w.alloc (.cells #[.string ⟨#[70, 82, 69, 81]⟩, .string (str T0), .string ⟨#[73, 78, 84, 69, 82, 86, 65, 76]⟩, .string (str T1), .string ⟨#[67, 79, 85, 78, 84]⟩, .string (str T2), .string ⟨#[85, 78, 84, 73, 76]⟩, .string (str T3), .string ⟨#[66, 89, 77, 79, 78, 84, 72]⟩, .string (str T4), .string ⟨#[66, 89, 77, 79, 78, 84, 72, 68, 65, 89]⟩, .string (str T5), .string ⟨#[66, 89, 68, 65, 89]⟩, .string (str T6)] 56)) := by kernel_rfl
theorem rowP7 (T0 T1 T2 T3 T4 T5 T6 : Tx) (w : World) (t : TypeId) : RowP (w.alloc (.cells #[.string ⟨#[70, 82, 69, 81]⟩, .string (str T0), .string ⟨#[73, 78, 84, 69, 82, 86, 65, 76]⟩, .string (str T1), .string ⟨#[67, 79, 85, 78, 84]⟩, .string (str T2), .string ⟨#[85, 78, 84, 73, 76]⟩, .string (str T3), .string ⟨#[66, 89, 77, 79, 78, 84, 72]⟩, .string (str T4), .string ⟨#[66, 89, 77, 79, 78, 84, 72, 68, 65, 89]⟩, .string (str T5), .string ⟨#[66, 89, 68, 65, 89]⟩, .string (str T6)] t)) (some ⟨w.heap.size, 0, none⟩) [(nFREQ, T0), (nINTERVAL, T1), (nCOUNT, T2), (nUNTIL, T3), (nBYMONTH, T4), (nBYMONTHDAY, T5), (nBYDAY, T6)] := fun _ => by
  refine ⟨w.heap.size, 0, rfl, by simp, fun i hi => ?_⟩
  have hi7 : i < 7 := hi
  rw [World.cell?_alloc_at _ _ _ _ rfl, World.cell?_alloc_at _ _ _ _ rfl]
  rcases (by omega : i = 0 ∨ i = 1 ∨ i = 2 ∨ i = 3 ∨ i = 4 ∨ i = 5 ∨ i = 6) with rfl | rfl | rfl | rfl | rfl | rfl | rfl <;> exact ⟨rfl, rfl⟩
theorem written_parts (U : Un) (r : T) : writtenT ((allP r).map fun p => (nameOf p, valT U p)) = joinAt 59 ((fieldsP U r).map (textP U)) := by
  unfold writtenT fieldsP
  rw [List.filter_map, List.map_map]
  rfl
theorem print_yes (U : Un) (r : T) (h1 : isB r = true) (h2 : sameB r once = false) : printE U r = joinAt 59 ((fieldsP U r).map (textP U)) := by
  unfold printE; rw [h1, h2]; rfl
theorem print_no (U : Un) (r : T) (h : isB r = false ∨ sameB r once = true) : printE U r = [] := by
  unfold printE
  rw [if_neg]
  rcases h with h | h <;> rw [h] <;> simp
structure PrintC (w : World) (D : Option Addr) (dn : Nat) (M : Option Addr) (mn : Nat) (Y : Option Addr) (yn : Nat) (ds : List Wd) (ms ys : List Int) (W : World) : Prop where
  tab : Tab W
  lies : Lies W D dn M mn Y yn ds ms ys
  below : Below w.heap.size w W
theorem print_keep {w W W1 : World} {fr ev ct un : Int} {D M Y : Option Addr} {dn dc mn mc yn yc : Nat} {ds : List Wd} {ms ys : List Int} (hb : Below W.heap.size W W1) (h : W.cell? ⟨w.heap.size, 0, none⟩ = some (.int .i64 fr) ∧ W.cell? ⟨w.heap.size, 1, none⟩ = some (.int .i64 ev) ∧ W.cell? ⟨w.heap.size, 2, none⟩ = some (.int .i64 ct) ∧ W.cell? ⟨w.heap.size, 3, none⟩ = some (.int .i64 un) ∧ W.cell? ⟨w.heap.size, 4, none⟩ = some (.slice D dn dc) ∧ W.cell? ⟨w.heap.size, 5, none⟩ = some (.slice M mn mc) ∧ W.cell? ⟨w.heap.size, 6, none⟩ = some (.slice Y yn yc) ∧ PrintC w D dn M mn Y yn ds ms ys W) : W1.cell? ⟨w.heap.size, 0, none⟩ = some (.int .i64 fr) ∧ W1.cell? ⟨w.heap.size, 1, none⟩ = some (.int .i64 ev) ∧ W1.cell? ⟨w.heap.size, 2, none⟩ = some (.int .i64 ct) ∧ W1.cell? ⟨w.heap.size, 3, none⟩ = some (.int .i64 un) ∧ W1.cell? ⟨w.heap.size, 4, none⟩ = some (.slice D dn dc) ∧ W1.cell? ⟨w.heap.size, 5, none⟩ = some (.slice M mn mc) ∧ W1.cell? ⟨w.heap.size, 6, none⟩ = some (.slice Y yn yc) ∧ PrintC w D dn M mn Y yn ds ms ys W1 := by
  obtain ⟨c0, c1, c2, c3, c4, c5, c6, h1, h2, h3⟩ := h
  exact ⟨cell_keep hb c0, cell_keep hb c1, cell_keep hb c2, cell_keep hb c3, cell_keep hb c4, cell_keep hb c5, cell_keep hb c6, h1.below hb (Nat.le_refl _), h2.keep hb, andthen h3 hb⟩

set_option maxRecDepth 100000 in
set_option maxHeartbeats 1000000 in
theorem Print_no (fr ev ct un : Int) (D M Y : Option Addr) (dn dc mn mc yn yc : Nat) (ds : List Wd) (ms ys : List Int) (w : World) (hl : Lies w D dn M mn Y yn ds ms ys) (ht : Tab w) (hi : isB ⟨fr, ev, ct, un, ds, ms, ys⟩ = false) :
    Calls Tryz.prog 12 #[.agg #[.int .i64 fr, .int .i64 ev, .int .i64 ct, .int .i64 un, .slice D dn dc, .slice M mn mc, .slice Y yn yc]] w (Ans w (.string (str []))) := by
  have HI := hide hi
  clear hi
  have hbox := more (start w) (.cells #[.int .i64 fr, .int .i64 ev, .int .i64 ct, .int .i64 un, .slice D dn dc, .slice M mn mc, .slice Y yn yc] 25)
  have HLB := hide (hl.keep hbox)
  have HTB := hide (ht.below hbox (Nat.le_refl _))
  have HBX := hide hbox
  have s0 : (w.alloc (.cells #[.int .i64 fr, .int .i64 ev, .int .i64 ct, .int .i64 un, .slice D dn dc, .slice M mn mc, .slice Y yn yc] 25)).cell? ⟨w.heap.size, 0, none⟩ = some (.int .i64 fr) := by rw [World.cell?_alloc_at _ _ _ _ rfl]; rfl
  have s1 : (w.alloc (.cells #[.int .i64 fr, .int .i64 ev, .int .i64 ct, .int .i64 un, .slice D dn dc, .slice M mn mc, .slice Y yn yc] 25)).cell? ⟨w.heap.size, 1, none⟩ = some (.int .i64 ev) := by rw [World.cell?_alloc_at _ _ _ _ rfl]; rfl
  have s2 : (w.alloc (.cells #[.int .i64 fr, .int .i64 ev, .int .i64 ct, .int .i64 un, .slice D dn dc, .slice M mn mc, .slice Y yn yc] 25)).cell? ⟨w.heap.size, 2, none⟩ = some (.int .i64 ct) := by rw [World.cell?_alloc_at _ _ _ _ rfl]; rfl
  have s3 : (w.alloc (.cells #[.int .i64 fr, .int .i64 ev, .int .i64 ct, .int .i64 un, .slice D dn dc, .slice M mn mc, .slice Y yn yc] 25)).cell? ⟨w.heap.size, 3, none⟩ = some (.int .i64 un) := by rw [World.cell?_alloc_at _ _ _ _ rfl]; rfl
  have s4 : (w.alloc (.cells #[.int .i64 fr, .int .i64 ev, .int .i64 ct, .int .i64 un, .slice D dn dc, .slice M mn mc, .slice Y yn yc] 25)).cell? ⟨w.heap.size, 4, none⟩ = some (.slice D dn dc) := by rw [World.cell?_alloc_at _ _ _ _ rfl]; rfl
  have s5 : (w.alloc (.cells #[.int .i64 fr, .int .i64 ev, .int .i64 ct, .int .i64 un, .slice D dn dc, .slice M mn mc, .slice Y yn yc] 25)).cell? ⟨w.heap.size, 5, none⟩ = some (.slice M mn mc) := by rw [World.cell?_alloc_at _ _ _ _ rfl]; rfl
  have s6 : (w.alloc (.cells #[.int .i64 fr, .int .i64 ev, .int .i64 ct, .int .i64 un, .slice D dn dc, .slice M mn mc, .slice Y yn yc] 25)).cell? ⟨w.heap.size, 6, none⟩ = some (.slice Y yn yc) := by rw [World.cell?_alloc_at _ _ _ _ rfl]; rfl
  clear hl ht hbox
  go_enter Tryz.func12, Tryz.ntmps12
  go_wp2_with fail
  have f0 := fun d os => cell_regrown s0 d os
  have f1 := fun d os => cell_regrown s1 d os
  have f2 := fun d os => cell_regrown s2 d os
  have f3 := fun d os => cell_regrown s3 d os
  have f4 := fun d os => cell_regrown s4 d os
  have f5 := fun d os => cell_regrown s5 d os
  have f6 := fun d os => cell_regrown s6 d os
  have L1 := hide (fun d os => Lies.keep HLB.out (below_regrown (w.alloc (.cells #[.int .i64 fr, .int .i64 ev, .int .i64 ct, .int .i64 un, .slice D dn dc, .slice M mn mc, .slice Y yn yc] 25)) d os))
  refine wp_region_quiet_below (by kernel_rfl) (by kernel_rfl) ?_
  repeat (first | go_big_quiet_step ((first | (go_at_call 23; exact Calls.regrown_of (ans_is (ruleIs_any fr ev ct un D M Y dn dc mn mc yn yc ds ms ys _ (L1.out _ _)) HI.out)) | (go_at_call 26; exact Calls.regrown_of (once_any _)))) | quiet_step ((first | (go_at_call 23; exact Calls.regrown_of (ans_is (ruleIs_any fr ev ct un D M Y dn dc mn mc yn yc ds ms ys _ (L1.out _ _)) HI.out)) | (go_at_call 26; exact Calls.regrown_of (once_any _)))))
  refine wpQuiet_nil ?_
  intro _ hw'
  obtain ⟨⟨nq, osq⟩, hw''⟩ := hw'
  subst hw''
  replace HBX := hide (andthen HBX.out (below_regrown (w.alloc (.cells #[.int .i64 fr, .int .i64 ev, .int .i64 ct, .int .i64 un, .slice D dn dc, .slice M mn mc, .slice Y yn yc] 25)) nq osq))
  go_wp2_with fail
  go_ret
  exact ⟨rfl, HBX.out⟩

set_option maxRecDepth 100000 in
set_option maxHeartbeats 1000000 in
theorem Print_once (fr ev ct un : Int) (D M Y : Option Addr) (dn dc mn mc yn yc : Nat) (ds : List Wd) (ms ys : List Int) (w : World) (hl : Lies w D dn M mn Y yn ds ms ys) (ht : Tab w) (hi : isB ⟨fr, ev, ct, un, ds, ms, ys⟩ = true) (hs : sameB ⟨fr, ev, ct, un, ds, ms, ys⟩ once = true) :
    Calls Tryz.prog 12 #[.agg #[.int .i64 fr, .int .i64 ev, .int .i64 ct, .int .i64 un, .slice D dn dc, .slice M mn mc, .slice Y yn yc]] w (Ans w (.string (str []))) := by
  have HI := hide hi
  have HS : Hid (sameB ⟨fr, ev, ct, un, ds, ms, ys⟩ ⟨0, 0, 0, -1, [], [], []⟩ = true) := hide hs
  clear hi hs
  have hbox := more (start w) (.cells #[.int .i64 fr, .int .i64 ev, .int .i64 ct, .int .i64 un, .slice D dn dc, .slice M mn mc, .slice Y yn yc] 25)
  have HLB := hide (hl.keep hbox)
  have HTB := hide (ht.below hbox (Nat.le_refl _))
  have HBX := hide hbox
  have s0 : (w.alloc (.cells #[.int .i64 fr, .int .i64 ev, .int .i64 ct, .int .i64 un, .slice D dn dc, .slice M mn mc, .slice Y yn yc] 25)).cell? ⟨w.heap.size, 0, none⟩ = some (.int .i64 fr) := by rw [World.cell?_alloc_at _ _ _ _ rfl]; rfl
  have s1 : (w.alloc (.cells #[.int .i64 fr, .int .i64 ev, .int .i64 ct, .int .i64 un, .slice D dn dc, .slice M mn mc, .slice Y yn yc] 25)).cell? ⟨w.heap.size, 1, none⟩ = some (.int .i64 ev) := by rw [World.cell?_alloc_at _ _ _ _ rfl]; rfl
  have s2 : (w.alloc (.cells #[.int .i64 fr, .int .i64 ev, .int .i64 ct, .int .i64 un, .slice D dn dc, .slice M mn mc, .slice Y yn yc] 25)).cell? ⟨w.heap.size, 2, none⟩ = some (.int .i64 ct) := by rw [World.cell?_alloc_at _ _ _ _ rfl]; rfl
  have s3 : (w.alloc (.cells #[.int .i64 fr, .int .i64 ev, .int .i64 ct, .int .i64 un, .slice D dn dc, .slice M mn mc, .slice Y yn yc] 25)).cell? ⟨w.heap.size, 3, none⟩ = some (.int .i64 un) := by rw [World.cell?_alloc_at _ _ _ _ rfl]; rfl
  have s4 : (w.alloc (.cells #[.int .i64 fr, .int .i64 ev, .int .i64 ct, .int .i64 un, .slice D dn dc, .slice M mn mc, .slice Y yn yc] 25)).cell? ⟨w.heap.size, 4, none⟩ = some (.slice D dn dc) := by rw [World.cell?_alloc_at _ _ _ _ rfl]; rfl
  have s5 : (w.alloc (.cells #[.int .i64 fr, .int .i64 ev, .int .i64 ct, .int .i64 un, .slice D dn dc, .slice M mn mc, .slice Y yn yc] 25)).cell? ⟨w.heap.size, 5, none⟩ = some (.slice M mn mc) := by rw [World.cell?_alloc_at _ _ _ _ rfl]; rfl
  have s6 : (w.alloc (.cells #[.int .i64 fr, .int .i64 ev, .int .i64 ct, .int .i64 un, .slice D dn dc, .slice M mn mc, .slice Y yn yc] 25)).cell? ⟨w.heap.size, 6, none⟩ = some (.slice Y yn yc) := by rw [World.cell?_alloc_at _ _ _ _ rfl]; rfl
  clear hl ht hbox
  go_enter Tryz.func12, Tryz.ntmps12
  go_wp2_with fail
  have f0 := fun d os => cell_regrown s0 d os
  have f1 := fun d os => cell_regrown s1 d os
  have f2 := fun d os => cell_regrown s2 d os
  have f3 := fun d os => cell_regrown s3 d os
  have f4 := fun d os => cell_regrown s4 d os
  have f5 := fun d os => cell_regrown s5 d os
  have f6 := fun d os => cell_regrown s6 d os
  have L1 := hide (fun d os => Lies.keep HLB.out (below_regrown (w.alloc (.cells #[.int .i64 fr, .int .i64 ev, .int .i64 ct, .int .i64 un, .slice D dn dc, .slice M mn mc, .slice Y yn yc] 25)) d os))
  refine wp_region_quiet_below (by kernel_rfl) (by kernel_rfl) ?_
  repeat (first | go_big_quiet_step ((first | (go_at_call 23; exact Calls.regrown_of (ans_is (ruleIs_any fr ev ct un D M Y dn dc mn mc yn yc ds ms ys _ (L1.out _ _)) HI.out)) | (go_at_call 26; exact Calls.regrown_of (once_any _)) | (go_at_call 25; exact Calls.regrown_of (ans_is (same_any fr ev ct un D M Y dn dc mn mc yn yc 0 0 0 (-1) none none none 0 0 0 0 0 0 ds ms ys [] [] [] _ (L1.out _ _) (lies_once _)) HS.out)))) | quiet_step ((first | (go_at_call 23; exact Calls.regrown_of (ans_is (ruleIs_any fr ev ct un D M Y dn dc mn mc yn yc ds ms ys _ (L1.out _ _)) HI.out)) | (go_at_call 26; exact Calls.regrown_of (once_any _)) | (go_at_call 25; exact Calls.regrown_of (ans_is (same_any fr ev ct un D M Y dn dc mn mc yn yc 0 0 0 (-1) none none none 0 0 0 0 0 0 ds ms ys [] [] [] _ (L1.out _ _) (lies_once _)) HS.out)))))
  refine wpQuiet_nil ?_
  intro _ hw'
  obtain ⟨⟨nq, osq⟩, hw''⟩ := hw'
  subst hw''
  replace HBX := hide (andthen HBX.out (below_regrown (w.alloc (.cells #[.int .i64 fr, .int .i64 ev, .int .i64 ct, .int .i64 un, .slice D dn dc, .slice M mn mc, .slice Y yn yc] 25)) nq osq))
  go_wp2_with fail
  go_ret
  exact ⟨rfl, HBX.out⟩

theorem in64_of {p : Int → Bool} {l : List Int} (h : listB p inLt 0 l = true) (hp : ∀ x, p x = true → -31 ≤ x ∧ x ≤ 31) : ∀ x ∈ l, in64 x := fun x hx => by
  have := hp x (((listB_iff ordI 0 l).1 h).2.1 x hx)
  unfold in64; omega
set_option linter.unusedSimpArgs false in
set_option maxRecDepth 100000 in
set_option maxHeartbeats 4000000 in
theorem Print_core (fr ev ct un : Int) (D M Y : Option Addr) (dn dc mn mc yn yc : Nat) (ds : List Wd) (ms ys : List Int) (w : World) (hl : Lies w D dn M mn Y yn ds ms ys) (ht : Tab w) (hi : isB ⟨fr, ev, ct, un, ds, ms, ys⟩ = true) (hs : sameB ⟨fr, ev, ct, un, ds, ms, ys⟩ once = false) (T0 T1 T2 T3 T4 T5 T6 PR : Tx)
    (hc0 : ∀ w, Calls Tryz.prog 28 #[.int .i64 fr] w (Ans w (.string (str T0))))
    (hc1 : ∀ w, Tab w → Calls Tryz.prog 29 #[.int .i64 1, .int .i64 ev] w (Ans w (.string (str T1))))
    (hc2 : ∀ w, Tab w → Calls Tryz.prog 29 #[.int .i64 0, .int .i64 ct] w (Ans w (.string (str T2))))
    (hc3 : ∀ w, Tab w → Calls Tryz.prog 30 #[.int .i64 un] w (Ans w (.string (str T3))))
    (hc4 : ∀ w, RowI w Y ys → yn = ys.length → Tab w → Calls Tryz.prog 31 #[.func (.func 32) #[] #[], .slice Y yn yc] w (Ans w (.string (str T4))))
    (hc5 : ∀ w, RowI w M ms → mn = ms.length → Tab w → Calls Tryz.prog 31 #[.func (.func 32) #[] #[], .slice M mn mc] w (Ans w (.string (str T5))))
    (hc6 : ∀ w, RowD w D ds → dn = ds.length → Tab w → Calls Tryz.prog 33 #[.func (.func 14) #[] #[], .slice D dn dc] w (Ans w (.string (str T6))))
    (hbd : ∀ p ∈ [(nFREQ, T0), (nINTERVAL, T1), (nCOUNT, T2), (nUNTIL, T3), (nBYMONTH, T4), (nBYMONTHDAY, T5), (nBYDAY, T6)], p.1.length ≤ 1000 ∧ p.2.length ≤ 90000) (hp : writtenT [(nFREQ, T0), (nINTERVAL, T1), (nCOUNT, T2), (nUNTIL, T3), (nBYMONTH, T4), (nBYMONTHDAY, T5), (nBYDAY, T6)] = PR) :
    Calls Tryz.prog 12 #[.agg #[.int .i64 fr, .int .i64 ev, .int .i64 ct, .int .i64 un, .slice D dn dc, .slice M mn mc, .slice Y yn yc]] w (Ans w (.string (str PR))) := by
  have HI := hide hi
  have HS : Hid (sameB ⟨fr, ev, ct, un, ds, ms, ys⟩ ⟨0, 0, 0, -1, [], [], []⟩ = false) := hide hs
  have HC0 := hide hc0
  have HC1 := hide hc1
  have HC2 := hide hc2
  have HC3 := hide hc3
  have HC4 := hide hc4
  have HC5 := hide hc5
  have HC6 := hide hc6
  have HBD := hide hbd
  have HP := hide hp
  have hbs := bsParts T0 T1 T2 T3 T4 T5 T6
  clear hi hs hc0 hc1 hc2 hc3 hc4 hc5 hc6 hbd hp
  have hbox := more (start w) (.cells #[.int .i64 fr, .int .i64 ev, .int .i64 ct, .int .i64 un, .slice D dn dc, .slice M mn mc, .slice Y yn yc] 25)
  have HLB := hide (hl.keep hbox)
  have HTB := hide (ht.below hbox (Nat.le_refl _))
  have HBX := hide hbox
  have s0 : (w.alloc (.cells #[.int .i64 fr, .int .i64 ev, .int .i64 ct, .int .i64 un, .slice D dn dc, .slice M mn mc, .slice Y yn yc] 25)).cell? ⟨w.heap.size, 0, none⟩ = some (.int .i64 fr) := by rw [World.cell?_alloc_at _ _ _ _ rfl]; rfl
  have s1 : (w.alloc (.cells #[.int .i64 fr, .int .i64 ev, .int .i64 ct, .int .i64 un, .slice D dn dc, .slice M mn mc, .slice Y yn yc] 25)).cell? ⟨w.heap.size, 1, none⟩ = some (.int .i64 ev) := by rw [World.cell?_alloc_at _ _ _ _ rfl]; rfl
  have s2 : (w.alloc (.cells #[.int .i64 fr, .int .i64 ev, .int .i64 ct, .int .i64 un, .slice D dn dc, .slice M mn mc, .slice Y yn yc] 25)).cell? ⟨w.heap.size, 2, none⟩ = some (.int .i64 ct) := by rw [World.cell?_alloc_at _ _ _ _ rfl]; rfl
  have s3 : (w.alloc (.cells #[.int .i64 fr, .int .i64 ev, .int .i64 ct, .int .i64 un, .slice D dn dc, .slice M mn mc, .slice Y yn yc] 25)).cell? ⟨w.heap.size, 3, none⟩ = some (.int .i64 un) := by rw [World.cell?_alloc_at _ _ _ _ rfl]; rfl
  have s4 : (w.alloc (.cells #[.int .i64 fr, .int .i64 ev, .int .i64 ct, .int .i64 un, .slice D dn dc, .slice M mn mc, .slice Y yn yc] 25)).cell? ⟨w.heap.size, 4, none⟩ = some (.slice D dn dc) := by rw [World.cell?_alloc_at _ _ _ _ rfl]; rfl
  have s5 : (w.alloc (.cells #[.int .i64 fr, .int .i64 ev, .int .i64 ct, .int .i64 un, .slice D dn dc, .slice M mn mc, .slice Y yn yc] 25)).cell? ⟨w.heap.size, 5, none⟩ = some (.slice M mn mc) := by rw [World.cell?_alloc_at _ _ _ _ rfl]; rfl
  have s6 : (w.alloc (.cells #[.int .i64 fr, .int .i64 ev, .int .i64 ct, .int .i64 un, .slice D dn dc, .slice M mn mc, .slice Y yn yc] 25)).cell? ⟨w.heap.size, 6, none⟩ = some (.slice Y yn yc) := by rw [World.cell?_alloc_at _ _ _ _ rfl]; rfl
  clear hl ht hbox
  go_enter Tryz.func12, Tryz.ntmps12
  go_wp2_with fail
  have f0 := fun d os => cell_regrown s0 d os
  have f1 := fun d os => cell_regrown s1 d os
  have f2 := fun d os => cell_regrown s2 d os
  have f3 := fun d os => cell_regrown s3 d os
  have f4 := fun d os => cell_regrown s4 d os
  have f5 := fun d os => cell_regrown s5 d os
  have f6 := fun d os => cell_regrown s6 d os
  have L1 := hide (fun d os => Lies.keep HLB.out (below_regrown (w.alloc (.cells #[.int .i64 fr, .int .i64 ev, .int .i64 ct, .int .i64 un, .slice D dn dc, .slice M mn mc, .slice Y yn yc] 25)) d os))
  refine wp_region_quiet_below (by kernel_rfl) (by kernel_rfl) ?_
  repeat (first | go_big_quiet_step ((first | (go_at_call 23; exact Calls.regrown_of (ans_is (ruleIs_any fr ev ct un D M Y dn dc mn mc yn yc ds ms ys _ (L1.out _ _)) HI.out)) | (go_at_call 26; exact Calls.regrown_of (once_any _)) | (go_at_call 25; exact Calls.regrown_of (ans_is (same_any fr ev ct un D M Y dn dc mn mc yn yc 0 0 0 (-1) none none none 0 0 0 0 0 0 ds ms ys [] [] [] _ (L1.out _ _) (lies_once _)) HS.out)))) | quiet_step ((first | (go_at_call 23; exact Calls.regrown_of (ans_is (ruleIs_any fr ev ct un D M Y dn dc mn mc yn yc ds ms ys _ (L1.out _ _)) HI.out)) | (go_at_call 26; exact Calls.regrown_of (once_any _)) | (go_at_call 25; exact Calls.regrown_of (ans_is (same_any fr ev ct un D M Y dn dc mn mc yn yc 0 0 0 (-1) none none none 0 0 0 0 0 0 ds ms ys [] [] [] _ (L1.out _ _) (lies_once _)) HS.out)))))
  refine wpQuiet_nil ?_
  intro _ hw'
  obtain ⟨⟨nq, osq⟩, hw''⟩ := hw'
  subst hw''
  have hbq := below_regrown (w.alloc (.cells #[.int .i64 fr, .int .i64 ev, .int .i64 ct, .int .i64 un, .slice D dn dc, .slice M mn mc, .slice Y yn yc] 25)) nq osq
  replace HBX := hide (andthen HBX.out hbq)
  replace HLB := hide (HLB.out.keep hbq)
  replace HTB := hide (HTB.out.below hbq (Nat.le_refl _))
  replace s0 := f0 nq osq
  replace s1 := f1 nq osq
  replace s2 := f2 nq osq
  replace s3 := f3 nq osq
  replace s4 := f4 nq osq
  replace s5 := f5 nq osq
  replace s6 := f6 nq osq
  clear hbq L1 f0 f1 f2 f3 f4 f5 f6
  generalize (grow (redrawn (w.alloc (.cells #[.int .i64 fr, .int .i64 ev, .int .i64 ct, .int .i64 un, .slice D dn dc, .slice M mn mc, .slice Y yn yc] 25)) nq) osq) = V at *
  go_wp2_with fail
  have hS : V.cell? ⟨w.heap.size, 0, none⟩ = some (.int .i64 fr) ∧ V.cell? ⟨w.heap.size, 1, none⟩ = some (.int .i64 ev) ∧ V.cell? ⟨w.heap.size, 2, none⟩ = some (.int .i64 ct) ∧ V.cell? ⟨w.heap.size, 3, none⟩ = some (.int .i64 un) ∧ V.cell? ⟨w.heap.size, 4, none⟩ = some (.slice D dn dc) ∧ V.cell? ⟨w.heap.size, 5, none⟩ = some (.slice M mn mc) ∧ V.cell? ⟨w.heap.size, 6, none⟩ = some (.slice Y yn yc) ∧ PrintC w D dn M mn Y yn ds ms ys V := ⟨s0, s1, s2, s3, s4, s5, s6, HTB.out, HLB.out, HBX.out⟩
  refine wp_region_held_drew (S := (fun w' => w'.cell? ⟨w.heap.size, 0, none⟩ = some (.int .i64 fr) ∧ w'.cell? ⟨w.heap.size, 1, none⟩ = some (.int .i64 ev) ∧ w'.cell? ⟨w.heap.size, 2, none⟩ = some (.int .i64 ct) ∧ w'.cell? ⟨w.heap.size, 3, none⟩ = some (.int .i64 un) ∧ w'.cell? ⟨w.heap.size, 4, none⟩ = some (.slice D dn dc) ∧ w'.cell? ⟨w.heap.size, 5, none⟩ = some (.slice M mn mc) ∧ w'.cell? ⟨w.heap.size, 6, none⟩ = some (.slice Y yn yc) ∧ PrintC w D dn M mn Y yn ds ms ys w')) (by kernel_rfl) ?_ (fun hH0 => ?_)
  · exact print_keep (Below.drew (start _)) hS
  refine' wpAnyH_take (i := 0) (oi := _) (v := ?v0) rfl (by as_aux_lemma => kernel_rfl) (by as_aux_lemma => kernel_rfl) (by as_aux_lemma => kernel_rfl) (fun _ _ _ h => h) (Or.inl ⟨by rfl, ?y0⟩) hH0 ?r0
  case y0 => (intro w hSw; (try dsimp only at hSw); go_simp; (try with_reducible rfl))
  try simp only [Act.put, List.getElem_toArray, List.getElem_cons_succ, List.getElem_cons_zero, List.setIfInBounds_toArray, List.set_cons_zero, List.set_cons_succ]
  refine' wpAnyH_take (i := 1) (oi := _) (v := ?v1) rfl (by as_aux_lemma => kernel_rfl) (by as_aux_lemma => kernel_rfl) (by as_aux_lemma => kernel_rfl) (fun _ _ _ h => h) (Or.inl ⟨by rfl, ?y1⟩) hH0 ?r1
  case y1 => (intro w hSw; (try dsimp only at hSw); go_simp; (try with_reducible rfl))
  try simp only [Act.put, List.getElem_toArray, List.getElem_cons_succ, List.getElem_cons_zero, List.setIfInBounds_toArray, List.set_cons_zero, List.set_cons_succ]
  refine' wpAnyH_take (i := 4) (oi := _) (v := ?v2) rfl (by as_aux_lemma => kernel_rfl) (by as_aux_lemma => kernel_rfl) (by as_aux_lemma => kernel_rfl) (fun _ _ _ h => h) (Or.inl ⟨by rfl, ?y2⟩) hH0 ?r2
  case y2 => (intro w hSw; (try dsimp only at hSw); go_simp; (try with_reducible rfl))
  try simp only [Act.put, List.getElem_toArray, List.getElem_cons_succ, List.getElem_cons_zero, List.setIfInBounds_toArray, List.set_cons_zero, List.set_cons_succ]
  refine' wpAnyH_take (i := 5) (oi := _) (v := ?v3) rfl (by as_aux_lemma => kernel_rfl) (by as_aux_lemma => kernel_rfl) (by as_aux_lemma => kernel_rfl) (fun _ _ _ h => h) (Or.inl ⟨by rfl, ?y3⟩) hH0 ?r3
  case y3 => (intro w hSw; (try dsimp only at hSw); go_simp; (try with_reducible rfl))
  try simp only [Act.put, List.getElem_toArray, List.getElem_cons_succ, List.getElem_cons_zero, List.setIfInBounds_toArray, List.set_cons_zero, List.set_cons_succ]
  refine' wpAnyH_take (i := 8) (oi := _) (v := ?v4) rfl (by as_aux_lemma => kernel_rfl) (by as_aux_lemma => kernel_rfl) (by as_aux_lemma => kernel_rfl) (fun _ _ _ h => h) (Or.inl ⟨by rfl, ?y4⟩) hH0 ?r4
  case y4 => (intro w hSw; (try dsimp only at hSw); go_simp; (try with_reducible rfl))
  try simp only [Act.put, List.getElem_toArray, List.getElem_cons_succ, List.getElem_cons_zero, List.setIfInBounds_toArray, List.set_cons_zero, List.set_cons_succ]
  refine' wpAnyH_take (i := 9) (oi := _) (v := ?v5) rfl (by as_aux_lemma => kernel_rfl) (by as_aux_lemma => kernel_rfl) (by as_aux_lemma => kernel_rfl) (fun _ _ _ h => h) (Or.inl ⟨by rfl, ?y5⟩) hH0 ?r5
  case y5 => (intro w hSw; (try dsimp only at hSw); go_simp; (try with_reducible rfl))
  try simp only [Act.put, List.getElem_toArray, List.getElem_cons_succ, List.getElem_cons_zero, List.setIfInBounds_toArray, List.set_cons_zero, List.set_cons_succ]
  refine' wpAnyH_take (i := 12) (oi := _) (v := ?v6) rfl (by as_aux_lemma => kernel_rfl) (by as_aux_lemma => kernel_rfl) (by as_aux_lemma => kernel_rfl) (fun _ _ _ h => h) (Or.inl ⟨by rfl, ?y6⟩) hH0 ?r6
  case y6 => (intro w hSw; (try dsimp only at hSw); go_simp; (try with_reducible rfl))
  try simp only [Act.put, List.getElem_toArray, List.getElem_cons_succ, List.getElem_cons_zero, List.setIfInBounds_toArray, List.set_cons_zero, List.set_cons_succ]
  refine' wpAnyH_take (i := 13) (oi := _) (v := ?v7) rfl (by as_aux_lemma => kernel_rfl) (by as_aux_lemma => kernel_rfl) (by as_aux_lemma => kernel_rfl) (fun _ _ _ h => h) (Or.inl ⟨by rfl, ?y7⟩) hH0 ?r7
  case y7 => (intro w hSw; (try dsimp only at hSw); go_simp; (try with_reducible rfl))
  try simp only [Act.put, List.getElem_toArray, List.getElem_cons_succ, List.getElem_cons_zero, List.setIfInBounds_toArray, List.set_cons_zero, List.set_cons_succ]
  refine' wpAnyH_take (i := 16) (oi := _) (v := ?v8) rfl (by as_aux_lemma => kernel_rfl) (by as_aux_lemma => kernel_rfl) (by as_aux_lemma => kernel_rfl) (fun _ _ _ h => h) (Or.inl ⟨by rfl, ?y8⟩) hH0 ?r8
  case y8 => (intro w hSw; (try dsimp only at hSw); go_simp; (try with_reducible rfl))
  try simp only [Act.put, List.getElem_toArray, List.getElem_cons_succ, List.getElem_cons_zero, List.setIfInBounds_toArray, List.set_cons_zero, List.set_cons_succ]
  refine' wpAnyH_take (i := 17) (oi := _) (v := ?v9) rfl (by as_aux_lemma => kernel_rfl) (by as_aux_lemma => kernel_rfl) (by as_aux_lemma => kernel_rfl) (fun _ _ _ h => h) (Or.inl ⟨by rfl, ?y9⟩) hH0 ?r9
  case y9 => (intro w hSw; (try dsimp only at hSw); go_simp; (try with_reducible rfl))
  try simp only [Act.put, List.getElem_toArray, List.getElem_cons_succ, List.getElem_cons_zero, List.setIfInBounds_toArray, List.set_cons_zero, List.set_cons_succ]
  refine' wpAnyH_take (i := 20) (oi := _) (v := ?v10) rfl (by as_aux_lemma => kernel_rfl) (by as_aux_lemma => kernel_rfl) (by as_aux_lemma => kernel_rfl) (fun _ _ _ h => h) (Or.inl ⟨by rfl, ?y10⟩) hH0 ?r10
  case y10 => (intro w hSw; (try dsimp only at hSw); go_simp; (try with_reducible rfl))
  try simp only [Act.put, List.getElem_toArray, List.getElem_cons_succ, List.getElem_cons_zero, List.setIfInBounds_toArray, List.set_cons_zero, List.set_cons_succ]
  refine' wpAnyH_take (i := 21) (oi := _) (v := ?v11) rfl (by as_aux_lemma => kernel_rfl) (by as_aux_lemma => kernel_rfl) (by as_aux_lemma => kernel_rfl) (fun _ _ _ h => h) (Or.inl ⟨by rfl, ?y11⟩) hH0 ?r11
  case y11 => (intro w hSw; (try dsimp only at hSw); go_simp; (try with_reducible rfl))
  try simp only [Act.put, List.getElem_toArray, List.getElem_cons_succ, List.getElem_cons_zero, List.setIfInBounds_toArray, List.set_cons_zero, List.set_cons_succ]
  refine' wpAnyH_take (i := 24) (oi := _) (v := ?v12) rfl (by as_aux_lemma => kernel_rfl) (by as_aux_lemma => kernel_rfl) (by as_aux_lemma => kernel_rfl) (fun _ _ _ h => h) (Or.inl ⟨by rfl, ?y12⟩) hH0 ?r12
  case y12 => (intro w hSw; (try dsimp only at hSw); go_simp; (try with_reducible rfl))
  try simp only [Act.put, List.getElem_toArray, List.getElem_cons_succ, List.getElem_cons_zero, List.setIfInBounds_toArray, List.set_cons_zero, List.set_cons_succ]
  refine' wpAnyH_take (i := 25) (oi := _) (v := ?v13) rfl (by as_aux_lemma => kernel_rfl) (by as_aux_lemma => kernel_rfl) (by as_aux_lemma => kernel_rfl) (fun _ _ _ h => h) (Or.inl ⟨by rfl, ?y13⟩) hH0 ?r13
  case y13 => (intro w hSw; (try dsimp only at hSw); go_simp; (try with_reducible rfl))
  try simp only [Act.put, List.getElem_toArray, List.getElem_cons_succ, List.getElem_cons_zero, List.setIfInBounds_toArray, List.set_cons_zero, List.set_cons_succ]
  refine wpAnyH_ready (rs := [2]) (by as_aux_lemma => kernel_rfl) (by simp) ?_
  refine AllReadyH.cons (o := _) rfl (fun K hK => ?_) AllReadyH.nil
  go_simp
  refine (HC0.out _).mono ?_
  rintro e w2 ⟨rfl, hb⟩
  refine hK.out _ _ (print_keep hb hH0) (fun hN => ?_)
  clear hK K hH0
  have hH1 := hN
  clear hN
  try simp only [Act.put, List.getElem_toArray, List.getElem_cons_succ, List.getElem_cons_zero, List.setIfInBounds_toArray, List.set_cons_zero, List.set_cons_succ]
  refine' wpAnyH_take (i := 3) (oi := _) (v := ?v14) rfl (by as_aux_lemma => kernel_rfl) (by as_aux_lemma => kernel_rfl) (by as_aux_lemma => kernel_rfl) (fun _ _ _ h => h) (Or.inl ⟨by rfl, ?y14⟩) hH1 ?r14
  case y14 => (intro w hSw; (try dsimp only at hSw); go_simp; (try with_reducible rfl))
  try simp only [Act.put, List.getElem_toArray, List.getElem_cons_succ, List.getElem_cons_zero, List.setIfInBounds_toArray, List.set_cons_zero, List.set_cons_succ]
  refine wpAnyH_ready (rs := [6]) (by as_aux_lemma => kernel_rfl) (by simp) ?_
  refine AllReadyH.cons (o := _) rfl (fun K hK => ?_) AllReadyH.nil
  go_simp
  refine (HC1.out _ hH1.2.2.2.2.2.2.2.tab).mono ?_
  rintro e w2 ⟨rfl, hb⟩
  refine hK.out _ _ (print_keep hb hH1) (fun hN => ?_)
  clear hK K hH1
  have hH2 := hN
  clear hN
  try simp only [Act.put, List.getElem_toArray, List.getElem_cons_succ, List.getElem_cons_zero, List.setIfInBounds_toArray, List.set_cons_zero, List.set_cons_succ]
  refine' wpAnyH_take (i := 7) (oi := _) (v := ?v15) rfl (by as_aux_lemma => kernel_rfl) (by as_aux_lemma => kernel_rfl) (by as_aux_lemma => kernel_rfl) (fun _ _ _ h => h) (Or.inl ⟨by rfl, ?y15⟩) hH2 ?r15
  case y15 => (intro w hSw; (try dsimp only at hSw); go_simp; (try with_reducible rfl))
  try simp only [Act.put, List.getElem_toArray, List.getElem_cons_succ, List.getElem_cons_zero, List.setIfInBounds_toArray, List.set_cons_zero, List.set_cons_succ]
  refine wpAnyH_ready (rs := [10]) (by as_aux_lemma => kernel_rfl) (by simp) ?_
  refine AllReadyH.cons (o := _) rfl (fun K hK => ?_) AllReadyH.nil
  go_simp
  refine (HC2.out _ hH2.2.2.2.2.2.2.2.tab).mono ?_
  rintro e w2 ⟨rfl, hb⟩
  refine hK.out _ _ (print_keep hb hH2) (fun hN => ?_)
  clear hK K hH2
  have hH3 := hN
  clear hN
  try simp only [Act.put, List.getElem_toArray, List.getElem_cons_succ, List.getElem_cons_zero, List.setIfInBounds_toArray, List.set_cons_zero, List.set_cons_succ]
  refine' wpAnyH_take (i := 11) (oi := _) (v := ?v16) rfl (by as_aux_lemma => kernel_rfl) (by as_aux_lemma => kernel_rfl) (by as_aux_lemma => kernel_rfl) (fun _ _ _ h => h) (Or.inl ⟨by rfl, ?y16⟩) hH3 ?r16
  case y16 => (intro w hSw; (try dsimp only at hSw); go_simp; (try with_reducible rfl))
  try simp only [Act.put, List.getElem_toArray, List.getElem_cons_succ, List.getElem_cons_zero, List.setIfInBounds_toArray, List.set_cons_zero, List.set_cons_succ]
  refine wpAnyH_ready (rs := [14]) (by as_aux_lemma => kernel_rfl) (by simp) ?_
  refine AllReadyH.cons (o := _) rfl (fun K hK => ?_) AllReadyH.nil
  go_simp
  refine (HC3.out _ hH3.2.2.2.2.2.2.2.tab).mono ?_
  rintro e w2 ⟨rfl, hb⟩
  refine hK.out _ _ (print_keep hb hH3) (fun hN => ?_)
  clear hK K hH3
  have hH4 := hN
  clear hN
  try simp only [Act.put, List.getElem_toArray, List.getElem_cons_succ, List.getElem_cons_zero, List.setIfInBounds_toArray, List.set_cons_zero, List.set_cons_succ]
  refine' wpAnyH_take (i := 15) (oi := _) (v := ?v17) rfl (by as_aux_lemma => kernel_rfl) (by as_aux_lemma => kernel_rfl) (by as_aux_lemma => kernel_rfl) (fun _ _ _ h => h) (Or.inl ⟨by rfl, ?y17⟩) hH4 ?r17
  case y17 => (intro w hSw; (try dsimp only at hSw); go_simp; (try with_reducible rfl))
  try simp only [Act.put, List.getElem_toArray, List.getElem_cons_succ, List.getElem_cons_zero, List.setIfInBounds_toArray, List.set_cons_zero, List.set_cons_succ]
  refine wpAnyH_ready (rs := [18]) (by as_aux_lemma => kernel_rfl) (by simp) ?_
  refine AllReadyH.cons (o := _) rfl (fun K hK => ?_) AllReadyH.nil
  go_simp
  refine (HC4.out _ hH4.2.2.2.2.2.2.2.lies.y hH4.2.2.2.2.2.2.2.lies.yn hH4.2.2.2.2.2.2.2.tab).mono ?_
  rintro e w2 ⟨rfl, hb⟩
  refine hK.out _ _ (print_keep hb hH4) (fun hN => ?_)
  clear hK K hH4
  have hH5 := hN
  clear hN
  try simp only [Act.put, List.getElem_toArray, List.getElem_cons_succ, List.getElem_cons_zero, List.setIfInBounds_toArray, List.set_cons_zero, List.set_cons_succ]
  refine' wpAnyH_take (i := 19) (oi := _) (v := ?v18) rfl (by as_aux_lemma => kernel_rfl) (by as_aux_lemma => kernel_rfl) (by as_aux_lemma => kernel_rfl) (fun _ _ _ h => h) (Or.inl ⟨by rfl, ?y18⟩) hH5 ?r18
  case y18 => (intro w hSw; (try dsimp only at hSw); go_simp; (try with_reducible rfl))
  try simp only [Act.put, List.getElem_toArray, List.getElem_cons_succ, List.getElem_cons_zero, List.setIfInBounds_toArray, List.set_cons_zero, List.set_cons_succ]
  refine wpAnyH_ready (rs := [22]) (by as_aux_lemma => kernel_rfl) (by simp) ?_
  refine AllReadyH.cons (o := _) rfl (fun K hK => ?_) AllReadyH.nil
  go_simp
  refine (HC5.out _ hH5.2.2.2.2.2.2.2.lies.m hH5.2.2.2.2.2.2.2.lies.mn hH5.2.2.2.2.2.2.2.tab).mono ?_
  rintro e w2 ⟨rfl, hb⟩
  refine hK.out _ _ (print_keep hb hH5) (fun hN => ?_)
  clear hK K hH5
  have hH6 := hN
  clear hN
  try simp only [Act.put, List.getElem_toArray, List.getElem_cons_succ, List.getElem_cons_zero, List.setIfInBounds_toArray, List.set_cons_zero, List.set_cons_succ]
  refine' wpAnyH_take (i := 23) (oi := _) (v := ?v19) rfl (by as_aux_lemma => kernel_rfl) (by as_aux_lemma => kernel_rfl) (by as_aux_lemma => kernel_rfl) (fun _ _ _ h => h) (Or.inl ⟨by rfl, ?y19⟩) hH6 ?r19
  case y19 => (intro w hSw; (try dsimp only at hSw); go_simp; (try with_reducible rfl))
  try simp only [Act.put, List.getElem_toArray, List.getElem_cons_succ, List.getElem_cons_zero, List.setIfInBounds_toArray, List.set_cons_zero, List.set_cons_succ]
  refine wpAnyH_ready (rs := [26]) (by as_aux_lemma => kernel_rfl) (by simp) ?_
  refine AllReadyH.cons (o := _) rfl (fun K hK => ?_) AllReadyH.nil
  go_simp
  refine (HC6.out _ hH6.2.2.2.2.2.2.2.lies.d hH6.2.2.2.2.2.2.2.lies.dn hH6.2.2.2.2.2.2.2.tab).mono ?_
  rintro e w2 ⟨rfl, hb⟩
  refine hK.out _ _ (print_keep hb hH6) (fun hN => ?_)
  clear hK K hH6
  have hH7 := hN
  clear hN
  try simp only [Act.put, List.getElem_toArray, List.getElem_cons_succ, List.getElem_cons_zero, List.setIfInBounds_toArray, List.set_cons_zero, List.set_cons_succ]
  refine' wpAnyH_take (i := 27) (oi := _) (v := ?v20) rfl (by as_aux_lemma => kernel_rfl) (by as_aux_lemma => kernel_rfl) (by as_aux_lemma => kernel_rfl) (fun _ _ _ h => h) (Or.inl ⟨by rfl, ?y20⟩) hH7 ?r20
  case y20 => (intro w hSw; (try dsimp only at hSw); go_simp; (try with_reducible rfl))
  try simp only [Act.put, List.getElem_toArray, List.getElem_cons_succ, List.getElem_cons_zero, List.setIfInBounds_toArray, List.set_cons_zero, List.set_cons_succ]
  refine wpAnyH_ready (rs := [28]) (by as_aux_lemma => kernel_rfl) (by simp) ?_
  refine AllReadyH.cons (o := _) rfl (fun K hK => ?_) AllReadyH.nil
  go_simp
  refine hK.out _ _ (print_keep (more (start _) _) hH7) (fun hN => ?_)
  clear hK K hH7
  have hH8 := hN
  clear hN
  try simp only [Act.put, List.getElem_toArray, List.getElem_cons_succ, List.getElem_cons_zero, List.setIfInBounds_toArray, List.set_cons_zero, List.set_cons_succ]
  refine wpAnyH_ready (rs := [29]) (by as_aux_lemma => kernel_rfl) (by simp) ?_
  refine AllReadyH.cons (o := _) rfl (fun K hK => ?_) AllReadyH.nil
  go_simp
  refine (written_any (some ⟨_, 0, none⟩) 7 7 [(nFREQ, T0), (nINTERVAL, T1), (nCOUNT, T2), (nUNTIL, T3), (nBYMONTH, T4), (nBYMONTHDAY, T5), (nBYDAY, T6)] _ (rowP7 T0 T1 T2 T3 T4 T5 T6 _ _) rfl (by show 7 ≤ 1000; omega) HBD.out).mono ?_
  rintro e w2 ⟨rfl, hb⟩
  refine hK.out _ _ (print_keep hb hH8) (fun hN => ?_)
  clear hK K hH8
  have hH9 := hN
  clear hN
  try simp only [Act.put, List.getElem_toArray, List.getElem_cons_succ, List.getElem_cons_zero, List.setIfInBounds_toArray, List.set_cons_zero, List.set_cons_succ]
  refine' wpAnyH_take (i := 30) (oi := _) (v := ?v21) rfl (by as_aux_lemma => kernel_rfl) (by as_aux_lemma => kernel_rfl) (by as_aux_lemma => kernel_rfl) (fun _ _ _ h => h) (Or.inl ⟨by rfl, ?y21⟩) hH9 ?r21
  case y21 => (intro w hSw; (try dsimp only at hSw); go_simp; (try with_reducible rfl))
  try simp only [Act.put, List.getElem_toArray, List.getElem_cons_succ, List.getElem_cons_zero, List.setIfInBounds_toArray, List.set_cons_zero, List.set_cons_succ]
  refine wpAnyH_done (by as_aux_lemma => kernel_rfl) ?_ _
  obtain ⟨_, _, _, _, _, _, _, hpc⟩ := hH9
  go_wp2_with fail
  go_ret
  exact ⟨ret_str (by rw [HP.out]), hpc.below⟩

theorem Print_any (fr ev ct un : Int) (D M Y : Option Addr) (dn dc mn mc yn yc : Nat) (ds : List Wd) (ms ys : List Int) (w : World) (hl : Lies w D dn M mn Y yn ds ms ys) (ht : Tab w) :
    Calls Tryz.prog 12 #[.agg #[.int .i64 fr, .int .i64 ev, .int .i64 ct, .int .i64 un, .slice D dn dc, .slice M mn mc, .slice Y yn yc]] w (Ans w (.string (str (printE unU ⟨fr, ev, ct, un, ds, ms, ys⟩)))) := by
  cases hi : isB ⟨fr, ev, ct, un, ds, ms, ys⟩
  · rw [print_no _ _ (Or.inl hi)]
    exact Print_no fr ev ct un D M Y dn dc mn mc yn yc ds ms ys w hl ht hi
  cases hs : sameB ⟨fr, ev, ct, un, ds, ms, ys⟩ once
  · have k := rec_facts (rec_of hi (fun e => by rw [(sameB_iff _ _).2 e] at hs; cases hs))
    have hy := in64_of k.ys fun x hx => by rw [moOk, btw_iff] at hx; omega
    have hm := in64_of k.ms fun x hx => by rw [mdOk, Bool.and_eq_true, btw_iff] at hx; omega
    have hd : ∀ x ∈ ds, in64 x.1 := fun x hx => by
      have := ((listB_iff ordW (0, 0) ds).1 k.ds).2.1 x hx
      rw [wdOk, Bool.and_eq_true, btw_iff] at this
      unfold in64; omega
    have k1 := k.f1
    have k2 := k.f2
    have k3 := k.e1
    have k4 := k.e2
    have k5 := k.c1
    have k6 := k.c2
    simp only at k1 k2 k3 k4 k5 k6
    rw [print_yes _ _ hi hs]
    have hul : ∀ a n, in64 n → (unlessT a n).length ≤ 30 := fun a n h => by
      unfold unlessT; split
      · simp
      · exact Nat.le_trans (Lib.itoa_length_le n h.1 h.2) (by omega)
    have hll : ∀ l : List Int, l.length ≤ 1000 → (∀ x ∈ l, in64 x) → (listT Lib.itoa l).length ≤ 90000 := fun l h1 h2 => by
      have := listT_len Lib.itoa 30 l fun x hx => Nat.le_trans (Lib.itoa_length_le x (h2 x hx).1 (h2 x hx).2) (by omega)
      omega
    have hld : (listT dayT ds).length ≤ 90000 := by
      have := listT_len dayT 40 ds fun x hx => dayT_len x (hd x hx)
      have := hl.dl
      omega
    have hfl : (freqT fr).length ≤ 100 := by
      have : ∀ n : Nat, n < 4 → (freqWs.getD n []).length ≤ 100 := by decide
      exact this (fr.toNat - 1) (by omega)
    have htl := text_len un
    have i1 : in64 ev := by unfold in64; omega
    have i2 : in64 ct := by unfold in64; omega
    refine Print_core fr ev ct un D M Y dn dc mn mc yn yc ds ms ys w hl ht hi hs (freqT fr) (unlessT 1 ev) (unlessT 0 ct) (textOf un) (listT Lib.itoa ys) (listT Lib.itoa ms) (listT dayT ds) _
      (fun w => freqT_any fr w k1 k2) (fun w h => unless_any 1 ev w i1 h) (fun w h => unless_any 0 ct w i2 h) (fun w h => Text_any un w h)
      (fun w h1 h2 h3 => listI_any Y yn yc ys w h1 h2 hl.yl hy h3) (fun w h1 h2 h3 => listI_any M mn mc ms w h1 h2 hl.ml hm h3) (fun w h1 h2 h3 => listD_any D dn dc ds w h1 h2 hl.dl hd h3) ?_ (written_parts unU ⟨fr, ev, ct, un, ds, ms, ys⟩)
    intro p hp
    have u1 := hul 1 ev i1
    have u2 := hul 0 ct i2
    have l1 := hll ys hl.yl hy
    have l2 := hll ms hl.ml hm
    simp only [List.mem_cons, List.not_mem_nil, or_false] at hp
    rcases hp with rfl | rfl | rfl | rfl | rfl | rfl | rfl <;> refine ⟨by simp only; decide, ?_⟩ <;> simp only <;> omega
  · rw [print_no _ _ (Or.inr hs)]
    exact Print_once fr ev ct un D M Y dn dc mn mc yn yc ds ms ys w hl ht hi hs

end Go.Proofs.YtffobailjdhijaaGreatDoor

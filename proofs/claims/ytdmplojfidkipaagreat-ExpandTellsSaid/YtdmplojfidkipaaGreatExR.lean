/- Walk of the reference of layer 6: all. Written by recipes/ex1.py. -/
import Derived.Test.YtdmplojfidkipaaGreatExA
import Derived.Test.YtdmplojfidkipaaGreatExMath
namespace Go.Proofs.YtdmplojfidkipaaGreat.R
open Go.RowKit Rul Go.Sort

set_option maxRecDepth 100000 in
set_option maxHeartbeats 8000000 in
theorem all_any (fr ev ct un : Int) (D M Y : Option Addr) (dn dc mn mc yn yc : Nat) (ds : List Wd) (ms ys : List Int) (s : Int) (w : World) (h : Lies w D dn M mn Y yn ds ms ys) (hr : recB ⟨fr, ev, ct, un, ds, ms, ys⟩ = true) (h1 : 0 ≤ s) (h2 : s < 52596000) :
    Calls Tryz.prog 16 #[.agg #[.int .i64 fr, .int .i64 ev, .int .i64 ct, .int .i64 un, .slice D dn dc, .slice M mn mc, .slice Y yn yc], .int .i64 s] w (GivesI w (allL ⟨fr, ev, ct, un, ds, ms, ys⟩ s)) := by
  have t1 : s.tdiv 1440 = s / 1440 := Int.tdiv_eq_ediv_of_nonneg (by omega)
  have t2 : s.tmod 1440 = s % 1440 := Int.tmod_eq_emod_of_nonneg (by omega)
  obtain ⟨day, hday⟩ : ∃ day, s / 1440 = day := ⟨_, rfl⟩
  obtain ⟨at0, hat⟩ : ∃ at0, s % 1440 = at0 := ⟨_, rfl⟩
  have hat1 : 0 ≤ at0 ∧ at0 < 1440 := by omega
  have hrng : rngB fr ev ct un = true := by rw [recB_is, Bool.and_eq_true] at hr; exact hr.1
  rw [rng_iff] at hrng
  obtain ⟨_, _, _, _, ct0, ct1, un0, un1, hcu⟩ := hrng
  have HCU := hide hcu
  clear hcu
  have HBX := hide (more (start w) (.cells #[.int .i64 fr, .int .i64 ev, .int .i64 ct, .int .i64 un, .slice D dn dc, .slice M mn mc, .slice Y yn yc] 25))
  have HL := hide (h.keep HBX.out)
  have s0 : (w.alloc (.cells #[.int .i64 fr, .int .i64 ev, .int .i64 ct, .int .i64 un, .slice D dn dc, .slice M mn mc, .slice Y yn yc] 25)).cell? ⟨w.heap.size, 0, none⟩ = some (.int .i64 fr) := by rw [World.cell?_alloc_at _ _ _ _ rfl]; rfl
  have s1 : (w.alloc (.cells #[.int .i64 fr, .int .i64 ev, .int .i64 ct, .int .i64 un, .slice D dn dc, .slice M mn mc, .slice Y yn yc] 25)).cell? ⟨w.heap.size, 1, none⟩ = some (.int .i64 ev) := by rw [World.cell?_alloc_at _ _ _ _ rfl]; rfl
  have s2 : (w.alloc (.cells #[.int .i64 fr, .int .i64 ev, .int .i64 ct, .int .i64 un, .slice D dn dc, .slice M mn mc, .slice Y yn yc] 25)).cell? ⟨w.heap.size, 2, none⟩ = some (.int .i64 ct) := by rw [World.cell?_alloc_at _ _ _ _ rfl]; rfl
  have s3 : (w.alloc (.cells #[.int .i64 fr, .int .i64 ev, .int .i64 ct, .int .i64 un, .slice D dn dc, .slice M mn mc, .slice Y yn yc] 25)).cell? ⟨w.heap.size, 3, none⟩ = some (.int .i64 un) := by rw [World.cell?_alloc_at _ _ _ _ rfl]; rfl
  have s4 : (w.alloc (.cells #[.int .i64 fr, .int .i64 ev, .int .i64 ct, .int .i64 un, .slice D dn dc, .slice M mn mc, .slice Y yn yc] 25)).cell? ⟨w.heap.size, 4, none⟩ = some (.slice D dn dc) := by rw [World.cell?_alloc_at _ _ _ _ rfl]; rfl
  have s5 : (w.alloc (.cells #[.int .i64 fr, .int .i64 ev, .int .i64 ct, .int .i64 un, .slice D dn dc, .slice M mn mc, .slice Y yn yc] 25)).cell? ⟨w.heap.size, 5, none⟩ = some (.slice M mn mc) := by rw [World.cell?_alloc_at _ _ _ _ rfl]; rfl
  have s6 : (w.alloc (.cells #[.int .i64 fr, .int .i64 ev, .int .i64 ct, .int .i64 un, .slice D dn dc, .slice M mn mc, .slice Y yn yc] 25)).cell? ⟨w.heap.size, 6, none⟩ = some (.slice Y yn yc) := by rw [World.cell?_alloc_at _ _ _ _ rfl]; rfl
  clear h hr
  go_enter Tryz.func16, Tryz.ntmps16
  go_wp2_with fail
  generalize (w.alloc (.cells #[.int .i64 fr, .int .i64 ev, .int .i64 ct, .int .i64 un, .slice D dn dc, .slice M mn mc, .slice Y yn yc] 25)) = W at *
  have s0w := s0
  have s1w := s1
  have s2w := s2
  have s3w := s3
  have s4w := s4
  have s5w := s5
  have s6w := s6
  go_loopw [5, 8, 9, 10, 11, 12, 13, 14] (fun v kk _ _ _ _ _ _ wr => ∃ k : Nat, k ≤ 36525 ∧ kk = .int .i64 k ∧ OwnI wr W.heap.size v (candT ⟨fr, ev, ct, un, ds, ms, ys⟩ s k) ∧ Hid (∀ q ∈ candT ⟨fr, ev, ct, un, ds, ms, ys⟩ s k, keepU ⟨fr, ev, ct, un, ds, ms, ys⟩ q = true) ∧ Hid ((candT ⟨fr, ev, ct, un, ds, ms, ys⟩ s k).length ≤ capN ⟨fr, ev, ct, un, ds, ms, ys⟩) ∧ Below W.heap.size W wr) (fun _ kk _ _ _ _ _ _ _ => 36525 - (intOf kk).toNat)
  case atStart => exact ⟨0, Nat.zero_le _, rfl, ownI_nil _ _, hide (fun q hq => by cases hq), hide (Nat.zero_le _), start _⟩
  case round =>
    obtain ⟨k, hk, rfl, hown, HU, HC, hbw⟩ := hrel
    have HO := hide hown
    have HBR := hide hbw
    clear hown hbw
    replace HL := hide (HL.out.keep HBR.out)
    replace s0 := cell_keep HBR.out s0
    replace s1 := cell_keep HBR.out s1
    replace s2 := cell_keep HBR.out s2
    replace s3 := cell_keep HBR.out s3
    replace s4 := cell_keep HBR.out s4
    replace s5 := cell_keep HBR.out s5
    replace s6 := cell_keep HBR.out s6
    cases hK : perK ⟨fr, ev, ct, un, ds, ms, ys⟩ day k
    · have HE := hide (all_none ⟨fr, ev, ct, un, ds, ms, ys⟩ s k hk (by rw [hday]; exact hK) HU.out HC.out)
      have HK := hide hK
      clear hK
      go_wp2_with fail
      refine (period_is fr ev ct un D M Y dn dc mn mc yn yc ds ms ys day k _ _ false _ HL.out rfl rfl HK.out).mono ?_
      rintro e u1 ⟨rfl, hb⟩
      replace HO := hide (HO.out.keep hb)
      replace HBR := hide (andthen HBR.out hb)
      replace s0 := cell_keep hb s0
      replace s1 := cell_keep hb s1
      replace s2 := cell_keep hb s2
      replace s3 := cell_keep hb s3
      replace s4 := cell_keep hb s4
      replace s5 := cell_keep hb s5
      replace s6 := cell_keep hb s6
      replace HL := hide (HL.out.keep hb)
      clear hb
      go_wp2_with fail
      go_ret
      exact ⟨_, rfl, by rw [HE.out]; exact OwnI.low HO.out HBX.out.size, andthen HBX.out HBR.out⟩
    · have hk2 : k < 36525 := by have := ((perK_iff _ _ _).1 hK).2.2.1; omega
      obtain ⟨a, ha⟩ : ∃ a, perA ⟨fr, ev, ct, un, ds, ms, ys⟩ day k = a := ⟨_, rfl⟩
      obtain ⟨b, hbb⟩ : ∃ b, perB ⟨fr, ev, ct, un, ds, ms, ys⟩ day k = b := ⟨_, rfl⟩
      have pb := per_bd _ _ _ hK
      rw [ha, hbb] at pb
      have HK := hide hK
      have HP := hide (And.intro ha hbb)
      obtain ⟨l, hl⟩ : ∃ l, daysL ⟨fr, ev, ct, un, ds, ms, ys⟩ day k = l := ⟨_, rfl⟩
      have HDL := hide hl
      clear hK ha hbb hl
      by_cases hun : 0 ≤ un
      · by_cases hpa : un < a * 1440
        · have HE := hide (all_past ⟨fr, ev, ct, un, ds, ms, ys⟩ s k hk (by rw [hday]; exact HK.out) hun (by rw [hday, HP.out.1]; exact hpa) HU.out HC.out)
          go_wp2_with fail
          refine (period_is fr ev ct un D M Y dn dc mn mc yn yc ds ms ys day k a b true _ HL.out HP.out.1 HP.out.2 HK.out).mono ?_
          rintro e u1 ⟨rfl, hb⟩
          replace HO := hide (HO.out.keep hb)
          replace HBR := hide (andthen HBR.out hb)
          replace s0 := cell_keep hb s0
          replace s1 := cell_keep hb s1
          replace s2 := cell_keep hb s2
          replace s3 := cell_keep hb s3
          replace s4 := cell_keep hb s4
          replace s5 := cell_keep hb s5
          replace s6 := cell_keep hb s6
          replace HL := hide (HL.out.keep hb)
          clear hb
          go_wp2_with fail
          go_ret
          exact ⟨_, rfl, by rw [HE.out]; exact OwnI.low HO.out HBX.out.size, andthen HBX.out HBR.out⟩
        · skip
          go_wp2_with fail
          refine (period_is fr ev ct un D M Y dn dc mn mc yn yc ds ms ys day k a b true _ HL.out HP.out.1 HP.out.2 HK.out).mono ?_
          rintro e u1 ⟨rfl, hb⟩
          replace HO := hide (HO.out.keep hb)
          replace HBR := hide (andthen HBR.out hb)
          replace s0 := cell_keep hb s0
          replace s1 := cell_keep hb s1
          replace s2 := cell_keep hb s2
          replace s3 := cell_keep hb s3
          replace s4 := cell_keep hb s4
          replace s5 := cell_keep hb s5
          replace s6 := cell_keep hb s6
          replace HL := hide (HL.out.keep hb)
          clear hb
          go_wp2_with fail
          refine (of_any fr ev ct un D M Y dn dc mn mc yn yc ds ms ys day k _ HL.out).mono ?_
          rintro e u2 ⟨v2, rfl, hownl, hb⟩
          rw [HDL.out] at hownl
          obtain ⟨A, cap, rfl, hrow⟩ := hownl.row
          have HA := hide (apart_of HO.out hownl)
          have LR := hide hrow
          replace HO := hide (HO.out.keep hb)
          replace HBR := hide (andthen HBR.out hb)
          replace s0 := cell_keep hb s0
          replace s1 := cell_keep hb s1
          replace s2 := cell_keep hb s2
          replace s3 := cell_keep hb s3
          replace s4 := cell_keep hb s4
          replace s5 := cell_keep hb s5
          replace s6 := cell_keep hb s6
          replace HL := hide (HL.out.keep hb)
          clear hb hownl hrow
          go_wp2_with fail
          generalize u2 = U at *
          go_loopw [5, 13, 14] (fun v ii _ wr => ∃ i : Nat, i ≤ l.length ∧ ii = .int .i64 i ∧ OwnI wr W.heap.size v (pre ⟨fr, ev, ct, un, ds, ms, ys⟩ s k i) ∧ Hid (∀ q ∈ pre ⟨fr, ev, ct, un, ds, ms, ys⟩ s k i, keepU ⟨fr, ev, ct, un, ds, ms, ys⟩ q = true) ∧ Hid ((pre ⟨fr, ev, ct, un, ds, ms, ys⟩ s k i).length ≤ capN ⟨fr, ev, ct, un, ds, ms, ys⟩) ∧ RowI wr A l ∧ (∀ b o, A = some ⟨b, o, none⟩ → ApartI v b) ∧ Below W.heap.size W wr) (fun _ ii _ _ => l.length - (intOf ii).toNat)
          case atStart => exact ⟨0, Nat.zero_le _, rfl, by rw [pre_0]; exact HO.out, hide (by rw [pre_0]; exact HU.out), hide (by rw [pre_0]; exact HC.out), LR.out, HA.out, HBR.out⟩
          case round =>
            clear HA LR HO HBR HU HC
            obtain ⟨i, hi, rfl, hown2, HU2, HC2, hlr, hla, hbw2⟩ := hrel
            obtain ⟨A2, cc2, rfl, _⟩ := hown2.row
            have HO2 := hide hown2
            have LR := hide hlr
            have HA := hide hla
            have HBR2 := hide hbw2
            clear hown2 hlr hla hbw2
            by_cases hlt : i < l.length
            · obtain ⟨b1, o1, rfl, hb1, hc1⟩ := LR.out (by intro h0; rw [h0] at hlt; exact absurd hlt (Nat.not_lt_zero _))
              have hil : i < (daysL ⟨fr, ev, ct, un, ds, ms, ys⟩ (s / 1440) k).length := by rw [hday, HDL.out]; exact hlt
              have hle : (daysL ⟨fr, ev, ct, un, ds, ms, ys⟩ (s / 1440) k)[i] = l[i] := List.getElem_of_eq (by rw [hday]; exact HDL.out) hil
              have hin := daysL_in ⟨fr, ev, ct, un, ds, ms, ys⟩ (s / 1440) k i hil
              rw [hle, hday, HP.out.1, HP.out.2] at hin
              obtain ⟨x, hx⟩ : ∃ x, l[i] = x := ⟨_, rfl⟩
              rw [hx] at hin hle
              have p1 : wr.cell? ⟨b1, o1 + i, none⟩ = some (.int .i64 x) := by rw [← hx]; exact hc1 i hlt
              obtain ⟨hx0, hx1, _⟩ := hin
              obtain ⟨mm, hmm⟩ : ∃ mm, x * 1440 + at0 = mm := ⟨_, rfl⟩
              have HM : Hid ((daysL ⟨fr, ev, ct, un, ds, ms, ys⟩ (s / 1440) k)[i] * 1440 + s % 1440 = mm) := hide (by rw [hle, hat]; exact hmm)
              clear hc1 hx hle
              have hi0 : (0 : Int) ≤ (i : Int) := by omega
              have hi1 : (i : Int) < (l.length : Int) := by omega
              have hi2 : (i : Int) ≤ 366 := by have h1 := daysL_len ⟨fr, ev, ct, un, ds, ms, ys⟩ (s / 1440) k; omega
              have s0 := cell_keep HBR2.out s0w
              have s1 := cell_keep HBR2.out s1w
              have s2 := cell_keep HBR2.out s2w
              have s3 := cell_keep HBR2.out s3w
              have s4 := cell_keep HBR2.out s4w
              have s5 := cell_keep HBR2.out s5w
              have s6 := cell_keep HBR2.out s6w
              by_cases hsk : mm < s
              · have HN := hide (pre_skip ⟨fr, ev, ct, un, ds, ms, ys⟩ s k i hil (by rw [HM.out]; exact hsk))
                go_wp2_with fail
                go_roundw
                case rel => exact ⟨i + 1, by omega, by go_num, by rw [HN.out]; exact HO2.out, by rw [HN.out]; exact HU2, by rw [HN.out]; exact HC2, LR.out, HA.out, HBR2.out⟩
                case measure => simp [intOf]; omega
              · by_cases hu2 : un < mm
                · have HE := hide (all_until ⟨fr, ev, ct, un, ds, ms, ys⟩ s k i hk2 hil hun (by rw [HM.out]; exact hu2) HU2.out HC2.out)
                  go_wp2_with fail
                  go_ret
                  exact ⟨_, rfl, by rw [HE.out]; exact OwnI.low HO2.out HBX.out.size, andthen HBX.out HBR2.out⟩
                · have KM := hide (keepU_hi ⟨fr, ev, ct, un, ds, ms, ys⟩ mm (by show mm ≤ un; omega))
                  by_cases hct : 0 < ct
                  · exfalso
                    have := HCU.out
                    omega
                  · have hcap : capN ⟨fr, ev, ct, un, ds, ms, ys⟩ = 41 := capN_0 ⟨fr, ev, ct, un, ds, ms, ys⟩ hct
                    have hC := HC2.out
                    rw [hcap] at hC
                    by_cases hq : 40 < ((pre ⟨fr, ev, ct, un, ds, ms, ys⟩ s k i).length : Int)
                    · have HE := hide (all_full ⟨fr, ev, ct, un, ds, ms, ys⟩ s k i hk2 hil HU2.out (by rw [hcap]; omega))
                      clear hC hcap
                      go_wp2_with fail
                      go_ret
                      exact ⟨_, rfl, by rw [HE.out]; exact OwnI.low HO2.out HBX.out.size, andthen HBX.out HBR2.out⟩
                    · have HC4 : Hid (((pre ⟨fr, ev, ct, un, ds, ms, ys⟩ s k i).length) + 1 ≤ capN ⟨fr, ev, ct, un, ds, ms, ys⟩) := hide (by rw [hcap]; omega)
                      clear hC hcap
                      have HN := hide (pre_step ⟨fr, ev, ct, un, ds, ms, ys⟩ s k i hil (by rw [HM.out]; omega))
                      rw [HM.out] at HN
                      have hsz := HBR2.out.size
                      have hown := HO2.out
                      have hln : (pre ⟨fr, ev, ct, un, ds, ms, ys⟩ s k i).length ≤ 1000000 := by omega
                      go_wp2_with (at_builtin; refine wp_oneJ (l := pre ⟨fr, ev, ct, un, ds, ms, ys⟩ s k i) (p := mm) rfl _ _ rfl rfl rfl rfl hown hsz hln ?_; intro v3 w3 hown3 hgo3)
                      have HO3 := hide hown3
                      have HG3 := hide hgo3
                      have HB3 := hide (hgo3.to hown HBR2.out hsz)
                      have HA3 := hide (hgo3.apart (HA.out b1 o1 rfl) hb1)
                      have LR3 := hide (hgo3.row (HA.out b1 o1 rfl) LR.out)
                      clear hown hown3 hgo3 hsz hln
                      go_wp2_with fail
                      go_roundw
                      case rel => exact ⟨i + 1, by omega, by go_num, by rw [HN.out]; exact HO3.out, hide (by rw [HN.out]; intro q hq; rcases List.mem_append.1 hq with g | g; exact HU2.out q g; rw [List.mem_singleton] at g; subst g; exact KM.out), hide (by rw [HN.out, List.length_append]; show _ + 1 ≤ _; have := HC4.out; omega), LR3.out, (fun b o e => by injection e with e; injection e with e1 e2; subst e1; exact HA3.out), HB3.out⟩
                      case measure => simp [intOf]; omega
            · obtain rfl : i = l.length := by omega
              have HN := hide (pre_end ⟨fr, ev, ct, un, ds, ms, ys⟩ s k l.length (by rw [hday, HDL.out]))
              go_wp2_with fail
              go_roundw
              case rel => exact ⟨k + 1, by omega, by go_num, by rw [← HN.out]; exact HO2.out, hide (by rw [← HN.out]; exact HU2.out), hide (by rw [← HN.out]; exact HC2.out), HBR2.out⟩
              case measure => simp [intOf]; omega
      · have hun : un < 0 := by omega
        go_wp2_with fail
        refine (period_is fr ev ct un D M Y dn dc mn mc yn yc ds ms ys day k a b true _ HL.out HP.out.1 HP.out.2 HK.out).mono ?_
        rintro e u1 ⟨rfl, hb⟩
        replace HO := hide (HO.out.keep hb)
        replace HBR := hide (andthen HBR.out hb)
        replace s0 := cell_keep hb s0
        replace s1 := cell_keep hb s1
        replace s2 := cell_keep hb s2
        replace s3 := cell_keep hb s3
        replace s4 := cell_keep hb s4
        replace s5 := cell_keep hb s5
        replace s6 := cell_keep hb s6
        replace HL := hide (HL.out.keep hb)
        clear hb
        go_wp2_with fail
        refine (of_any fr ev ct un D M Y dn dc mn mc yn yc ds ms ys day k _ HL.out).mono ?_
        rintro e u2 ⟨v2, rfl, hownl, hb⟩
        rw [HDL.out] at hownl
        obtain ⟨A, cap, rfl, hrow⟩ := hownl.row
        have HA := hide (apart_of HO.out hownl)
        have LR := hide hrow
        replace HO := hide (HO.out.keep hb)
        replace HBR := hide (andthen HBR.out hb)
        replace s0 := cell_keep hb s0
        replace s1 := cell_keep hb s1
        replace s2 := cell_keep hb s2
        replace s3 := cell_keep hb s3
        replace s4 := cell_keep hb s4
        replace s5 := cell_keep hb s5
        replace s6 := cell_keep hb s6
        replace HL := hide (HL.out.keep hb)
        clear hb hownl hrow
        go_wp2_with fail
        generalize u2 = U at *
        go_loopw [5, 13, 14] (fun v ii _ wr => ∃ i : Nat, i ≤ l.length ∧ ii = .int .i64 i ∧ OwnI wr W.heap.size v (pre ⟨fr, ev, ct, un, ds, ms, ys⟩ s k i) ∧ Hid (∀ q ∈ pre ⟨fr, ev, ct, un, ds, ms, ys⟩ s k i, keepU ⟨fr, ev, ct, un, ds, ms, ys⟩ q = true) ∧ Hid ((pre ⟨fr, ev, ct, un, ds, ms, ys⟩ s k i).length ≤ capN ⟨fr, ev, ct, un, ds, ms, ys⟩) ∧ RowI wr A l ∧ (∀ b o, A = some ⟨b, o, none⟩ → ApartI v b) ∧ Below W.heap.size W wr) (fun _ ii _ _ => l.length - (intOf ii).toNat)
        case atStart => exact ⟨0, Nat.zero_le _, rfl, by rw [pre_0]; exact HO.out, hide (by rw [pre_0]; exact HU.out), hide (by rw [pre_0]; exact HC.out), LR.out, HA.out, HBR.out⟩
        case round =>
          clear HA LR HO HBR HU HC
          obtain ⟨i, hi, rfl, hown2, HU2, HC2, hlr, hla, hbw2⟩ := hrel
          obtain ⟨A2, cc2, rfl, _⟩ := hown2.row
          have HO2 := hide hown2
          have LR := hide hlr
          have HA := hide hla
          have HBR2 := hide hbw2
          clear hown2 hlr hla hbw2
          by_cases hlt : i < l.length
          · obtain ⟨b1, o1, rfl, hb1, hc1⟩ := LR.out (by intro h0; rw [h0] at hlt; exact absurd hlt (Nat.not_lt_zero _))
            have hil : i < (daysL ⟨fr, ev, ct, un, ds, ms, ys⟩ (s / 1440) k).length := by rw [hday, HDL.out]; exact hlt
            have hle : (daysL ⟨fr, ev, ct, un, ds, ms, ys⟩ (s / 1440) k)[i] = l[i] := List.getElem_of_eq (by rw [hday]; exact HDL.out) hil
            have hin := daysL_in ⟨fr, ev, ct, un, ds, ms, ys⟩ (s / 1440) k i hil
            rw [hle, hday, HP.out.1, HP.out.2] at hin
            obtain ⟨x, hx⟩ : ∃ x, l[i] = x := ⟨_, rfl⟩
            rw [hx] at hin hle
            have p1 : wr.cell? ⟨b1, o1 + i, none⟩ = some (.int .i64 x) := by rw [← hx]; exact hc1 i hlt
            obtain ⟨hx0, hx1, _⟩ := hin
            obtain ⟨mm, hmm⟩ : ∃ mm, x * 1440 + at0 = mm := ⟨_, rfl⟩
            have HM : Hid ((daysL ⟨fr, ev, ct, un, ds, ms, ys⟩ (s / 1440) k)[i] * 1440 + s % 1440 = mm) := hide (by rw [hle, hat]; exact hmm)
            clear hc1 hx hle
            have hi0 : (0 : Int) ≤ (i : Int) := by omega
            have hi1 : (i : Int) < (l.length : Int) := by omega
            have hi2 : (i : Int) ≤ 366 := by have h1 := daysL_len ⟨fr, ev, ct, un, ds, ms, ys⟩ (s / 1440) k; omega
            have s0 := cell_keep HBR2.out s0w
            have s1 := cell_keep HBR2.out s1w
            have s2 := cell_keep HBR2.out s2w
            have s3 := cell_keep HBR2.out s3w
            have s4 := cell_keep HBR2.out s4w
            have s5 := cell_keep HBR2.out s5w
            have s6 := cell_keep HBR2.out s6w
            by_cases hsk : mm < s
            · have HN := hide (pre_skip ⟨fr, ev, ct, un, ds, ms, ys⟩ s k i hil (by rw [HM.out]; exact hsk))
              go_wp2_with fail
              go_roundw
              case rel => exact ⟨i + 1, by omega, by go_num, by rw [HN.out]; exact HO2.out, by rw [HN.out]; exact HU2, by rw [HN.out]; exact HC2, LR.out, HA.out, HBR2.out⟩
              case measure => simp [intOf]; omega
            · have KM := hide (keepU_lo ⟨fr, ev, ct, un, ds, ms, ys⟩ mm hun)
              by_cases hct : 0 < ct
              · have hcap : capN ⟨fr, ev, ct, un, ds, ms, ys⟩ = ct.toNat := capN_ct ⟨fr, ev, ct, un, ds, ms, ys⟩ hct
                have hC := HC2.out
                rw [hcap] at hC
                by_cases hq : ((pre ⟨fr, ev, ct, un, ds, ms, ys⟩ s k i).length : Int) = ct
                · have HE := hide (all_full ⟨fr, ev, ct, un, ds, ms, ys⟩ s k i hk2 hil HU2.out (by rw [hcap]; omega))
                  have gq : (((pre ⟨fr, ev, ct, un, ds, ms, ys⟩ s k i).length : Int) == ct) = true := by rw [beq_iff_eq]; exact hq
                  clear hq hC hcap
                  go_wp2_with fail
                  go_ret
                  exact ⟨_, rfl, by rw [HE.out]; exact OwnI.low HO2.out HBX.out.size, andthen HBX.out HBR2.out⟩
                · have gq : (((pre ⟨fr, ev, ct, un, ds, ms, ys⟩ s k i).length : Int) == ct) = false := by rw [beq_eq_false_iff_ne]; exact hq
                  have g40 : ((pre ⟨fr, ev, ct, un, ds, ms, ys⟩ s k i).length : Int) ≤ 40 := by omega
                  have HC4 : Hid (((pre ⟨fr, ev, ct, un, ds, ms, ys⟩ s k i).length) + 1 ≤ capN ⟨fr, ev, ct, un, ds, ms, ys⟩) := hide (by rw [hcap]; omega)
                  clear hq hC hcap
                  have HN := hide (pre_step ⟨fr, ev, ct, un, ds, ms, ys⟩ s k i hil (by rw [HM.out]; omega))
                  rw [HM.out] at HN
                  have hsz := HBR2.out.size
                  have hown := HO2.out
                  have hln : (pre ⟨fr, ev, ct, un, ds, ms, ys⟩ s k i).length ≤ 1000000 := by omega
                  go_wp2_with (at_builtin; refine wp_oneJ (l := pre ⟨fr, ev, ct, un, ds, ms, ys⟩ s k i) (p := mm) rfl _ _ rfl rfl rfl rfl hown hsz hln ?_; intro v3 w3 hown3 hgo3)
                  have HO3 := hide hown3
                  have HG3 := hide hgo3
                  have HB3 := hide (hgo3.to hown HBR2.out hsz)
                  have HA3 := hide (hgo3.apart (HA.out b1 o1 rfl) hb1)
                  have LR3 := hide (hgo3.row (HA.out b1 o1 rfl) LR.out)
                  clear hown hown3 hgo3 hsz hln
                  go_wp2_with fail
                  go_roundw
                  case rel => exact ⟨i + 1, by omega, by go_num, by rw [HN.out]; exact HO3.out, hide (by rw [HN.out]; intro q hq; rcases List.mem_append.1 hq with g | g; exact HU2.out q g; rw [List.mem_singleton] at g; subst g; exact KM.out), hide (by rw [HN.out, List.length_append]; show _ + 1 ≤ _; have := HC4.out; omega), LR3.out, (fun b o e => by injection e with e; injection e with e1 e2; subst e1; exact HA3.out), HB3.out⟩
                  case measure => simp [intOf]; omega
              · have hcap : capN ⟨fr, ev, ct, un, ds, ms, ys⟩ = 41 := capN_0 ⟨fr, ev, ct, un, ds, ms, ys⟩ hct
                have hC := HC2.out
                rw [hcap] at hC
                by_cases hq : 40 < ((pre ⟨fr, ev, ct, un, ds, ms, ys⟩ s k i).length : Int)
                · have HE := hide (all_full ⟨fr, ev, ct, un, ds, ms, ys⟩ s k i hk2 hil HU2.out (by rw [hcap]; omega))
                  clear hC hcap
                  go_wp2_with fail
                  go_ret
                  exact ⟨_, rfl, by rw [HE.out]; exact OwnI.low HO2.out HBX.out.size, andthen HBX.out HBR2.out⟩
                · have HC4 : Hid (((pre ⟨fr, ev, ct, un, ds, ms, ys⟩ s k i).length) + 1 ≤ capN ⟨fr, ev, ct, un, ds, ms, ys⟩) := hide (by rw [hcap]; omega)
                  clear hC hcap
                  have HN := hide (pre_step ⟨fr, ev, ct, un, ds, ms, ys⟩ s k i hil (by rw [HM.out]; omega))
                  rw [HM.out] at HN
                  have hsz := HBR2.out.size
                  have hown := HO2.out
                  have hln : (pre ⟨fr, ev, ct, un, ds, ms, ys⟩ s k i).length ≤ 1000000 := by omega
                  go_wp2_with (at_builtin; refine wp_oneJ (l := pre ⟨fr, ev, ct, un, ds, ms, ys⟩ s k i) (p := mm) rfl _ _ rfl rfl rfl rfl hown hsz hln ?_; intro v3 w3 hown3 hgo3)
                  have HO3 := hide hown3
                  have HG3 := hide hgo3
                  have HB3 := hide (hgo3.to hown HBR2.out hsz)
                  have HA3 := hide (hgo3.apart (HA.out b1 o1 rfl) hb1)
                  have LR3 := hide (hgo3.row (HA.out b1 o1 rfl) LR.out)
                  clear hown hown3 hgo3 hsz hln
                  go_wp2_with fail
                  go_roundw
                  case rel => exact ⟨i + 1, by omega, by go_num, by rw [HN.out]; exact HO3.out, hide (by rw [HN.out]; intro q hq; rcases List.mem_append.1 hq with g | g; exact HU2.out q g; rw [List.mem_singleton] at g; subst g; exact KM.out), hide (by rw [HN.out, List.length_append]; show _ + 1 ≤ _; have := HC4.out; omega), LR3.out, (fun b o e => by injection e with e; injection e with e1 e2; subst e1; exact HA3.out), HB3.out⟩
                  case measure => simp [intOf]; omega
          · obtain rfl : i = l.length := by omega
            have HN := hide (pre_end ⟨fr, ev, ct, un, ds, ms, ys⟩ s k l.length (by rw [hday, HDL.out]))
            go_wp2_with fail
            go_roundw
            case rel => exact ⟨k + 1, by omega, by go_num, by rw [← HN.out]; exact HO2.out, hide (by rw [← HN.out]; exact HU2.out), hide (by rw [← HN.out]; exact HC2.out), HBR2.out⟩
            case measure => simp [intOf]; omega

end Go.Proofs.YtdmplojfidkipaaGreat.R

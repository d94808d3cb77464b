/- Walks of package rule: which days fit. -/
import Derived.Test.YtdmplojfidkipaaRuG
namespace Go.Proofs.Ytdmplojfidkipaa
open Go.RowKit Rul Go.Sort

def admB (p : P) (ds : List Wd) (ms ys : List Int) : Bool := emptyOr (moFit p) ys && (emptyOr (mdFit p) ms && emptyOr (wdFit p) ds)
theorem admitB_is (fr ev ct un : Int) (ds : List Wd) (ms ys : List Int) (p : P) : admitB ⟨fr, ev, ct, un, ds, ms, ys⟩ p = admB p ds ms ys := rfl
set_option maxHeartbeats 2000000 in
theorem admit_any (p : P) (D M Y : Option Addr) (dn dc mn mc yn yc : Nat) (ds : List Wd) (ms ys : List Int) (w : World) (h : Lies w D dn M mn Y yn ds ms ys) :
    Calls Try.prog 93 #[.agg #[.slice D dn dc, .slice M mn mc, .slice Y yn yc], pv p] w (Ans w (.bool (admB p ds ms ys))) := by
  have hmf : ∀ (fn : Fn) (first cap : Array Value) (w : World), (Instr.makeFunc fn first cap).run Try.prog w = .ok (.func fn first cap) w := fun _ _ _ _ => rfl
  have HBX := hide (more (more (start w) (.cells #[.slice D dn dc, .slice M mn mc, .slice Y yn yc] 79)) (.cells #[.int .i64 p.mo, .int .i64 p.dy, .int .i64 p.de, .int .i64 p.wd, .int .i64 p.po, .int .i64 p.pe] 118))
  have s0 : ((w.alloc (.cells #[.slice D dn dc, .slice M mn mc, .slice Y yn yc] 79)).alloc (.cells #[.int .i64 p.mo, .int .i64 p.dy, .int .i64 p.de, .int .i64 p.wd, .int .i64 p.po, .int .i64 p.pe] 118)).cell? ⟨w.heap.size, 0, none⟩ = some (.slice D dn dc) := by rw [World.cell?_alloc_past _ _ _ (by simp), World.cell?_alloc_at _ _ _ _ rfl]; rfl
  have s1 : ((w.alloc (.cells #[.slice D dn dc, .slice M mn mc, .slice Y yn yc] 79)).alloc (.cells #[.int .i64 p.mo, .int .i64 p.dy, .int .i64 p.de, .int .i64 p.wd, .int .i64 p.po, .int .i64 p.pe] 118)).cell? ⟨w.heap.size, 1, none⟩ = some (.slice M mn mc) := by rw [World.cell?_alloc_past _ _ _ (by simp), World.cell?_alloc_at _ _ _ _ rfl]; rfl
  have s2 : ((w.alloc (.cells #[.slice D dn dc, .slice M mn mc, .slice Y yn yc] 79)).alloc (.cells #[.int .i64 p.mo, .int .i64 p.dy, .int .i64 p.de, .int .i64 p.wd, .int .i64 p.po, .int .i64 p.pe] 118)).cell? ⟨w.heap.size, 2, none⟩ = some (.slice Y yn yc) := by rw [World.cell?_alloc_past _ _ _ (by simp), World.cell?_alloc_at _ _ _ _ rfl]; rfl
  have t0 : ((w.alloc (.cells #[.slice D dn dc, .slice M mn mc, .slice Y yn yc] 79)).alloc (.cells #[.int .i64 p.mo, .int .i64 p.dy, .int .i64 p.de, .int .i64 p.wd, .int .i64 p.po, .int .i64 p.pe] 118)).cell? ⟨w.heap.size + 1, 0, none⟩ = some (.int .i64 p.mo) := by rw [World.cell?_alloc_at _ _ _ _ (by simp)]; rfl
  have t1 : ((w.alloc (.cells #[.slice D dn dc, .slice M mn mc, .slice Y yn yc] 79)).alloc (.cells #[.int .i64 p.mo, .int .i64 p.dy, .int .i64 p.de, .int .i64 p.wd, .int .i64 p.po, .int .i64 p.pe] 118)).cell? ⟨w.heap.size + 1, 1, none⟩ = some (.int .i64 p.dy) := by rw [World.cell?_alloc_at _ _ _ _ (by simp)]; rfl
  have t2 : ((w.alloc (.cells #[.slice D dn dc, .slice M mn mc, .slice Y yn yc] 79)).alloc (.cells #[.int .i64 p.mo, .int .i64 p.dy, .int .i64 p.de, .int .i64 p.wd, .int .i64 p.po, .int .i64 p.pe] 118)).cell? ⟨w.heap.size + 1, 2, none⟩ = some (.int .i64 p.de) := by rw [World.cell?_alloc_at _ _ _ _ (by simp)]; rfl
  have t3 : ((w.alloc (.cells #[.slice D dn dc, .slice M mn mc, .slice Y yn yc] 79)).alloc (.cells #[.int .i64 p.mo, .int .i64 p.dy, .int .i64 p.de, .int .i64 p.wd, .int .i64 p.po, .int .i64 p.pe] 118)).cell? ⟨w.heap.size + 1, 3, none⟩ = some (.int .i64 p.wd) := by rw [World.cell?_alloc_at _ _ _ _ (by simp)]; rfl
  have t4 : ((w.alloc (.cells #[.slice D dn dc, .slice M mn mc, .slice Y yn yc] 79)).alloc (.cells #[.int .i64 p.mo, .int .i64 p.dy, .int .i64 p.de, .int .i64 p.wd, .int .i64 p.po, .int .i64 p.pe] 118)).cell? ⟨w.heap.size + 1, 4, none⟩ = some (.int .i64 p.po) := by rw [World.cell?_alloc_at _ _ _ _ (by simp)]; rfl
  have t5 : ((w.alloc (.cells #[.slice D dn dc, .slice M mn mc, .slice Y yn yc] 79)).alloc (.cells #[.int .i64 p.mo, .int .i64 p.dy, .int .i64 p.de, .int .i64 p.wd, .int .i64 p.po, .int .i64 p.pe] 118)).cell? ⟨w.heap.size + 1, 5, none⟩ = some (.int .i64 p.pe) := by rw [World.cell?_alloc_at _ _ _ _ (by simp)]; rfl
  have HL := hide (h.keep HBX.out)
  clear h
  cases h1 : emptyOr (moFit p) ys
  · have e := hide (show admB p ds ms ys = false by unfold admB; simp only [h1]; rfl)
    have H1 := hide h1
    clear h1
    go_enter Try.func93, Try.ntmps93
    go_wp2_with fail
    refine (ans_is (empMo_any p Y yn yc ys _ HL.out.y HL.out.yn HL.out.yl) H1.out).mono ?_
    rintro e w1 ⟨rfl, hb1⟩
    replace HBX := hide (andthen HBX.out hb1)
    clear hb1 s0 s1 s2 t0 t1 t2 t3 t4 t5
    go_wp2_with fail
    go_ret
    exact ⟨ret_bool (by rw [e.out]), HBX.out⟩
  · cases h2 : emptyOr (mdFit p) ms
    · have e := hide (show admB p ds ms ys = false by unfold admB; simp only [h1, h2]; rfl)
      have H1 := hide h1
      have H2 := hide h2
      clear h1 h2
      go_enter Try.func93, Try.ntmps93
      go_wp2_with fail
      refine (ans_is (empMo_any p Y yn yc ys _ HL.out.y HL.out.yn HL.out.yl) H1.out).mono ?_
      rintro e w1 ⟨rfl, hb1⟩
      replace HBX := hide (andthen HBX.out hb1)
      replace HL := hide (HL.out.keep hb1)
      replace s0 := cell_keep hb1 s0
      replace s1 := cell_keep hb1 s1
      replace s2 := cell_keep hb1 s2
      replace t0 := cell_keep hb1 t0
      replace t1 := cell_keep hb1 t1
      replace t2 := cell_keep hb1 t2
      replace t3 := cell_keep hb1 t3
      replace t4 := cell_keep hb1 t4
      replace t5 := cell_keep hb1 t5
      clear hb1
      go_wp2_with fail
      refine (ans_is (empMd_any p M mn mc ms _ HL.out.m HL.out.mn HL.out.ml) H2.out).mono ?_
      rintro e w1 ⟨rfl, hb1⟩
      replace HBX := hide (andthen HBX.out hb1)
      clear hb1 s0 s1 s2 t0 t1 t2 t3 t4 t5
      go_wp2_with fail
      go_ret
      exact ⟨ret_bool (by rw [e.out]), HBX.out⟩
    · have e := hide (show admB p ds ms ys = emptyOr (wdFit p) ds by unfold admB; simp only [h1, h2]; rfl)
      have H1 := hide h1
      have H2 := hide h2
      clear h1 h2
      go_enter Try.func93, Try.ntmps93
      go_wp2_with fail
      refine (ans_is (empMo_any p Y yn yc ys _ HL.out.y HL.out.yn HL.out.yl) H1.out).mono ?_
      rintro e w1 ⟨rfl, hb1⟩
      replace HBX := hide (andthen HBX.out hb1)
      replace HL := hide (HL.out.keep hb1)
      replace s0 := cell_keep hb1 s0
      replace s1 := cell_keep hb1 s1
      replace s2 := cell_keep hb1 s2
      replace t0 := cell_keep hb1 t0
      replace t1 := cell_keep hb1 t1
      replace t2 := cell_keep hb1 t2
      replace t3 := cell_keep hb1 t3
      replace t4 := cell_keep hb1 t4
      replace t5 := cell_keep hb1 t5
      clear hb1
      go_wp2_with fail
      refine (ans_is (empMd_any p M mn mc ms _ HL.out.m HL.out.mn HL.out.ml) H2.out).mono ?_
      rintro e w1 ⟨rfl, hb1⟩
      replace HBX := hide (andthen HBX.out hb1)
      replace HL := hide (HL.out.keep hb1)
      replace s0 := cell_keep hb1 s0
      replace s1 := cell_keep hb1 s1
      replace s2 := cell_keep hb1 s2
      replace t0 := cell_keep hb1 t0
      replace t1 := cell_keep hb1 t1
      replace t2 := cell_keep hb1 t2
      replace t3 := cell_keep hb1 t3
      replace t4 := cell_keep hb1 t4
      replace t5 := cell_keep hb1 t5
      clear hb1
      go_wp2_with fail
      refine (empWd_any p D dn dc ds _ HL.out.d HL.out.dn HL.out.dl).mono ?_
      rintro e w1 ⟨rfl, hb1⟩
      replace HBX := hide (andthen HBX.out hb1)
      clear hb1 s0 s1 s2 t0 t1 t2 t3 t4 t5
      go_wp2_with fail
      go_ret
      exact ⟨ret_bool (by rw [e.out]), HBX.out⟩

theorem placeOf_is (n : Int) (p : P) (w : World) (h1 : 0 ≤ n) (h2 : n < 36525) (h : placeOf n = p) :
    Calls Try.prog 92 #[.int .i64 n] w (Ans w (.tuple #[pv p, .bool true])) := by subst h; exact placeOf_yes n w h1 h2
theorem dayB_no (n : Int) (h : dayB n = false) : n < 0 ∨ 36525 ≤ n := by unfold dayB at h; rw [decide_eq_false_iff_not] at h; omega
theorem dayB_yes (n : Int) (h : dayB n = true) : 0 ≤ n ∧ n < 36525 := by unfold dayB at h; rwa [decide_eq_true_eq] at h
set_option maxHeartbeats 2000000 in
theorem fits_any (fr ev ct un : Int) (D M Y : Option Addr) (dn dc mn mc yn yc : Nat) (ds : List Wd) (ms ys : List Int) (day : Int) (w : World) (h : Lies w D dn M mn Y yn ds ms ys) :
    Calls Try.prog 84 #[.agg #[.int .i64 fr, .int .i64 ev, .int .i64 ct, .int .i64 un, .slice D dn dc, .slice M mn mc, .slice Y yn yc], .int .i64 day] w (Ans w (.bool (fitsB ⟨fr, ev, ct, un, ds, ms, ys⟩ day))) := by
  have HBX := hide (more (start w) (.cells #[.int .i64 fr, .int .i64 ev, .int .i64 ct, .int .i64 un, .slice D dn dc, .slice M mn mc, .slice Y yn yc] 25))
  have HL := hide (h.keep HBX.out)
  clear h
  cases h1 : dayB day
  · have e := hide (show fitsB ⟨fr, ev, ct, un, ds, ms, ys⟩ day = false by unfold fitsB; rw [h1]; rfl)
    have H1 := hide (dayB_no day h1)
    clear h1 HL
    go_enter Try.func84, Try.ntmps84
    go_wp2_with fail
    refine (partsOf_any fr ev ct un D M Y dn dc mn mc yn yc _).mono ?_
    rintro e w1 ⟨rfl, hb1⟩
    replace HBX := hide (andthen HBX.out hb1)
    clear hb1
    go_wp2_with fail
    replace HBX := hide (more HBX.out (.cells #[.int .i64 fr, .int .i64 ev, .int .i64 ct, .int .i64 un, .slice D dn dc, .slice M mn mc, .slice Y yn yc] 81))
    generalize w1.alloc (.cells #[.int .i64 fr, .int .i64 ev, .int .i64 ct, .int .i64 un, .slice D dn dc, .slice M mn mc, .slice Y yn yc] 81) = W at *
    generalize w1.heap.size = X at *
    refine (placeOf_no day _ H1.out).mono ?_
    rintro e w2 ⟨rfl, hb2⟩
    replace HBX := hide (more (andthen HBX.out hb2) (.cells #[.int .i64 0, .int .i64 0, .int .i64 0, .int .i64 0, .int .i64 0, .int .i64 0] 118))
    clear hb2
    go_wp2_with fail
    go_ret
    exact ⟨ret_bool (by rw [e.out]), HBX.out⟩
  · obtain ⟨p, hp⟩ : ∃ p, placeOf day = p := ⟨_, rfl⟩
    have HP := hide hp
    have hd := dayB_yes day h1
    clear hp
    cases h2 : recB ⟨fr, ev, ct, un, ds, ms, ys⟩
    · have e := hide (show fitsB ⟨fr, ev, ct, un, ds, ms, ys⟩ day = false by unfold fitsB; rw [h1, HP.out, h2]; rfl)
      have H2 := hide h2
      clear h1 h2
      go_enter Try.func84, Try.ntmps84
      go_wp2_with fail
      refine (partsOf_any fr ev ct un D M Y dn dc mn mc yn yc _).mono ?_
      rintro e w1 ⟨rfl, hb1⟩
      replace HBX := hide (andthen HBX.out hb1)
      replace HL := hide (HL.out.keep hb1)
      clear hb1
      go_wp2_with fail
      replace HBX := hide (more HBX.out (.cells #[.int .i64 fr, .int .i64 ev, .int .i64 ct, .int .i64 un, .slice D dn dc, .slice M mn mc, .slice Y yn yc] 81))
      have s0 : (w1.alloc (.cells #[.int .i64 fr, .int .i64 ev, .int .i64 ct, .int .i64 un, .slice D dn dc, .slice M mn mc, .slice Y yn yc] 81)).cell? ⟨w1.heap.size, 0, none⟩ = some (.int .i64 fr) := by rw [World.cell?_alloc_at _ _ _ _ rfl]; rfl
      have s1 : (w1.alloc (.cells #[.int .i64 fr, .int .i64 ev, .int .i64 ct, .int .i64 un, .slice D dn dc, .slice M mn mc, .slice Y yn yc] 81)).cell? ⟨w1.heap.size, 1, none⟩ = some (.int .i64 ev) := by rw [World.cell?_alloc_at _ _ _ _ rfl]; rfl
      have s2 : (w1.alloc (.cells #[.int .i64 fr, .int .i64 ev, .int .i64 ct, .int .i64 un, .slice D dn dc, .slice M mn mc, .slice Y yn yc] 81)).cell? ⟨w1.heap.size, 2, none⟩ = some (.int .i64 ct) := by rw [World.cell?_alloc_at _ _ _ _ rfl]; rfl
      have s3 : (w1.alloc (.cells #[.int .i64 fr, .int .i64 ev, .int .i64 ct, .int .i64 un, .slice D dn dc, .slice M mn mc, .slice Y yn yc] 81)).cell? ⟨w1.heap.size, 3, none⟩ = some (.int .i64 un) := by rw [World.cell?_alloc_at _ _ _ _ rfl]; rfl
      have s4 : (w1.alloc (.cells #[.int .i64 fr, .int .i64 ev, .int .i64 ct, .int .i64 un, .slice D dn dc, .slice M mn mc, .slice Y yn yc] 81)).cell? ⟨w1.heap.size, 4, none⟩ = some (.slice D dn dc) := by rw [World.cell?_alloc_at _ _ _ _ rfl]; rfl
      have s5 : (w1.alloc (.cells #[.int .i64 fr, .int .i64 ev, .int .i64 ct, .int .i64 un, .slice D dn dc, .slice M mn mc, .slice Y yn yc] 81)).cell? ⟨w1.heap.size, 5, none⟩ = some (.slice M mn mc) := by rw [World.cell?_alloc_at _ _ _ _ rfl]; rfl
      have s6 : (w1.alloc (.cells #[.int .i64 fr, .int .i64 ev, .int .i64 ct, .int .i64 un, .slice D dn dc, .slice M mn mc, .slice Y yn yc] 81)).cell? ⟨w1.heap.size, 6, none⟩ = some (.slice Y yn yc) := by rw [World.cell?_alloc_at _ _ _ _ rfl]; rfl
      replace HL := hide (HL.out.keep (more (start w1) (.cells #[.int .i64 fr, .int .i64 ev, .int .i64 ct, .int .i64 un, .slice D dn dc, .slice M mn mc, .slice Y yn yc] 81)))
      generalize w1.alloc (.cells #[.int .i64 fr, .int .i64 ev, .int .i64 ct, .int .i64 un, .slice D dn dc, .slice M mn mc, .slice Y yn yc] 81) = W at *
      generalize w1.heap.size = X at *
      refine (placeOf_is day p _ hd.1 hd.2 HP.out).mono ?_
      rintro e w2 ⟨rfl, hb2⟩
      have hb3 := more hb2 (.cells #[.int .i64 p.mo, .int .i64 p.dy, .int .i64 p.de, .int .i64 p.wd, .int .i64 p.po, .int .i64 p.pe] 118)
      replace HBX := hide (andthen HBX.out hb3)
      replace HL := hide (HL.out.keep hb3)
      replace s0 := cell_keep hb3 s0
      replace s1 := cell_keep hb3 s1
      replace s2 := cell_keep hb3 s2
      replace s3 := cell_keep hb3 s3
      replace s4 := cell_keep hb3 s4
      replace s5 := cell_keep hb3 s5
      replace s6 := cell_keep hb3 s6
      have t0 : (w2.alloc (.cells #[.int .i64 p.mo, .int .i64 p.dy, .int .i64 p.de, .int .i64 p.wd, .int .i64 p.po, .int .i64 p.pe] 118)).cell? ⟨w2.heap.size, 0, none⟩ = some (.int .i64 p.mo) := by rw [World.cell?_alloc_at _ _ _ _ rfl]; rfl
      have t1 : (w2.alloc (.cells #[.int .i64 p.mo, .int .i64 p.dy, .int .i64 p.de, .int .i64 p.wd, .int .i64 p.po, .int .i64 p.pe] 118)).cell? ⟨w2.heap.size, 1, none⟩ = some (.int .i64 p.dy) := by rw [World.cell?_alloc_at _ _ _ _ rfl]; rfl
      have t2 : (w2.alloc (.cells #[.int .i64 p.mo, .int .i64 p.dy, .int .i64 p.de, .int .i64 p.wd, .int .i64 p.po, .int .i64 p.pe] 118)).cell? ⟨w2.heap.size, 2, none⟩ = some (.int .i64 p.de) := by rw [World.cell?_alloc_at _ _ _ _ rfl]; rfl
      have t3 : (w2.alloc (.cells #[.int .i64 p.mo, .int .i64 p.dy, .int .i64 p.de, .int .i64 p.wd, .int .i64 p.po, .int .i64 p.pe] 118)).cell? ⟨w2.heap.size, 3, none⟩ = some (.int .i64 p.wd) := by rw [World.cell?_alloc_at _ _ _ _ rfl]; rfl
      have t4 : (w2.alloc (.cells #[.int .i64 p.mo, .int .i64 p.dy, .int .i64 p.de, .int .i64 p.wd, .int .i64 p.po, .int .i64 p.pe] 118)).cell? ⟨w2.heap.size, 4, none⟩ = some (.int .i64 p.po) := by rw [World.cell?_alloc_at _ _ _ _ rfl]; rfl
      have t5 : (w2.alloc (.cells #[.int .i64 p.mo, .int .i64 p.dy, .int .i64 p.de, .int .i64 p.wd, .int .i64 p.po, .int .i64 p.pe] 118)).cell? ⟨w2.heap.size, 5, none⟩ = some (.int .i64 p.pe) := by rw [World.cell?_alloc_at _ _ _ _ rfl]; rfl
      clear hb2 hb3
      go_wp2_with fail
      refine (ans_is (recurs_any fr ev ct un D M Y dn dc mn mc yn yc ds ms ys _ HL.out) H2.out).mono ?_
      rintro e w3 ⟨rfl, hb3⟩
      replace HBX := hide (andthen HBX.out hb3)
      clear hb3
      go_wp2_with fail
      go_ret
      exact ⟨ret_bool (by rw [e.out]), HBX.out⟩
    · have e := hide (show fitsB ⟨fr, ev, ct, un, ds, ms, ys⟩ day = admB p ds ms ys by unfold fitsB; rw [h1, HP.out, h2]; rfl)
      have H2 := hide h2
      clear h1 h2
      go_enter Try.func84, Try.ntmps84
      go_wp2_with fail
      refine (partsOf_any fr ev ct un D M Y dn dc mn mc yn yc _).mono ?_
      rintro e w1 ⟨rfl, hb1⟩
      replace HBX := hide (andthen HBX.out hb1)
      replace HL := hide (HL.out.keep hb1)
      clear hb1
      go_wp2_with fail
      replace HBX := hide (more HBX.out (.cells #[.int .i64 fr, .int .i64 ev, .int .i64 ct, .int .i64 un, .slice D dn dc, .slice M mn mc, .slice Y yn yc] 81))
      have s0 : (w1.alloc (.cells #[.int .i64 fr, .int .i64 ev, .int .i64 ct, .int .i64 un, .slice D dn dc, .slice M mn mc, .slice Y yn yc] 81)).cell? ⟨w1.heap.size, 0, none⟩ = some (.int .i64 fr) := by rw [World.cell?_alloc_at _ _ _ _ rfl]; rfl
      have s1 : (w1.alloc (.cells #[.int .i64 fr, .int .i64 ev, .int .i64 ct, .int .i64 un, .slice D dn dc, .slice M mn mc, .slice Y yn yc] 81)).cell? ⟨w1.heap.size, 1, none⟩ = some (.int .i64 ev) := by rw [World.cell?_alloc_at _ _ _ _ rfl]; rfl
      have s2 : (w1.alloc (.cells #[.int .i64 fr, .int .i64 ev, .int .i64 ct, .int .i64 un, .slice D dn dc, .slice M mn mc, .slice Y yn yc] 81)).cell? ⟨w1.heap.size, 2, none⟩ = some (.int .i64 ct) := by rw [World.cell?_alloc_at _ _ _ _ rfl]; rfl
      have s3 : (w1.alloc (.cells #[.int .i64 fr, .int .i64 ev, .int .i64 ct, .int .i64 un, .slice D dn dc, .slice M mn mc, .slice Y yn yc] 81)).cell? ⟨w1.heap.size, 3, none⟩ = some (.int .i64 un) := by rw [World.cell?_alloc_at _ _ _ _ rfl]; rfl
      have s4 : (w1.alloc (.cells #[.int .i64 fr, .int .i64 ev, .int .i64 ct, .int .i64 un, .slice D dn dc, .slice M mn mc, .slice Y yn yc] 81)).cell? ⟨w1.heap.size, 4, none⟩ = some (.slice D dn dc) := by rw [World.cell?_alloc_at _ _ _ _ rfl]; rfl
      have s5 : (w1.alloc (.cells #[.int .i64 fr, .int .i64 ev, .int .i64 ct, .int .i64 un, .slice D dn dc, .slice M mn mc, .slice Y yn yc] 81)).cell? ⟨w1.heap.size, 5, none⟩ = some (.slice M mn mc) := by rw [World.cell?_alloc_at _ _ _ _ rfl]; rfl
      have s6 : (w1.alloc (.cells #[.int .i64 fr, .int .i64 ev, .int .i64 ct, .int .i64 un, .slice D dn dc, .slice M mn mc, .slice Y yn yc] 81)).cell? ⟨w1.heap.size, 6, none⟩ = some (.slice Y yn yc) := by rw [World.cell?_alloc_at _ _ _ _ rfl]; rfl
      replace HL := hide (HL.out.keep (more (start w1) (.cells #[.int .i64 fr, .int .i64 ev, .int .i64 ct, .int .i64 un, .slice D dn dc, .slice M mn mc, .slice Y yn yc] 81)))
      generalize w1.alloc (.cells #[.int .i64 fr, .int .i64 ev, .int .i64 ct, .int .i64 un, .slice D dn dc, .slice M mn mc, .slice Y yn yc] 81) = W at *
      generalize w1.heap.size = X at *
      refine (placeOf_is day p _ hd.1 hd.2 HP.out).mono ?_
      rintro e w2 ⟨rfl, hb2⟩
      have hb3 := more hb2 (.cells #[.int .i64 p.mo, .int .i64 p.dy, .int .i64 p.de, .int .i64 p.wd, .int .i64 p.po, .int .i64 p.pe] 118)
      replace HBX := hide (andthen HBX.out hb3)
      replace HL := hide (HL.out.keep hb3)
      replace s0 := cell_keep hb3 s0
      replace s1 := cell_keep hb3 s1
      replace s2 := cell_keep hb3 s2
      replace s3 := cell_keep hb3 s3
      replace s4 := cell_keep hb3 s4
      replace s5 := cell_keep hb3 s5
      replace s6 := cell_keep hb3 s6
      have t0 : (w2.alloc (.cells #[.int .i64 p.mo, .int .i64 p.dy, .int .i64 p.de, .int .i64 p.wd, .int .i64 p.po, .int .i64 p.pe] 118)).cell? ⟨w2.heap.size, 0, none⟩ = some (.int .i64 p.mo) := by rw [World.cell?_alloc_at _ _ _ _ rfl]; rfl
      have t1 : (w2.alloc (.cells #[.int .i64 p.mo, .int .i64 p.dy, .int .i64 p.de, .int .i64 p.wd, .int .i64 p.po, .int .i64 p.pe] 118)).cell? ⟨w2.heap.size, 1, none⟩ = some (.int .i64 p.dy) := by rw [World.cell?_alloc_at _ _ _ _ rfl]; rfl
      have t2 : (w2.alloc (.cells #[.int .i64 p.mo, .int .i64 p.dy, .int .i64 p.de, .int .i64 p.wd, .int .i64 p.po, .int .i64 p.pe] 118)).cell? ⟨w2.heap.size, 2, none⟩ = some (.int .i64 p.de) := by rw [World.cell?_alloc_at _ _ _ _ rfl]; rfl
      have t3 : (w2.alloc (.cells #[.int .i64 p.mo, .int .i64 p.dy, .int .i64 p.de, .int .i64 p.wd, .int .i64 p.po, .int .i64 p.pe] 118)).cell? ⟨w2.heap.size, 3, none⟩ = some (.int .i64 p.wd) := by rw [World.cell?_alloc_at _ _ _ _ rfl]; rfl
      have t4 : (w2.alloc (.cells #[.int .i64 p.mo, .int .i64 p.dy, .int .i64 p.de, .int .i64 p.wd, .int .i64 p.po, .int .i64 p.pe] 118)).cell? ⟨w2.heap.size, 4, none⟩ = some (.int .i64 p.po) := by rw [World.cell?_alloc_at _ _ _ _ rfl]; rfl
      have t5 : (w2.alloc (.cells #[.int .i64 p.mo, .int .i64 p.dy, .int .i64 p.de, .int .i64 p.wd, .int .i64 p.po, .int .i64 p.pe] 118)).cell? ⟨w2.heap.size, 5, none⟩ = some (.int .i64 p.pe) := by rw [World.cell?_alloc_at _ _ _ _ rfl]; rfl
      clear hb2 hb3
      go_wp2_with fail
      refine (ans_is (recurs_any fr ev ct un D M Y dn dc mn mc yn yc ds ms ys _ HL.out) H2.out).mono ?_
      rintro e w3 ⟨rfl, hb3⟩
      replace HBX := hide (andthen HBX.out hb3)
      replace HL := hide (HL.out.keep hb3)
      replace s0 := cell_keep hb3 s0
      replace s1 := cell_keep hb3 s1
      replace s2 := cell_keep hb3 s2
      replace s3 := cell_keep hb3 s3
      replace s4 := cell_keep hb3 s4
      replace s5 := cell_keep hb3 s5
      replace s6 := cell_keep hb3 s6
      replace t0 := cell_keep hb3 t0
      replace t1 := cell_keep hb3 t1
      replace t2 := cell_keep hb3 t2
      replace t3 := cell_keep hb3 t3
      replace t4 := cell_keep hb3 t4
      replace t5 := cell_keep hb3 t5
      clear hb3
      go_wp2_with fail
      refine (admit_any p D M Y dn dc mn mc yn yc ds ms ys _ HL.out).mono ?_
      rintro e w4 ⟨rfl, hb4⟩
      replace HBX := hide (andthen HBX.out hb4)
      clear hb4
      go_wp2_with fail
      go_ret
      exact ⟨ret_bool (by rw [e.out]), HBX.out⟩

end Go.Proofs.Ytdmplojfidkipaa

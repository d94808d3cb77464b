/- ClaimEvents. Written by recipes/cl7.py. -/
import Derived.Test.YtgihekokbgggcaaGreatZClQ
import Derived.Test.YtgihekokbgggcaaGreatZClEvM
import Derived.Test.YtgihekokbgggcaaGreatZClOf
namespace Go.Proofs.YtgihekokbgggcaaGreat.S2
open Go.RowKit Spn Cl

set_option maxRecDepth 100000 in
set_option maxHeartbeats 2000000 in
theorem ev12_few (U T : ByteArray) (s l : Int) (O : Option Addr) (on oc : Nat) (fr ev ct un : Int) (D M Y X : Option Addr) (dn dc mn mc yn yc xn xc : Nat) (w : World) (hf : fewEB dn mn yn U.size T.size on xn = false) :
    Calls Tryz.prog 6 #[.agg #[.string U, .string T, .int .i64 s, .int .i64 l, .slice O on oc, .int .i64 fr, .int .i64 ev, .int .i64 ct, .int .i64 un, .slice D dn dc, .slice M mn mc, .slice Y yn yc, .slice X xn xc]] w fun e w' => e = .returned (.bool true) ∧ Below w.heap.size w w' := by
  have HF := hide hf
  have HBX := hide (more (start w) (.cells #[.string U, .string T, .int .i64 s, .int .i64 l, .slice O on oc, .int .i64 fr, .int .i64 ev, .int .i64 ct, .int .i64 un, .slice D dn dc, .slice M mn mc, .slice Y yn yc, .slice X xn xc] 41))
  have a0 : (w.alloc (.cells #[.string U, .string T, .int .i64 s, .int .i64 l, .slice O on oc, .int .i64 fr, .int .i64 ev, .int .i64 ct, .int .i64 un, .slice D dn dc, .slice M mn mc, .slice Y yn yc, .slice X xn xc] 41)).cell? ⟨w.heap.size, 0, none⟩ = some (.string U) := cell_new w #[.string U, .string T, .int .i64 s, .int .i64 l, .slice O on oc, .int .i64 fr, .int .i64 ev, .int .i64 ct, .int .i64 un, .slice D dn dc, .slice M mn mc, .slice Y yn yc, .slice X xn xc] 41 0 _ rfl
  have a1 : (w.alloc (.cells #[.string U, .string T, .int .i64 s, .int .i64 l, .slice O on oc, .int .i64 fr, .int .i64 ev, .int .i64 ct, .int .i64 un, .slice D dn dc, .slice M mn mc, .slice Y yn yc, .slice X xn xc] 41)).cell? ⟨w.heap.size, 1, none⟩ = some (.string T) := cell_new w #[.string U, .string T, .int .i64 s, .int .i64 l, .slice O on oc, .int .i64 fr, .int .i64 ev, .int .i64 ct, .int .i64 un, .slice D dn dc, .slice M mn mc, .slice Y yn yc, .slice X xn xc] 41 1 _ rfl
  have a2 : (w.alloc (.cells #[.string U, .string T, .int .i64 s, .int .i64 l, .slice O on oc, .int .i64 fr, .int .i64 ev, .int .i64 ct, .int .i64 un, .slice D dn dc, .slice M mn mc, .slice Y yn yc, .slice X xn xc] 41)).cell? ⟨w.heap.size, 2, none⟩ = some (.int .i64 s) := cell_new w #[.string U, .string T, .int .i64 s, .int .i64 l, .slice O on oc, .int .i64 fr, .int .i64 ev, .int .i64 ct, .int .i64 un, .slice D dn dc, .slice M mn mc, .slice Y yn yc, .slice X xn xc] 41 2 _ rfl
  have a3 : (w.alloc (.cells #[.string U, .string T, .int .i64 s, .int .i64 l, .slice O on oc, .int .i64 fr, .int .i64 ev, .int .i64 ct, .int .i64 un, .slice D dn dc, .slice M mn mc, .slice Y yn yc, .slice X xn xc] 41)).cell? ⟨w.heap.size, 3, none⟩ = some (.int .i64 l) := cell_new w #[.string U, .string T, .int .i64 s, .int .i64 l, .slice O on oc, .int .i64 fr, .int .i64 ev, .int .i64 ct, .int .i64 un, .slice D dn dc, .slice M mn mc, .slice Y yn yc, .slice X xn xc] 41 3 _ rfl
  have a4 : (w.alloc (.cells #[.string U, .string T, .int .i64 s, .int .i64 l, .slice O on oc, .int .i64 fr, .int .i64 ev, .int .i64 ct, .int .i64 un, .slice D dn dc, .slice M mn mc, .slice Y yn yc, .slice X xn xc] 41)).cell? ⟨w.heap.size, 4, none⟩ = some (.slice O on oc) := cell_new w #[.string U, .string T, .int .i64 s, .int .i64 l, .slice O on oc, .int .i64 fr, .int .i64 ev, .int .i64 ct, .int .i64 un, .slice D dn dc, .slice M mn mc, .slice Y yn yc, .slice X xn xc] 41 4 _ rfl
  have a5 : (w.alloc (.cells #[.string U, .string T, .int .i64 s, .int .i64 l, .slice O on oc, .int .i64 fr, .int .i64 ev, .int .i64 ct, .int .i64 un, .slice D dn dc, .slice M mn mc, .slice Y yn yc, .slice X xn xc] 41)).cell? ⟨w.heap.size, 5, none⟩ = some (.int .i64 fr) := cell_new w #[.string U, .string T, .int .i64 s, .int .i64 l, .slice O on oc, .int .i64 fr, .int .i64 ev, .int .i64 ct, .int .i64 un, .slice D dn dc, .slice M mn mc, .slice Y yn yc, .slice X xn xc] 41 5 _ rfl
  have a6 : (w.alloc (.cells #[.string U, .string T, .int .i64 s, .int .i64 l, .slice O on oc, .int .i64 fr, .int .i64 ev, .int .i64 ct, .int .i64 un, .slice D dn dc, .slice M mn mc, .slice Y yn yc, .slice X xn xc] 41)).cell? ⟨w.heap.size, 6, none⟩ = some (.int .i64 ev) := cell_new w #[.string U, .string T, .int .i64 s, .int .i64 l, .slice O on oc, .int .i64 fr, .int .i64 ev, .int .i64 ct, .int .i64 un, .slice D dn dc, .slice M mn mc, .slice Y yn yc, .slice X xn xc] 41 6 _ rfl
  have a7 : (w.alloc (.cells #[.string U, .string T, .int .i64 s, .int .i64 l, .slice O on oc, .int .i64 fr, .int .i64 ev, .int .i64 ct, .int .i64 un, .slice D dn dc, .slice M mn mc, .slice Y yn yc, .slice X xn xc] 41)).cell? ⟨w.heap.size, 7, none⟩ = some (.int .i64 ct) := cell_new w #[.string U, .string T, .int .i64 s, .int .i64 l, .slice O on oc, .int .i64 fr, .int .i64 ev, .int .i64 ct, .int .i64 un, .slice D dn dc, .slice M mn mc, .slice Y yn yc, .slice X xn xc] 41 7 _ rfl
  have a8 : (w.alloc (.cells #[.string U, .string T, .int .i64 s, .int .i64 l, .slice O on oc, .int .i64 fr, .int .i64 ev, .int .i64 ct, .int .i64 un, .slice D dn dc, .slice M mn mc, .slice Y yn yc, .slice X xn xc] 41)).cell? ⟨w.heap.size, 8, none⟩ = some (.int .i64 un) := cell_new w #[.string U, .string T, .int .i64 s, .int .i64 l, .slice O on oc, .int .i64 fr, .int .i64 ev, .int .i64 ct, .int .i64 un, .slice D dn dc, .slice M mn mc, .slice Y yn yc, .slice X xn xc] 41 8 _ rfl
  have a9 : (w.alloc (.cells #[.string U, .string T, .int .i64 s, .int .i64 l, .slice O on oc, .int .i64 fr, .int .i64 ev, .int .i64 ct, .int .i64 un, .slice D dn dc, .slice M mn mc, .slice Y yn yc, .slice X xn xc] 41)).cell? ⟨w.heap.size, 9, none⟩ = some (.slice D dn dc) := cell_new w #[.string U, .string T, .int .i64 s, .int .i64 l, .slice O on oc, .int .i64 fr, .int .i64 ev, .int .i64 ct, .int .i64 un, .slice D dn dc, .slice M mn mc, .slice Y yn yc, .slice X xn xc] 41 9 _ rfl
  have a10 : (w.alloc (.cells #[.string U, .string T, .int .i64 s, .int .i64 l, .slice O on oc, .int .i64 fr, .int .i64 ev, .int .i64 ct, .int .i64 un, .slice D dn dc, .slice M mn mc, .slice Y yn yc, .slice X xn xc] 41)).cell? ⟨w.heap.size, 10, none⟩ = some (.slice M mn mc) := cell_new w #[.string U, .string T, .int .i64 s, .int .i64 l, .slice O on oc, .int .i64 fr, .int .i64 ev, .int .i64 ct, .int .i64 un, .slice D dn dc, .slice M mn mc, .slice Y yn yc, .slice X xn xc] 41 10 _ rfl
  have a11 : (w.alloc (.cells #[.string U, .string T, .int .i64 s, .int .i64 l, .slice O on oc, .int .i64 fr, .int .i64 ev, .int .i64 ct, .int .i64 un, .slice D dn dc, .slice M mn mc, .slice Y yn yc, .slice X xn xc] 41)).cell? ⟨w.heap.size, 11, none⟩ = some (.slice Y yn yc) := cell_new w #[.string U, .string T, .int .i64 s, .int .i64 l, .slice O on oc, .int .i64 fr, .int .i64 ev, .int .i64 ct, .int .i64 un, .slice D dn dc, .slice M mn mc, .slice Y yn yc, .slice X xn xc] 41 11 _ rfl
  have a12 : (w.alloc (.cells #[.string U, .string T, .int .i64 s, .int .i64 l, .slice O on oc, .int .i64 fr, .int .i64 ev, .int .i64 ct, .int .i64 un, .slice D dn dc, .slice M mn mc, .slice Y yn yc, .slice X xn xc] 41)).cell? ⟨w.heap.size, 12, none⟩ = some (.slice X xn xc) := cell_new w #[.string U, .string T, .int .i64 s, .int .i64 l, .slice O on oc, .int .i64 fr, .int .i64 ev, .int .i64 ct, .int .i64 un, .slice D dn dc, .slice M mn mc, .slice Y yn yc, .slice X xn xc] 41 12 _ rfl
  clear hf
  go_enter Tryz.func6, Tryz.ntmps6
  go_wp2_with fail
  generalize w.alloc (.cells #[.string U, .string T, .int .i64 s, .int .i64 l, .slice O on oc, .int .i64 fr, .int .i64 ev, .int .i64 ct, .int .i64 un, .slice D dn dc, .slice M mn mc, .slice Y yn yc, .slice X xn xc] 41) = W at *
  refine (known_any _).mono ?_
  rintro _ w1 ⟨rfl, hb⟩
  replace HBX := hide (andthen HBX.out hb)
  replace a0 := cell_keep hb a0
  replace a1 := cell_keep hb a1
  replace a2 := cell_keep hb a2
  replace a3 := cell_keep hb a3
  replace a4 := cell_keep hb a4
  replace a5 := cell_keep hb a5
  replace a6 := cell_keep hb a6
  replace a7 := cell_keep hb a7
  replace a8 := cell_keep hb a8
  replace a9 := cell_keep hb a9
  replace a10 := cell_keep hb a10
  replace a11 := cell_keep hb a11
  replace a12 := cell_keep hb a12
  clear hb
  go_wp2_with fail
  refine (Go.Proofs.YtgihekokbgggcaaGreat.ans_is (fewE_any U T s l O on oc fr ev ct un D M Y X dn dc mn mc yn yc xn xc _) HF.out).mono ?_
  rintro _ w2 ⟨rfl, hb⟩
  replace HBX := hide (andthen HBX.out hb)
  clear hb a0 a1 a2 a3 a4 a5 a6 a7 a8 a9 a10 a11 a12
  go_wp2_with fail
  go_ret
  exact ⟨rfl, HBX.out⟩
set_option maxRecDepth 100000 in
set_option maxHeartbeats 8000000 in
set_option linter.unusedSimpArgs false in
theorem ev12_yes (e : Ev.E) (m : Mem) (w : World) (h : EvL w e m) (hf : fewEB e.r.ds.length e.r.ms.length e.r.ys.length (str e.uid).size (str e.text).size e.rooms.length e.ex.length = true) :
    Calls Tryz.prog 6 #[evV e m] w fun e w' => e = .returned (.bool true) ∧ Below w.heap.size w w' := by
  have HF := hide hf
  have HBX := hide (more (start w) (.cells #[.string (str e.uid), .string (str e.text), .int .i64 e.st, .int .i64 e.lg, .slice m.O e.rooms.length m.oc, .int .i64 e.r.fr, .int .i64 e.r.ev, .int .i64 e.r.ct, .int .i64 e.r.un, .slice m.D e.r.ds.length m.dc, .slice m.M e.r.ms.length m.mc, .slice m.Y e.r.ys.length m.yc, .slice m.X e.ex.length m.xc] 41))
  have HL := hide (h.keep HBX.out)
  have a0 : (w.alloc (.cells #[.string (str e.uid), .string (str e.text), .int .i64 e.st, .int .i64 e.lg, .slice m.O e.rooms.length m.oc, .int .i64 e.r.fr, .int .i64 e.r.ev, .int .i64 e.r.ct, .int .i64 e.r.un, .slice m.D e.r.ds.length m.dc, .slice m.M e.r.ms.length m.mc, .slice m.Y e.r.ys.length m.yc, .slice m.X e.ex.length m.xc] 41)).cell? ⟨w.heap.size, 0, none⟩ = some (.string (str e.uid)) := cell_new w #[.string (str e.uid), .string (str e.text), .int .i64 e.st, .int .i64 e.lg, .slice m.O e.rooms.length m.oc, .int .i64 e.r.fr, .int .i64 e.r.ev, .int .i64 e.r.ct, .int .i64 e.r.un, .slice m.D e.r.ds.length m.dc, .slice m.M e.r.ms.length m.mc, .slice m.Y e.r.ys.length m.yc, .slice m.X e.ex.length m.xc] 41 0 _ rfl
  have a1 : (w.alloc (.cells #[.string (str e.uid), .string (str e.text), .int .i64 e.st, .int .i64 e.lg, .slice m.O e.rooms.length m.oc, .int .i64 e.r.fr, .int .i64 e.r.ev, .int .i64 e.r.ct, .int .i64 e.r.un, .slice m.D e.r.ds.length m.dc, .slice m.M e.r.ms.length m.mc, .slice m.Y e.r.ys.length m.yc, .slice m.X e.ex.length m.xc] 41)).cell? ⟨w.heap.size, 1, none⟩ = some (.string (str e.text)) := cell_new w #[.string (str e.uid), .string (str e.text), .int .i64 e.st, .int .i64 e.lg, .slice m.O e.rooms.length m.oc, .int .i64 e.r.fr, .int .i64 e.r.ev, .int .i64 e.r.ct, .int .i64 e.r.un, .slice m.D e.r.ds.length m.dc, .slice m.M e.r.ms.length m.mc, .slice m.Y e.r.ys.length m.yc, .slice m.X e.ex.length m.xc] 41 1 _ rfl
  have a2 : (w.alloc (.cells #[.string (str e.uid), .string (str e.text), .int .i64 e.st, .int .i64 e.lg, .slice m.O e.rooms.length m.oc, .int .i64 e.r.fr, .int .i64 e.r.ev, .int .i64 e.r.ct, .int .i64 e.r.un, .slice m.D e.r.ds.length m.dc, .slice m.M e.r.ms.length m.mc, .slice m.Y e.r.ys.length m.yc, .slice m.X e.ex.length m.xc] 41)).cell? ⟨w.heap.size, 2, none⟩ = some (.int .i64 e.st) := cell_new w #[.string (str e.uid), .string (str e.text), .int .i64 e.st, .int .i64 e.lg, .slice m.O e.rooms.length m.oc, .int .i64 e.r.fr, .int .i64 e.r.ev, .int .i64 e.r.ct, .int .i64 e.r.un, .slice m.D e.r.ds.length m.dc, .slice m.M e.r.ms.length m.mc, .slice m.Y e.r.ys.length m.yc, .slice m.X e.ex.length m.xc] 41 2 _ rfl
  have a3 : (w.alloc (.cells #[.string (str e.uid), .string (str e.text), .int .i64 e.st, .int .i64 e.lg, .slice m.O e.rooms.length m.oc, .int .i64 e.r.fr, .int .i64 e.r.ev, .int .i64 e.r.ct, .int .i64 e.r.un, .slice m.D e.r.ds.length m.dc, .slice m.M e.r.ms.length m.mc, .slice m.Y e.r.ys.length m.yc, .slice m.X e.ex.length m.xc] 41)).cell? ⟨w.heap.size, 3, none⟩ = some (.int .i64 e.lg) := cell_new w #[.string (str e.uid), .string (str e.text), .int .i64 e.st, .int .i64 e.lg, .slice m.O e.rooms.length m.oc, .int .i64 e.r.fr, .int .i64 e.r.ev, .int .i64 e.r.ct, .int .i64 e.r.un, .slice m.D e.r.ds.length m.dc, .slice m.M e.r.ms.length m.mc, .slice m.Y e.r.ys.length m.yc, .slice m.X e.ex.length m.xc] 41 3 _ rfl
  have a4 : (w.alloc (.cells #[.string (str e.uid), .string (str e.text), .int .i64 e.st, .int .i64 e.lg, .slice m.O e.rooms.length m.oc, .int .i64 e.r.fr, .int .i64 e.r.ev, .int .i64 e.r.ct, .int .i64 e.r.un, .slice m.D e.r.ds.length m.dc, .slice m.M e.r.ms.length m.mc, .slice m.Y e.r.ys.length m.yc, .slice m.X e.ex.length m.xc] 41)).cell? ⟨w.heap.size, 4, none⟩ = some (.slice m.O e.rooms.length m.oc) := cell_new w #[.string (str e.uid), .string (str e.text), .int .i64 e.st, .int .i64 e.lg, .slice m.O e.rooms.length m.oc, .int .i64 e.r.fr, .int .i64 e.r.ev, .int .i64 e.r.ct, .int .i64 e.r.un, .slice m.D e.r.ds.length m.dc, .slice m.M e.r.ms.length m.mc, .slice m.Y e.r.ys.length m.yc, .slice m.X e.ex.length m.xc] 41 4 _ rfl
  have a5 : (w.alloc (.cells #[.string (str e.uid), .string (str e.text), .int .i64 e.st, .int .i64 e.lg, .slice m.O e.rooms.length m.oc, .int .i64 e.r.fr, .int .i64 e.r.ev, .int .i64 e.r.ct, .int .i64 e.r.un, .slice m.D e.r.ds.length m.dc, .slice m.M e.r.ms.length m.mc, .slice m.Y e.r.ys.length m.yc, .slice m.X e.ex.length m.xc] 41)).cell? ⟨w.heap.size, 5, none⟩ = some (.int .i64 e.r.fr) := cell_new w #[.string (str e.uid), .string (str e.text), .int .i64 e.st, .int .i64 e.lg, .slice m.O e.rooms.length m.oc, .int .i64 e.r.fr, .int .i64 e.r.ev, .int .i64 e.r.ct, .int .i64 e.r.un, .slice m.D e.r.ds.length m.dc, .slice m.M e.r.ms.length m.mc, .slice m.Y e.r.ys.length m.yc, .slice m.X e.ex.length m.xc] 41 5 _ rfl
  have a6 : (w.alloc (.cells #[.string (str e.uid), .string (str e.text), .int .i64 e.st, .int .i64 e.lg, .slice m.O e.rooms.length m.oc, .int .i64 e.r.fr, .int .i64 e.r.ev, .int .i64 e.r.ct, .int .i64 e.r.un, .slice m.D e.r.ds.length m.dc, .slice m.M e.r.ms.length m.mc, .slice m.Y e.r.ys.length m.yc, .slice m.X e.ex.length m.xc] 41)).cell? ⟨w.heap.size, 6, none⟩ = some (.int .i64 e.r.ev) := cell_new w #[.string (str e.uid), .string (str e.text), .int .i64 e.st, .int .i64 e.lg, .slice m.O e.rooms.length m.oc, .int .i64 e.r.fr, .int .i64 e.r.ev, .int .i64 e.r.ct, .int .i64 e.r.un, .slice m.D e.r.ds.length m.dc, .slice m.M e.r.ms.length m.mc, .slice m.Y e.r.ys.length m.yc, .slice m.X e.ex.length m.xc] 41 6 _ rfl
  have a7 : (w.alloc (.cells #[.string (str e.uid), .string (str e.text), .int .i64 e.st, .int .i64 e.lg, .slice m.O e.rooms.length m.oc, .int .i64 e.r.fr, .int .i64 e.r.ev, .int .i64 e.r.ct, .int .i64 e.r.un, .slice m.D e.r.ds.length m.dc, .slice m.M e.r.ms.length m.mc, .slice m.Y e.r.ys.length m.yc, .slice m.X e.ex.length m.xc] 41)).cell? ⟨w.heap.size, 7, none⟩ = some (.int .i64 e.r.ct) := cell_new w #[.string (str e.uid), .string (str e.text), .int .i64 e.st, .int .i64 e.lg, .slice m.O e.rooms.length m.oc, .int .i64 e.r.fr, .int .i64 e.r.ev, .int .i64 e.r.ct, .int .i64 e.r.un, .slice m.D e.r.ds.length m.dc, .slice m.M e.r.ms.length m.mc, .slice m.Y e.r.ys.length m.yc, .slice m.X e.ex.length m.xc] 41 7 _ rfl
  have a8 : (w.alloc (.cells #[.string (str e.uid), .string (str e.text), .int .i64 e.st, .int .i64 e.lg, .slice m.O e.rooms.length m.oc, .int .i64 e.r.fr, .int .i64 e.r.ev, .int .i64 e.r.ct, .int .i64 e.r.un, .slice m.D e.r.ds.length m.dc, .slice m.M e.r.ms.length m.mc, .slice m.Y e.r.ys.length m.yc, .slice m.X e.ex.length m.xc] 41)).cell? ⟨w.heap.size, 8, none⟩ = some (.int .i64 e.r.un) := cell_new w #[.string (str e.uid), .string (str e.text), .int .i64 e.st, .int .i64 e.lg, .slice m.O e.rooms.length m.oc, .int .i64 e.r.fr, .int .i64 e.r.ev, .int .i64 e.r.ct, .int .i64 e.r.un, .slice m.D e.r.ds.length m.dc, .slice m.M e.r.ms.length m.mc, .slice m.Y e.r.ys.length m.yc, .slice m.X e.ex.length m.xc] 41 8 _ rfl
  have a9 : (w.alloc (.cells #[.string (str e.uid), .string (str e.text), .int .i64 e.st, .int .i64 e.lg, .slice m.O e.rooms.length m.oc, .int .i64 e.r.fr, .int .i64 e.r.ev, .int .i64 e.r.ct, .int .i64 e.r.un, .slice m.D e.r.ds.length m.dc, .slice m.M e.r.ms.length m.mc, .slice m.Y e.r.ys.length m.yc, .slice m.X e.ex.length m.xc] 41)).cell? ⟨w.heap.size, 9, none⟩ = some (.slice m.D e.r.ds.length m.dc) := cell_new w #[.string (str e.uid), .string (str e.text), .int .i64 e.st, .int .i64 e.lg, .slice m.O e.rooms.length m.oc, .int .i64 e.r.fr, .int .i64 e.r.ev, .int .i64 e.r.ct, .int .i64 e.r.un, .slice m.D e.r.ds.length m.dc, .slice m.M e.r.ms.length m.mc, .slice m.Y e.r.ys.length m.yc, .slice m.X e.ex.length m.xc] 41 9 _ rfl
  have a10 : (w.alloc (.cells #[.string (str e.uid), .string (str e.text), .int .i64 e.st, .int .i64 e.lg, .slice m.O e.rooms.length m.oc, .int .i64 e.r.fr, .int .i64 e.r.ev, .int .i64 e.r.ct, .int .i64 e.r.un, .slice m.D e.r.ds.length m.dc, .slice m.M e.r.ms.length m.mc, .slice m.Y e.r.ys.length m.yc, .slice m.X e.ex.length m.xc] 41)).cell? ⟨w.heap.size, 10, none⟩ = some (.slice m.M e.r.ms.length m.mc) := cell_new w #[.string (str e.uid), .string (str e.text), .int .i64 e.st, .int .i64 e.lg, .slice m.O e.rooms.length m.oc, .int .i64 e.r.fr, .int .i64 e.r.ev, .int .i64 e.r.ct, .int .i64 e.r.un, .slice m.D e.r.ds.length m.dc, .slice m.M e.r.ms.length m.mc, .slice m.Y e.r.ys.length m.yc, .slice m.X e.ex.length m.xc] 41 10 _ rfl
  have a11 : (w.alloc (.cells #[.string (str e.uid), .string (str e.text), .int .i64 e.st, .int .i64 e.lg, .slice m.O e.rooms.length m.oc, .int .i64 e.r.fr, .int .i64 e.r.ev, .int .i64 e.r.ct, .int .i64 e.r.un, .slice m.D e.r.ds.length m.dc, .slice m.M e.r.ms.length m.mc, .slice m.Y e.r.ys.length m.yc, .slice m.X e.ex.length m.xc] 41)).cell? ⟨w.heap.size, 11, none⟩ = some (.slice m.Y e.r.ys.length m.yc) := cell_new w #[.string (str e.uid), .string (str e.text), .int .i64 e.st, .int .i64 e.lg, .slice m.O e.rooms.length m.oc, .int .i64 e.r.fr, .int .i64 e.r.ev, .int .i64 e.r.ct, .int .i64 e.r.un, .slice m.D e.r.ds.length m.dc, .slice m.M e.r.ms.length m.mc, .slice m.Y e.r.ys.length m.yc, .slice m.X e.ex.length m.xc] 41 11 _ rfl
  have a12 : (w.alloc (.cells #[.string (str e.uid), .string (str e.text), .int .i64 e.st, .int .i64 e.lg, .slice m.O e.rooms.length m.oc, .int .i64 e.r.fr, .int .i64 e.r.ev, .int .i64 e.r.ct, .int .i64 e.r.un, .slice m.D e.r.ds.length m.dc, .slice m.M e.r.ms.length m.mc, .slice m.Y e.r.ys.length m.yc, .slice m.X e.ex.length m.xc] 41)).cell? ⟨w.heap.size, 12, none⟩ = some (.slice m.X e.ex.length m.xc) := cell_new w #[.string (str e.uid), .string (str e.text), .int .i64 e.st, .int .i64 e.lg, .slice m.O e.rooms.length m.oc, .int .i64 e.r.fr, .int .i64 e.r.ev, .int .i64 e.r.ct, .int .i64 e.r.un, .slice m.D e.r.ds.length m.dc, .slice m.M e.r.ms.length m.mc, .slice m.Y e.r.ys.length m.yc, .slice m.X e.ex.length m.xc] 41 12 _ rfl
  clear hf h
  simp only [evV]
  go_enter Tryz.func6, Tryz.ntmps6
  go_wp2_with fail
  generalize w.alloc (.cells #[.string (str e.uid), .string (str e.text), .int .i64 e.st, .int .i64 e.lg, .slice m.O e.rooms.length m.oc, .int .i64 e.r.fr, .int .i64 e.r.ev, .int .i64 e.r.ct, .int .i64 e.r.un, .slice m.D e.r.ds.length m.dc, .slice m.M e.r.ms.length m.mc, .slice m.Y e.r.ys.length m.yc, .slice m.X e.ex.length m.xc] 41) = W at *
  refine (known_any _).mono ?_
  rintro _ w1 ⟨rfl, hb⟩
  replace HBX := hide (andthen HBX.out hb)
  replace HL := hide (HL.out.keep hb)
  replace a0 := cell_keep hb a0
  replace a1 := cell_keep hb a1
  replace a2 := cell_keep hb a2
  replace a3 := cell_keep hb a3
  replace a4 := cell_keep hb a4
  replace a5 := cell_keep hb a5
  replace a6 := cell_keep hb a6
  replace a7 := cell_keep hb a7
  replace a8 := cell_keep hb a8
  replace a9 := cell_keep hb a9
  replace a10 := cell_keep hb a10
  replace a11 := cell_keep hb a11
  replace a12 := cell_keep hb a12
  clear hb
  go_wp2_with fail
  refine (Go.Proofs.YtgihekokbgggcaaGreat.ans_is (fewE_any (str e.uid) (str e.text) e.st e.lg m.O e.rooms.length m.oc e.r.fr e.r.ev e.r.ct e.r.un m.D m.M m.Y m.X e.r.ds.length m.dc e.r.ms.length m.mc e.r.ys.length m.yc e.ex.length m.xc _) HF.out).mono ?_
  rintro _ w2 ⟨rfl, hb⟩
  replace HBX := hide (andthen HBX.out hb)
  replace HL := hide (HL.out.keep hb)
  replace a0 := cell_keep hb a0
  replace a1 := cell_keep hb a1
  replace a2 := cell_keep hb a2
  replace a3 := cell_keep hb a3
  replace a4 := cell_keep hb a4
  replace a5 := cell_keep hb a5
  replace a6 := cell_keep hb a6
  replace a7 := cell_keep hb a7
  replace a8 := cell_keep hb a8
  replace a9 := cell_keep hb a9
  replace a10 := cell_keep hb a10
  replace a11 := cell_keep hb a11
  replace a12 := cell_keep hb a12
  clear hb
  go_wp2_with fail
  refine (of_any e m _ HL.out).mono ?_
  rintro _ w3 ⟨v3, rfl, ho, hb⟩
  obtain ⟨A3, c3, rfl, hr⟩ := ho.row
  have HR3 := hide hr
  replace HBX := hide (andthen HBX.out hb)
  replace HL := hide (HL.out.keep hb)
  replace a0 := cell_keep hb a0
  replace a1 := cell_keep hb a1
  replace a2 := cell_keep hb a2
  replace a3 := cell_keep hb a3
  replace a4 := cell_keep hb a4
  replace a5 := cell_keep hb a5
  replace a6 := cell_keep hb a6
  replace a7 := cell_keep hb a7
  replace a8 := cell_keep hb a8
  replace a9 := cell_keep hb a9
  replace a10 := cell_keep hb a10
  replace a11 := cell_keep hb a11
  replace a12 := cell_keep hb a12
  clear hb ho hr
  have HN := hide (ofC_len e)
  have HNO := hide (of_no12 e)
  have HYS := hide (of_is12 e)
  generalize ofC e = OF at *
  obtain ⟨lc, z⟩ := OF
  simp only at HN HNO HYS HR3
  by_cases hz : z = 0
  · subst hz
    have HYQ := hide (fun ts h => HYS.out ts rfl h)
    clear HYS HNO
    go_wp2_with fail
    refine (Go.Proofs.YtgihekokbgggcaaGreat.R.spans_any e.r.fr e.r.ev e.r.ct e.r.un m.D m.M m.Y e.r.ds.length m.dc e.r.ms.length m.mc e.r.ys.length m.yc e.r.ds e.r.ms e.r.ys e.st e.lg m.X e.ex.length m.xc e.ex _ HL.out.r HL.out.x rfl HL.out.xl).mono ?_
    rw [show (⟨e.r.fr, e.r.ev, e.r.ct, e.r.un, e.r.ds, e.r.ms, e.r.ys⟩ : Rul.T) = e.r from rfl]
    have hyq := HYQ.out _ rfl
    generalize Rul.spansE e.r e.st e.lg e.ex = SP at *
    obtain ⟨ts, g⟩ := SP
    simp only at hyq
    obtain ⟨rfl, htm, hlg, hrl, hal⟩ := hyq
    rintro _ w5 ⟨v5, rfl, hown, hb⟩
    obtain ⟨A5, c5, rfl, hr5⟩ := Own.row hown
    have HTS := hide hr5
    replace HBX := hide (andthen HBX.out hb)
    replace HL := hide (HL.out.keep hb)
    replace HR3 := hide (HR3.out.keep hb)
    replace a3 := cell_keep hb a3
    replace a4 := cell_keep hb a4
    have HC4 := hide a4
    have HS9 := hide (And.intro (start w5) (And.intro a3 a4))
    have HOR := hide HL.out.o
    have htl := htm.len
    have hg1 := htm.g1
    have hg2 : e.lg ≤ 52596000 := by
      have h0 := List.length_pos_iff.2 htm.pos
      have h1 := htm.lg _ (List.getElem_mem h0)
      have h2 := htm.ok _ (List.getElem_mem h0)
      omega
    have hpb := prod_bd ts.length e.lg e.rooms.length htl hrl hg1 hg2
    have HAL : Hid (∀ t ∈ ts, 0 ≤ t.1 ∧ t.1 < t.2 ∧ t.2 ≤ 52596000 ∧ ∀ q ∈ e.rooms, hasB lc q t.1 = true ∧ hasB lc q (t.2 - 1) = true) := hide (fun t ht => by
      have h1 := htm.lg t ht
      have h2 := htm.ok t ht
      exact ⟨h2.1, by omega, h2.2, fun q hq => hal q hq t ht⟩)
    have HLG := hide hlg
    have hm1 : IntKind.i64.wrap ((ts.length : Int) * e.lg) = (ts.length : Int) * e.lg := by rw [IntKind.wrap_i64]; omega
    have hm2 : IntKind.i64.wrap ((ts.length : Int) * e.lg * (e.rooms.length : Int)) = (ts.length : Int) * e.lg * (e.rooms.length : Int) := by rw [IntKind.wrap_i64]; omega
    have hm3 : ((ts.length : Int) * e.lg * (e.rooms.length : Int) != (ts.length : Int) * e.lg * (e.rooms.length : Int)) = false := by simp
    have hnl := HN.out
    clear hb hown hr5 HN HYQ a0 a1 a2 a3 a4 a5 a6 a7 a8 a9 a10 a11 a12 htm hlg hal HL hpb
    go_wp2_with fail
    refine wp_region_held_drew (S := fun w' => Below w5.heap.size w5 w' ∧ w'.cell? ⟨w.heap.size, 3, none⟩ = some (.int .i64 e.lg) ∧ w'.cell? ⟨w.heap.size, 4, none⟩ = some (.slice m.O e.rooms.length m.oc)) (by kernel_rfl) ?_ (fun hH0 => ?_)
    · exact cut_keep2 (start w5).drew HS9.out
    refine' wpAnyH_take (i := 0) (oi := _) (v := ?v0) rfl (by as_aux_lemma => kernel_rfl) (by as_aux_lemma => kernel_rfl) (by as_aux_lemma => kernel_rfl) (fun _ _ _ h => h) (Or.inl ⟨by rfl, ?y0⟩) hH0 ?r0
    case y0 => (intro w hSw; (try dsimp only at hSw); go_simp; (try with_reducible rfl))
    try simp only [Act.put, List.getElem_toArray, List.getElem_cons_succ, List.getElem_cons_zero, List.setIfInBounds_toArray, List.set_cons_zero, List.set_cons_succ]
    refine' wpAnyH_take (i := 1) (oi := _) (v := ?v1) rfl (by as_aux_lemma => kernel_rfl) (by as_aux_lemma => kernel_rfl) (by as_aux_lemma => kernel_rfl) (fun _ _ _ h => h) (Or.inl ⟨by rfl, ?y1⟩) hH0 ?r1
    case y1 => (intro w hSw; (try dsimp only at hSw); go_simp; (try with_reducible rfl))
    try simp only [Act.put, List.getElem_toArray, List.getElem_cons_succ, List.getElem_cons_zero, List.setIfInBounds_toArray, List.set_cons_zero, List.set_cons_succ]
    refine' wpAnyH_take (i := 2) (oi := _) (v := ?v2) rfl (by as_aux_lemma => kernel_rfl) (by as_aux_lemma => kernel_rfl) (by as_aux_lemma => kernel_rfl) (fun _ _ _ h => h) (Or.inl ⟨by rfl, ?y2⟩) hH0 ?r2
    case y2 => (intro w hSw; (try dsimp only at hSw); go_simp; (try with_reducible rfl))
    try simp only [Act.put, List.getElem_toArray, List.getElem_cons_succ, List.getElem_cons_zero, List.setIfInBounds_toArray, List.set_cons_zero, List.set_cons_succ]
    refine' wpAnyH_take (i := 3) (oi := _) (v := ?v3) rfl (by as_aux_lemma => kernel_rfl) (by as_aux_lemma => kernel_rfl) (by as_aux_lemma => kernel_rfl) (fun _ _ _ h => h) (Or.inl ⟨by rfl, ?y3⟩) hH0 ?r3
    case y3 => (intro w hSw; (try dsimp only at hSw); go_simp; (try with_reducible rfl))
    try simp only [Act.put, List.getElem_toArray, List.getElem_cons_succ, List.getElem_cons_zero, List.setIfInBounds_toArray, List.set_cons_zero, List.set_cons_succ]
    refine' wpAnyH_take (i := 5) (oi := _) (v := ?v4) rfl (by as_aux_lemma => kernel_rfl) (by as_aux_lemma => kernel_rfl) (by as_aux_lemma => kernel_rfl) (fun _ _ _ h => h) (Or.inl ⟨by rfl, ?y4⟩) hH0 ?r4
    case y4 => (intro w hSw; (try dsimp only at hSw); go_simp; (try with_reducible rfl))
    try simp only [Act.put, List.getElem_toArray, List.getElem_cons_succ, List.getElem_cons_zero, List.setIfInBounds_toArray, List.set_cons_zero, List.set_cons_succ]
    refine' wpAnyH_take (i := 6) (oi := _) (v := ?v5) rfl (by as_aux_lemma => kernel_rfl) (by as_aux_lemma => kernel_rfl) (by as_aux_lemma => kernel_rfl) (fun _ _ _ h => h) (Or.inl ⟨by rfl, ?y5⟩) hH0 ?r5
    case y5 => (intro w hSw; (try dsimp only at hSw); go_simp; (try with_reducible rfl))
    try simp only [Act.put, List.getElem_toArray, List.getElem_cons_succ, List.getElem_cons_zero, List.setIfInBounds_toArray, List.set_cons_zero, List.set_cons_succ]
    refine' wpAnyH_take (i := 7) (oi := _) (v := ?v6) rfl (by as_aux_lemma => kernel_rfl) (by as_aux_lemma => kernel_rfl) (by as_aux_lemma => kernel_rfl) (fun _ _ _ h => h) (Or.inl ⟨by rfl, ?y6⟩) hH0 ?r6
    case y6 => (intro w hSw; (try dsimp only at hSw); go_simp; (try with_reducible rfl))
    try simp only [Act.put, List.getElem_toArray, List.getElem_cons_succ, List.getElem_cons_zero, List.setIfInBounds_toArray, List.set_cons_zero, List.set_cons_succ]
    refine' wpAnyH_take (i := 8) (oi := _) (v := ?v7) rfl (by as_aux_lemma => kernel_rfl) (by as_aux_lemma => kernel_rfl) (by as_aux_lemma => kernel_rfl) (fun _ _ _ h => h) (Or.inl ⟨by rfl, ?y7⟩) hH0 ?r7
    case y7 => (intro w hSw; (try dsimp only at hSw); go_simp; (try with_reducible rfl))
    try simp only [Act.put, List.getElem_toArray, List.getElem_cons_succ, List.getElem_cons_zero, List.setIfInBounds_toArray, List.set_cons_zero, List.set_cons_succ]
    refine' wpAnyH_take (i := 9) (oi := _) (v := ?v8) rfl (by as_aux_lemma => kernel_rfl) (by as_aux_lemma => kernel_rfl) (by as_aux_lemma => kernel_rfl) (fun _ _ _ h => h) (Or.inl ⟨by rfl, ?y8⟩) hH0 ?r8
    case y8 => (intro w hSw; (try dsimp only at hSw); go_simp; (try with_reducible rfl))
    try simp only [Act.put, List.getElem_toArray, List.getElem_cons_succ, List.getElem_cons_zero, List.setIfInBounds_toArray, List.set_cons_zero, List.set_cons_succ]
    refine' wpAnyH_take (i := 10) (oi := _) (v := ?v9) rfl (by as_aux_lemma => kernel_rfl) (by as_aux_lemma => kernel_rfl) (by as_aux_lemma => kernel_rfl) (fun _ _ _ h => h) (Or.inl ⟨by rfl, ?y9⟩) hH0 ?r9
    case y9 => (intro w hSw; (try dsimp only at hSw); go_simp; (try with_reducible rfl))
    try simp only [Act.put, List.getElem_toArray, List.getElem_cons_succ, List.getElem_cons_zero, List.setIfInBounds_toArray, List.set_cons_zero, List.set_cons_succ]
    refine' wpAnyH_take (i := 11) (oi := _) (v := ?v10) rfl (by as_aux_lemma => kernel_rfl) (by as_aux_lemma => kernel_rfl) (by as_aux_lemma => kernel_rfl) (fun _ _ _ h => h) (Or.inl ⟨by rfl, ?y10⟩) hH0 ?r10
    case y10 => (intro w hSw; (try dsimp only at hSw); go_simp; (try with_reducible rfl))
    try simp only [Act.put, List.getElem_toArray, List.getElem_cons_succ, List.getElem_cons_zero, List.setIfInBounds_toArray, List.set_cons_zero, List.set_cons_succ]
    refine' wpAnyH_take (i := 12) (oi := _) (v := ?v11) rfl (by as_aux_lemma => kernel_rfl) (by as_aux_lemma => kernel_rfl) (by as_aux_lemma => kernel_rfl) (fun _ _ _ h => h) (Or.inl ⟨by rfl, ?y11⟩) hH0 ?r11
    case y11 => (intro w hSw; (try dsimp only at hSw); go_simp; (try with_reducible rfl))
    try simp only [Act.put, List.getElem_toArray, List.getElem_cons_succ, List.getElem_cons_zero, List.setIfInBounds_toArray, List.set_cons_zero, List.set_cons_succ]
    refine' wpAnyH_take (i := 13) (oi := _) (v := ?v12) rfl (by as_aux_lemma => kernel_rfl) (by as_aux_lemma => kernel_rfl) (by as_aux_lemma => kernel_rfl) (fun _ _ _ h => h) (Or.inl ⟨by rfl, ?y12⟩) hH0 ?r12
    case y12 => (intro w hSw; (try dsimp only at hSw); go_simp; (try with_reducible rfl))
    try simp only [Act.put, List.getElem_toArray, List.getElem_cons_succ, List.getElem_cons_zero, List.setIfInBounds_toArray, List.set_cons_zero, List.set_cons_succ]
    refine wpAnyH_ready (rs := [4]) (by as_aux_lemma => kernel_rfl) (by simp) ?_
    refine AllReadyH.cons (o := _) rfl (fun K hK => ?_) AllReadyH.nil
    go_simp
    refine (Long_any A3 _ c3 lc _ (HR3.out.keep hH0.1) rfl (by omega)).mono ?_
    rw [HLG.out]
    rintro _ wz ⟨rfl, hb⟩
    refine hK.out _ _ (cut_keep2 hb hH0) (fun hN => ?_)
    clear hK K hH0
    have hH1 := hN
    clear hN
    try simp only [Act.put, List.getElem_toArray, List.getElem_cons_succ, List.getElem_cons_zero, List.setIfInBounds_toArray, List.set_cons_zero, List.set_cons_succ]
    refine' wpAnyH_take (i := 14) (oi := _) (v := ?v13) rfl (by as_aux_lemma => kernel_rfl) (by as_aux_lemma => kernel_rfl) (by as_aux_lemma => kernel_rfl) (fun _ _ _ h => h) (Or.inl ⟨by rfl, ?y13⟩) hH1 ?r13
    case y13 => (intro w hSw; (try dsimp only at hSw); go_simp; (try with_reducible rfl))
    try simp only [Act.put, List.getElem_toArray, List.getElem_cons_succ, List.getElem_cons_zero, List.setIfInBounds_toArray, List.set_cons_zero, List.set_cons_succ]
    refine' wpAnyH_take (i := 15) (oi := _) (v := ?v14) rfl (by as_aux_lemma => kernel_rfl) (by as_aux_lemma => kernel_rfl) (by as_aux_lemma => kernel_rfl) (fun _ _ _ h => h) (Or.inl ⟨by rfl, ?y14⟩) hH1 ?r14
    case y14 => (intro w hSw; (try dsimp only at hSw); go_simp; (try with_reducible rfl))
    try simp only [Act.put, List.getElem_toArray, List.getElem_cons_succ, List.getElem_cons_zero, List.setIfInBounds_toArray, List.set_cons_zero, List.set_cons_succ]
    refine wpAnyH_done (by as_aux_lemma => kernel_rfl) ?_ _
    have HBE := hide hH1.1
    clear hH1
    go_wp2_with fail
    go_loopw [7] (fun i wr => ∃ k : Nat, k ≤ ts.length ∧ i = .int .i64 k ∧ Hid (Below w5.heap.size w5 wr)) (fun i _ => ts.length - (intOf i).toNat)
    case atStart => exact ⟨0, by omega, rfl, hide HBE.out⟩
    case round =>
      obtain ⟨k, hk, rfl, HBR⟩ := hrel
      by_cases hlt : k < ts.length
      · obtain ⟨b5, o5, rfl, hbb5, hcl⟩ := HTS.out (by intro h0; rw [h0] at hlt; exact absurd hlt (Nat.not_lt_zero _))
        obtain ⟨y1, y2⟩ := hcl k hlt
        have htk := HAL.out _ (List.getElem_mem hlt)
        obtain ⟨v9, hv9⟩ : ∃ v, ts[k] = v := ⟨_, rfl⟩
        rw [hv9] at y1 y2 htk
        obtain ⟨f9, t9⟩ := v9
        simp only at y1 y2 htk
        obtain ⟨ht0, ht1, ht2, hha⟩ := htk
        have HY1 := hide y1
        have HY2 := hide y2
        have hH1A := hide hha
        have g0 : (0 : Int) ≤ (k : Int) := by omega
        have g1 : (k : Int) < (ts.length : Int) := by omega
        have hw9 : IntKind.i64.wrap (t9 - 1) = t9 - 1 := by rw [IntKind.wrap_i64]; omega
        have hp9 : ((k : Int)).toNat = k := by omega
        clear hcl y1 y2 hv9 hha
        go_wp2_with fail
        go_loopw [8] (fun i wz => ∃ j : Nat, j ≤ e.rooms.length ∧ i = .int .i64 j ∧ Hid (Below w5.heap.size w5 wz)) (fun i _ => e.rooms.length - (intOf i).toNat)
        case atStart => exact ⟨0, by omega, rfl, hide HBR.out⟩
        case round =>
          obtain ⟨j, hj, rfl, HB7⟩ := hrel
          have hz4 := cell_keep HB7.out HC4.out
          by_cases hlt2 : j < e.rooms.length
          · obtain ⟨bo, oo, hmo, hbo, hco⟩ := HOR.out (by intro h0; rw [h0] at hlt2; exact absurd hlt2 (Nat.not_lt_zero _))
            have hcq := hco j hlt2
            obtain ⟨h91, h92⟩ := hH1A.out _ (List.getElem_mem hlt2)
            obtain ⟨q, hq⟩ : ∃ q, e.rooms[j] = q := ⟨_, rfl⟩
            rw [hq] at hcq h91 h92
            have HX1 := hide h91
            have HX2 := hide h92
            rw [hmo] at hz4
            have HS7 := hide (And.intro (start wr) (And.intro hz4 (And.intro ((HB7.out.cell (p := ⟨bo, _, none⟩) hbo).trans hcq) (And.intro ((HB7.out.cell (p := ⟨b5, _, none⟩) hbb5).trans HY1.out) ((HB7.out.cell (p := ⟨b5, _, none⟩) hbb5).trans HY2.out)))))
            have HRZ := hide (HR3.out.keep HB7.out)
            have hq0 : (0 : Int) ≤ (j : Int) := by omega
            have hq1 : (j : Int) < (e.rooms.length : Int) := by omega
            clear hco hcq hq h91 h92 hmo
            go_wp2_with fail
            refine wp_region_held_drew (S := fun w' => Below wr.heap.size wr w' ∧ w'.cell? ⟨w.heap.size, 4, none⟩ = some (.slice (some ⟨bo, oo, none⟩) e.rooms.length m.oc) ∧ w'.cell? ⟨bo, oo + j, none⟩ = some (.int .i64 q) ∧ w'.cell? ⟨b5, o5 + k * 2, none⟩ = some (.int .i64 f9) ∧ w'.cell? ⟨b5, o5 + k * 2 + 1, none⟩ = some (.int .i64 t9)) (by kernel_rfl) ?_ (fun hH0 => ?_)
            · exact cut_keep4 (start wr).drew HS7.out
            refine' wpAnyH_take (i := 0) (oi := _) (v := ?v300) rfl (by as_aux_lemma => kernel_rfl) (by as_aux_lemma => kernel_rfl) (by as_aux_lemma => kernel_rfl) (fun _ _ _ h => h) (Or.inl ⟨by rfl, ?y300⟩) hH0 ?r300
            case y300 => (intro w hSw; (try dsimp only at hSw); go_simp; (try with_reducible rfl))
            try simp only [Act.put, List.getElem_toArray, List.getElem_cons_succ, List.getElem_cons_zero, List.setIfInBounds_toArray, List.set_cons_zero, List.set_cons_succ]
            refine' wpAnyH_take (i := 1) (oi := _) (v := ?v301) rfl (by as_aux_lemma => kernel_rfl) (by as_aux_lemma => kernel_rfl) (by as_aux_lemma => kernel_rfl) (fun _ _ _ h => h) (Or.inl ⟨by rfl, ?y301⟩) hH0 ?r301
            case y301 => (intro w hSw; (try dsimp only at hSw); go_simp; (try with_reducible rfl))
            try simp only [Act.put, List.getElem_toArray, List.getElem_cons_succ, List.getElem_cons_zero, List.setIfInBounds_toArray, List.set_cons_zero, List.set_cons_succ]
            refine' wpAnyH_take (i := 2) (oi := _) (v := ?v302) rfl (by as_aux_lemma => kernel_rfl) (by as_aux_lemma => kernel_rfl) (by as_aux_lemma => kernel_rfl) (fun _ _ _ h => h) (Or.inl ⟨by rfl, ?y302⟩) hH0 ?r302
            case y302 => (intro w hSw; (try dsimp only at hSw); go_simp; (try with_reducible rfl))
            try simp only [Act.put, List.getElem_toArray, List.getElem_cons_succ, List.getElem_cons_zero, List.setIfInBounds_toArray, List.set_cons_zero, List.set_cons_succ]
            refine' wpAnyH_take (i := 3) (oi := _) (v := ?v303) rfl (by as_aux_lemma => kernel_rfl) (by as_aux_lemma => kernel_rfl) (by as_aux_lemma => kernel_rfl) (fun _ _ _ h => h) (Or.inl ⟨by rfl, ?y303⟩) hH0 ?r303
            case y303 => (intro w hSw; (try dsimp only at hSw); go_simp; (try with_reducible rfl))
            try simp only [Act.put, List.getElem_toArray, List.getElem_cons_succ, List.getElem_cons_zero, List.setIfInBounds_toArray, List.set_cons_zero, List.set_cons_succ]
            refine' wpAnyH_take (i := 4) (oi := _) (v := ?v304) rfl (by as_aux_lemma => kernel_rfl) (by as_aux_lemma => kernel_rfl) (by as_aux_lemma => kernel_rfl) (fun _ _ _ h => h) (Or.inl ⟨by rfl, ?y304⟩) hH0 ?r304
            case y304 => (intro w hSw; (try dsimp only at hSw); go_simp; (try with_reducible rfl))
            try simp only [Act.put, List.getElem_toArray, List.getElem_cons_succ, List.getElem_cons_zero, List.setIfInBounds_toArray, List.set_cons_zero, List.set_cons_succ]
            refine' wpAnyH_take (i := 5) (oi := _) (v := ?v305) rfl (by as_aux_lemma => kernel_rfl) (by as_aux_lemma => kernel_rfl) (by as_aux_lemma => kernel_rfl) (fun _ _ _ h => h) (Or.inl ⟨by rfl, ?y305⟩) hH0 ?r305
            case y305 => (intro w hSw; (try dsimp only at hSw); go_simp; (try with_reducible rfl))
            try simp only [Act.put, List.getElem_toArray, List.getElem_cons_succ, List.getElem_cons_zero, List.setIfInBounds_toArray, List.set_cons_zero, List.set_cons_succ]
            refine' wpAnyH_take (i := 6) (oi := _) (v := ?v306) rfl (by as_aux_lemma => kernel_rfl) (by as_aux_lemma => kernel_rfl) (by as_aux_lemma => kernel_rfl) (fun _ _ _ h => h) (Or.inl ⟨by rfl, ?y306⟩) hH0 ?r306
            case y306 => (intro w hSw; (try dsimp only at hSw); go_simp; (try with_reducible rfl))
            try simp only [Act.put, List.getElem_toArray, List.getElem_cons_succ, List.getElem_cons_zero, List.setIfInBounds_toArray, List.set_cons_zero, List.set_cons_succ]
            refine' wpAnyH_take (i := 7) (oi := _) (v := ?v307) rfl (by as_aux_lemma => kernel_rfl) (by as_aux_lemma => kernel_rfl) (by as_aux_lemma => kernel_rfl) (fun _ _ _ h => h) (Or.inl ⟨by rfl, ?y307⟩) hH0 ?r307
            case y307 => (intro w hSw; (try dsimp only at hSw); go_simp; (try with_reducible rfl))
            try simp only [Act.put, List.getElem_toArray, List.getElem_cons_succ, List.getElem_cons_zero, List.setIfInBounds_toArray, List.set_cons_zero, List.set_cons_succ]
            refine' wpAnyH_take (i := 8) (oi := _) (v := ?v308) rfl (by as_aux_lemma => kernel_rfl) (by as_aux_lemma => kernel_rfl) (by as_aux_lemma => kernel_rfl) (fun _ _ _ h => h) (Or.inl ⟨by rfl, ?y308⟩) hH0 ?r308
            case y308 => (intro w hSw; (try dsimp only at hSw); go_simp; (try with_reducible rfl))
            try simp only [Act.put, List.getElem_toArray, List.getElem_cons_succ, List.getElem_cons_zero, List.setIfInBounds_toArray, List.set_cons_zero, List.set_cons_succ]
            refine' wpAnyH_take (i := 9) (oi := _) (v := ?v309) rfl (by as_aux_lemma => kernel_rfl) (by as_aux_lemma => kernel_rfl) (by as_aux_lemma => kernel_rfl) (fun _ _ _ h => h) (Or.inl ⟨by rfl, ?y309⟩) hH0 ?r309
            case y309 => (intro w hSw; (try dsimp only at hSw); go_simp; (try with_reducible rfl))
            try simp only [Act.put, List.getElem_toArray, List.getElem_cons_succ, List.getElem_cons_zero, List.setIfInBounds_toArray, List.set_cons_zero, List.set_cons_succ]
            refine' wpAnyH_take (i := 10) (oi := _) (v := ?v310) rfl (by as_aux_lemma => kernel_rfl) (by as_aux_lemma => kernel_rfl) (by as_aux_lemma => kernel_rfl) (fun _ _ _ h => h) (Or.inl ⟨by rfl, ?y310⟩) hH0 ?r310
            case y310 => (intro w hSw; (try dsimp only at hSw); go_simp; (try with_reducible rfl))
            try simp only [Act.put, List.getElem_toArray, List.getElem_cons_succ, List.getElem_cons_zero, List.setIfInBounds_toArray, List.set_cons_zero, List.set_cons_succ]
            refine wpAnyH_ready (rs := [11]) (by as_aux_lemma => kernel_rfl) (by simp) ?_
            refine AllReadyH.cons (o := _) rfl (fun K hK => ?_) AllReadyH.nil
            go_simp
            refine (has_at A3 _ c3 lc q f9 true _ (HRZ.out.keep hH0.1) rfl (by omega) HX1.out).mono ?_
            rintro _ wy ⟨rfl, hb⟩
            refine hK.out _ _ (cut_keep4 hb hH0) (fun hN => ?_)
            clear hK K hH0
            have hH1 := hN
            clear hN
            try simp only [Act.put, List.getElem_toArray, List.getElem_cons_succ, List.getElem_cons_zero, List.setIfInBounds_toArray, List.set_cons_zero, List.set_cons_succ]
            refine' wpAnyH_take (i := 12) (oi := _) (v := ?v311) rfl (by as_aux_lemma => kernel_rfl) (by as_aux_lemma => kernel_rfl) (by as_aux_lemma => kernel_rfl) (fun _ _ _ h => h) (Or.inl ⟨by rfl, ?y311⟩) hH1 ?r311
            case y311 => (intro w hSw; (try dsimp only at hSw); go_simp; (try with_reducible rfl))
            try simp only [Act.put, List.getElem_toArray, List.getElem_cons_succ, List.getElem_cons_zero, List.setIfInBounds_toArray, List.set_cons_zero, List.set_cons_succ]
            refine' wpAnyH_take (i := 13) (oi := _) (v := ?v312) rfl (by as_aux_lemma => kernel_rfl) (by as_aux_lemma => kernel_rfl) (by as_aux_lemma => kernel_rfl) (fun _ _ _ h => h) (Or.inl ⟨by rfl, ?y312⟩) hH1 ?r312
            case y312 => (intro w hSw; (try dsimp only at hSw); go_simp; (try with_reducible rfl))
            try simp only [Act.put, List.getElem_toArray, List.getElem_cons_succ, List.getElem_cons_zero, List.setIfInBounds_toArray, List.set_cons_zero, List.set_cons_succ]
            refine' wpAnyH_take (i := 14) (oi := _) (v := ?v313) rfl (by as_aux_lemma => kernel_rfl) (by as_aux_lemma => kernel_rfl) (by as_aux_lemma => kernel_rfl) (fun _ _ _ h => h) (Or.inl ⟨by rfl, ?y313⟩) hH1 ?r313
            case y313 => (intro w hSw; (try dsimp only at hSw); go_simp; (try with_reducible rfl))
            try simp only [Act.put, List.getElem_toArray, List.getElem_cons_succ, List.getElem_cons_zero, List.setIfInBounds_toArray, List.set_cons_zero, List.set_cons_succ]
            refine' wpAnyH_take (i := 15) (oi := _) (v := ?v314) rfl (by as_aux_lemma => kernel_rfl) (by as_aux_lemma => kernel_rfl) (by as_aux_lemma => kernel_rfl) (fun _ _ _ h => h) (Or.inl ⟨by rfl, ?y314⟩) hH1 ?r314
            case y314 => (intro w hSw; (try dsimp only at hSw); go_simp; (try with_reducible rfl))
            try simp only [Act.put, List.getElem_toArray, List.getElem_cons_succ, List.getElem_cons_zero, List.setIfInBounds_toArray, List.set_cons_zero, List.set_cons_succ]
            refine' wpAnyH_take (i := 16) (oi := _) (v := ?v315) rfl (by as_aux_lemma => kernel_rfl) (by as_aux_lemma => kernel_rfl) (by as_aux_lemma => kernel_rfl) (fun _ _ _ h => h) (Or.inl ⟨by rfl, ?y315⟩) hH1 ?r315
            case y315 => (intro w hSw; (try dsimp only at hSw); go_simp; (try with_reducible rfl))
            try simp only [Act.put, List.getElem_toArray, List.getElem_cons_succ, List.getElem_cons_zero, List.setIfInBounds_toArray, List.set_cons_zero, List.set_cons_succ]
            refine' wpAnyH_take (i := 17) (oi := _) (v := ?v316) rfl (by as_aux_lemma => kernel_rfl) (by as_aux_lemma => kernel_rfl) (by as_aux_lemma => kernel_rfl) (fun _ _ _ h => h) (Or.inl ⟨by rfl, ?y316⟩) hH1 ?r316
            case y316 => (intro w hSw; (try dsimp only at hSw); go_simp; (try with_reducible rfl))
            try simp only [Act.put, List.getElem_toArray, List.getElem_cons_succ, List.getElem_cons_zero, List.setIfInBounds_toArray, List.set_cons_zero, List.set_cons_succ]
            refine' wpAnyH_take (i := 18) (oi := _) (v := ?v317) rfl (by as_aux_lemma => kernel_rfl) (by as_aux_lemma => kernel_rfl) (by as_aux_lemma => kernel_rfl) (fun _ _ _ h => h) (Or.inl ⟨by rfl, ?y317⟩) hH1 ?r317
            case y317 => (intro w hSw; (try dsimp only at hSw); go_simp; (try with_reducible rfl))
            try simp only [Act.put, List.getElem_toArray, List.getElem_cons_succ, List.getElem_cons_zero, List.setIfInBounds_toArray, List.set_cons_zero, List.set_cons_succ]
            refine' wpAnyH_take (i := 19) (oi := _) (v := ?v318) rfl (by as_aux_lemma => kernel_rfl) (by as_aux_lemma => kernel_rfl) (by as_aux_lemma => kernel_rfl) (fun _ _ _ h => h) (Or.inl ⟨by rfl, ?y318⟩) hH1 ?r318
            case y318 => (intro w hSw; (try dsimp only at hSw); go_simp; (try with_reducible rfl))
            try simp only [Act.put, List.getElem_toArray, List.getElem_cons_succ, List.getElem_cons_zero, List.setIfInBounds_toArray, List.set_cons_zero, List.set_cons_succ]
            refine' wpAnyH_take (i := 20) (oi := _) (v := ?v319) rfl (by as_aux_lemma => kernel_rfl) (by as_aux_lemma => kernel_rfl) (by as_aux_lemma => kernel_rfl) (fun _ _ _ h => h) (Or.inl ⟨by rfl, ?y319⟩) hH1 ?r319
            case y319 => (intro w hSw; (try dsimp only at hSw); go_simp; (try with_reducible rfl))
            try simp only [Act.put, List.getElem_toArray, List.getElem_cons_succ, List.getElem_cons_zero, List.setIfInBounds_toArray, List.set_cons_zero, List.set_cons_succ]
            refine' wpAnyH_take (i := 21) (oi := _) (v := ?v320) rfl (by as_aux_lemma => kernel_rfl) (by as_aux_lemma => kernel_rfl) (by as_aux_lemma => kernel_rfl) (fun _ _ _ h => h) (Or.inl ⟨by rfl, ?y320⟩) hH1 ?r320
            case y320 => (intro w hSw; (try dsimp only at hSw); go_simp; (try with_reducible rfl))
            try simp only [Act.put, List.getElem_toArray, List.getElem_cons_succ, List.getElem_cons_zero, List.setIfInBounds_toArray, List.set_cons_zero, List.set_cons_succ]
            refine' wpAnyH_take (i := 22) (oi := _) (v := ?v321) rfl (by as_aux_lemma => kernel_rfl) (by as_aux_lemma => kernel_rfl) (by as_aux_lemma => kernel_rfl) (fun _ _ _ h => h) (Or.inl ⟨by rfl, ?y321⟩) hH1 ?r321
            case y321 => (intro w hSw; (try dsimp only at hSw); go_simp; (try with_reducible rfl))
            try simp only [Act.put, List.getElem_toArray, List.getElem_cons_succ, List.getElem_cons_zero, List.setIfInBounds_toArray, List.set_cons_zero, List.set_cons_succ]
            refine' wpAnyH_take (i := 23) (oi := _) (v := ?v322) rfl (by as_aux_lemma => kernel_rfl) (by as_aux_lemma => kernel_rfl) (by as_aux_lemma => kernel_rfl) (fun _ _ _ h => h) (Or.inl ⟨by rfl, ?y322⟩) hH1 ?r322
            case y322 => (intro w hSw; (try dsimp only at hSw); go_simp; (try with_reducible rfl))
            try simp only [Act.put, List.getElem_toArray, List.getElem_cons_succ, List.getElem_cons_zero, List.setIfInBounds_toArray, List.set_cons_zero, List.set_cons_succ]
            refine' wpAnyH_take (i := 24) (oi := _) (v := ?v323) rfl (by as_aux_lemma => kernel_rfl) (by as_aux_lemma => kernel_rfl) (by as_aux_lemma => kernel_rfl) (fun _ _ _ h => h) (Or.inl ⟨by rfl, ?y323⟩) hH1 ?r323
            case y323 => (intro w hSw; (try dsimp only at hSw); go_simp; (try with_reducible rfl))
            try simp only [Act.put, List.getElem_toArray, List.getElem_cons_succ, List.getElem_cons_zero, List.setIfInBounds_toArray, List.set_cons_zero, List.set_cons_succ]
            refine' wpAnyH_take (i := 25) (oi := _) (v := ?v324) rfl (by as_aux_lemma => kernel_rfl) (by as_aux_lemma => kernel_rfl) (by as_aux_lemma => kernel_rfl) (fun _ _ _ h => h) (Or.inl ⟨by rfl, ?y324⟩) hH1 ?r324
            case y324 => (intro w hSw; (try dsimp only at hSw); go_simp; (try with_reducible rfl))
            try simp only [Act.put, List.getElem_toArray, List.getElem_cons_succ, List.getElem_cons_zero, List.setIfInBounds_toArray, List.set_cons_zero, List.set_cons_succ]
            refine wpAnyH_ready (rs := [26]) (by as_aux_lemma => kernel_rfl) (by simp) ?_
            refine AllReadyH.cons (o := _) rfl (fun K hK => ?_) AllReadyH.nil
            go_simp
            refine (has_at A3 _ c3 lc q (t9 - 1) true _ (HRZ.out.keep hH1.1) rfl (by omega) HX2.out).mono ?_
            rintro _ wy ⟨rfl, hb⟩
            refine hK.out _ _ (cut_keep4 hb hH1) (fun hN => ?_)
            clear hK K hH1
            have hH2 := hN
            clear hN
            try simp only [Act.put, List.getElem_toArray, List.getElem_cons_succ, List.getElem_cons_zero, List.setIfInBounds_toArray, List.set_cons_zero, List.set_cons_succ]
            refine' wpAnyH_take (i := 27) (oi := _) (v := ?v325) rfl (by as_aux_lemma => kernel_rfl) (by as_aux_lemma => kernel_rfl) (by as_aux_lemma => kernel_rfl) (fun _ _ _ h => h) (Or.inl ⟨by rfl, ?y325⟩) hH2 ?r325
            case y325 => (intro w hSw; (try dsimp only at hSw); go_simp; (try with_reducible rfl))
            try simp only [Act.put, List.getElem_toArray, List.getElem_cons_succ, List.getElem_cons_zero, List.setIfInBounds_toArray, List.set_cons_zero, List.set_cons_succ]
            refine' wpAnyH_take (i := 28) (oi := _) (v := ?v326) rfl (by as_aux_lemma => kernel_rfl) (by as_aux_lemma => kernel_rfl) (by as_aux_lemma => kernel_rfl) (fun _ _ _ h => h) (Or.inl ⟨by rfl, ?y326⟩) hH2 ?r326
            case y326 => (intro w hSw; (try dsimp only at hSw); go_simp; (try with_reducible rfl))
            try simp only [Act.put, List.getElem_toArray, List.getElem_cons_succ, List.getElem_cons_zero, List.setIfInBounds_toArray, List.set_cons_zero, List.set_cons_succ]
            refine wpAnyH_done (by as_aux_lemma => kernel_rfl) ?_ _
            have HBE := hide (HB7.out.trans (hH2.1.mono HB7.out.size))
            clear hH2
            go_wp2_with fail
            go_roundw
            case rel => exact ⟨j + 1, by omega, by go_num, hide HBE.out⟩
            case measure => simp [intOf]; omega
          · obtain rfl : j = e.rooms.length := by omega
            have hq1 : ¬ (e.rooms.length : Int) < (e.rooms.length : Int) := by omega
            go_wp2_with fail
            go_roundw
            case rel => exact ⟨k + 1, by omega, by go_num, hide HB7.out⟩
            case measure => simp [intOf]; omega
      · obtain rfl : k = ts.length := by omega
        have g1 : ¬ (ts.length : Int) < (ts.length : Int) := by omega
        replace HBX := hide (HBX.out.trans (HBR.out.mono HBX.out.size))
        go_wp2_with fail
        go_ret
        exact ⟨rfl, HBX.out⟩
  · have hz1 : (z == 0) = false := by rw [beq_eq_false_iff_ne]; exact hz
    have hz2 : (z != 0) = true := by rw [bne_iff_ne]; exact hz
    obtain rfl : lc = [] := HNO.out hz
    clear HYS HNO HN
    go_wp2_with fail
    go_ret
    exact ⟨rfl, HBX.out⟩
theorem ev12_any (U T : ByteArray) (s l : Int) (O : Option Addr) (on oc : Nat) (fr ev ct un : Int) (D M Y X : Option Addr) (dn dc mn mc yn yc xn xc : Nat) (o : List Int) (ds : List Rul.Wd) (ms ys x : List Int) (w : World) (h : (on = o.length ∧ o.length ≤ maxLen ∧ RowI w O o) ∧ ((dn = ds.length ∧ ds.length ≤ maxLen ∧ RowD w D ds) ∧ (mn = ms.length ∧ ms.length ≤ maxLen ∧ RowI w M ms) ∧ (yn = ys.length ∧ ys.length ≤ maxLen ∧ RowI w Y ys)) ∧ (xn = x.length ∧ x.length ≤ maxLen ∧ RowI w X x) ∧ U.size ≤ maxLen ∧ T.size ≤ maxLen ∧ (X = none → xc = 0)) :
    Calls Tryz.prog 6 #[.agg #[.string U, .string T, .int .i64 s, .int .i64 l, .slice O on oc, .int .i64 fr, .int .i64 ev, .int .i64 ct, .int .i64 un, .slice D dn dc, .slice M mn mc, .slice Y yn yc, .slice X xn xc]] w fun e w' => e = .returned (.bool true) ∧ Below w.heap.size w w' := by
  obtain ⟨⟨rfl, _, ho⟩, ⟨⟨rfl, _, hd⟩, ⟨rfl, _, hm⟩, ⟨rfl, _, hy⟩⟩, ⟨rfl, _, hx⟩, _, _, _⟩ := h
  cases hf : fewEB ds.length ms.length ys.length U.size T.size o.length x.length with
  | false => exact ev12_few U T s l O o.length oc fr ev ct un D M Y X ds.length dc ms.length mc ys.length yc x.length xc w hf
  | true =>
    have q := (fewEB_iff _ _ _ _ _ _ _).1 hf
    have hU : str U.data.toList = U := data_strC U
    have hT : str T.data.toList = T := data_strC T
    have hul : U.data.toList.length ≤ 40000 := by rw [Go.Proofs.YtgihekokbgggcaaGreat.len_of]; omega
    have htl : T.data.toList.length ≤ 40000 := by rw [Go.Proofs.YtgihekokbgggcaaGreat.len_of]; omega
    generalize U.data.toList = u at *
    generalize T.data.toList = t at *
    subst hU hT
    have hl : EvL w ⟨u, t, s, l, o, ⟨fr, ev, ct, un, ds, ms, ys⟩, x⟩ ⟨O, oc, D, dc, M, mc, Y, yc, X, xc⟩ := ⟨ho, by show o.length ≤ 1000; omega, ⟨hd, rfl, by show ds.length ≤ 10000; omega, hm, rfl, by show ms.length ≤ 10000; omega, hy, rfl, by show ys.length ≤ 10000; omega⟩, hx, by show x.length ≤ 1000; omega, hul, htl⟩
    exact ev12_yes ⟨u, t, s, l, o, ⟨fr, ev, ct, un, ds, ms, ys⟩, x⟩ ⟨O, oc, D, dc, M, mc, Y, yc, X, xc⟩ w hl hf
end Go.Proofs.YtgihekokbgggcaaGreat.S2

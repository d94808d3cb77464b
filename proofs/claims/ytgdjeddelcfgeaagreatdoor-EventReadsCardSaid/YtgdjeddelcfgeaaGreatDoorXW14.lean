/- RuRow; EvRow; EvRow2; EvRow3 of the recipes, what is needed of them. -/
import Derived.Test.YtgdjeddelcfgeaaGreatDoorRows
import Derived.ProofKit
import Derived.SizedLaws
import Derived.Lib.RowBridge
import Derived.Lib.SmallJoins
import Derived.Deep.SlicePairs
import Derived.OpenShut
import Derived.Carry
import Derived.LaidMore
import Derived.Lay
import Derived.Handed
import Derived.Lib.LaidTab
import Derived.Stop.LaidErr
import Derived.Stop.Joined
import Derived.Shelf.Vars
import Derived.SliceStrings
import Derived.Test.YtgdjeddelcfgeaaGreatDoorXW2
import Derived.Test.YtgdjeddelcfgeaaGreatDoorXEvK
import Derived.Test.YtgdjeddelcfgeaaGreatDoorXW3
namespace Go.Proofs.YtgdjeddelcfgeaaGreatDoor
open Go.ChangeShapes Go.WideShapes Go.ChangeAt Go.RowKit Go.Joins Rul

theorem own : ownKnob Tryz.prog.godebug = none:=by kernel_rfl
theorem laidOut : laidOutB Tryz.prog = true:=by kernel_rfl
section
variable {H : Type} {enc : TypeId × Value → H}
end

end Go.Proofs.YtgdjeddelcfgeaaGreatDoor
namespace Go.Proofs.YtgdjeddelcfgeaaGreatDoor
open Go.ChangeShapes Go.WideShapes Go.ChangeAt Go.RowKit Go.Joins

def tabs : List (String × DataW Unit):=Rows.eventTellsRow.laid
theorem pow_type : (Tryz.prog.globals[0]?).map (·.type) = some 197:=by kernel_rfl
theorem pow_cellsE : Tryz.prog.cellsOf 173 = 1:=by kernel_rfl
theorem pow_cellsT : Tryz.prog.cellsOf 197 = 20:=by kernel_rfl
theorem pow_tab : (Rows.laid_internal_strconv_uint64pow10 : DataW Unit) = Lib.tabData .u64 Lib.pow10Tab:=by kernel_rfl
theorem tab_of_laid {W : World} (h : laidMetH Tryz.prog tabs W) : Tab W:=by
 rw [MakeChecks.laidMetH_plain _ _ _ (by kernel_rfl)] at h
 have h2 : ∃ r, laidMet Tryz.prog (("internal/strconv.uint64pow10", Lib.tabData .u64 Lib.pow10Tab) :: r) W := by
  rw [← pow_tab]
  exact ⟨_,laidMet.tail (laidMet.tail h)⟩
 obtain ⟨r,h2⟩:=h2
 exact Lib.tabIs_of_head tab_global pow_type Tryz.underlying197 Tryz.underlying173 pow_cellsE pow_cellsT h2
theorem err_star : "*" ++ "errors.errorString" = "*errors.errorString" := by decide
theorem err_row (u : TypeId) (h : Tryz.prog.typeName? 3 u = some "*errors.errorString") : u = 294 :=
 typeName_ptr_named (nm := "errors.errorString") (by rw [err_star]; kernel_rfl) (by kernel_rfl) (by decide) u (by rw [err_star]; exact h)
theorem err_cells : Tryz.prog.cellsOf 296 = 1:=by kernel_rfl
theorem str_cells : Tryz.prog.cellsOf 9 = 1:=by kernel_rfl
theorem rng_is : (Rows.laid_strconv_ErrRange : DataW Unit) = .iface "*errors.errorString" (.ptr (.agg [.lit (.string [118, 97, 108, 117, 101, 32, 111, 117, 116, 32, 111, 102, 32, 114, 97, 110, 103, 101])])) := rfl
theorem syn_is : (Rows.laid_strconv_ErrSyntax : DataW Unit) = .iface "*errors.errorString" (.ptr (.agg [.lit (.string [105, 110, 118, 97, 108, 105, 100, 32, 115, 121, 110, 116, 97, 120])])) := rfl
theorem g_rng : Tryz.prog.globalNamed "strconv.ErrRange" = some 10 := by kernel_rfl
theorem g_syn : Tryz.prog.globalNamed "strconv.ErrSyntax" = some 9 := by kernel_rfl
theorem rng_of {W : World} (h : laidMetH Tryz.prog tabs W) : ∃ ev,W.cell? ⟨10,0,none⟩ = some ev ∧ (ev = .nilIface ∨ ∃ te pe,ev = .iface te pe):=by
 rw [MakeChecks.laidMetH_plain _ _ _ (by kernel_rfl)] at h
 have h2 : ∃ r, laidMet Tryz.prog (("strconv.ErrRange", .iface "*errors.errorString" (.ptr (.agg [.lit (.string [118, 97, 108, 117, 101, 32, 111, 117, 116, 32, 111, 102, 32, 114, 97, 110, 103, 101])]))) :: r) W := by
  rw [← rng_is]
  exact ⟨_,laidMet.tail (laidMet.tail (laidMet.tail (laidMet.tail h)))⟩
 obtain ⟨r,h2⟩:=h2
 obtain ⟨a,_,hv,_⟩:=laid_sentinel h2 g_rng (ti:=101) (by kernel_rfl) Tryz.underlying101 err_row Tryz.underlying294 Tryz.underlying296 rfl rfl Tryz.underlying9 err_cells str_cells
 exact ⟨_,by simpa using World.var?_cell g_rng hv 0,Or.inr ⟨_,_,rfl⟩⟩
theorem syn_of {W : World} (h : laidMetH Tryz.prog tabs W) : ∃ ev,W.cell? ⟨9,0,none⟩ = some ev ∧ (ev = .nilIface ∨ ∃ te pe,ev = .iface te pe):=by
 rw [MakeChecks.laidMetH_plain _ _ _ (by kernel_rfl)] at h
 have h2 : ∃ r, laidMet Tryz.prog (("strconv.ErrSyntax", .iface "*errors.errorString" (.ptr (.agg [.lit (.string [105, 110, 118, 97, 108, 105, 100, 32, 115, 121, 110, 116, 97, 120])]))) :: r) W := by
  rw [← syn_is]
  exact ⟨_,laidMet.tail (laidMet.tail (laidMet.tail (laidMet.tail (laidMet.tail h))))⟩
 obtain ⟨r,h2⟩:=h2
 obtain ⟨a,_,hv,_⟩:=laid_sentinel h2 g_syn (ti:=101) (by kernel_rfl) Tryz.underlying101 err_row Tryz.underlying294 Tryz.underlying296 rfl rfl Tryz.underlying9 err_cells str_cells
 exact ⟨_,by simpa using World.var?_cell g_syn hv 0,Or.inr ⟨_,_,rfl⟩⟩
theorem env_of {W : World} (h : laidMetH Tryz.prog tabs W) (hs : W.ShapedOpen Tryz.prog) : Env W :=
 ⟨tab_of_laid h,cell_of_shapedOpen_int (zero:=#[.int .i64 0]) (t:=3) hs (of_decide_eq_true (by kernel_rfl)) (by kernel_rfl) rfl (by kernel_rfl) (by kernel_rfl) Tryz.underlying3,
  syn_of h,rng_of h⟩
def foldZs : List Int:=[0,1,2,3,4,5,6,7,8,9,10,11,12,13,14,15,16,17,18,19,20,21,22,23,24,25,26,27,28,29,30,31,32,33,34,35,36,37,38,39,40,41,42,43,44,45,46,47,48,49,50,51,52,53,54,55,56,57,58,59,60,61,62,63,64,97,98,99,100,101,102,103,104,105,106,107,108,109,110,111,112,113,114,115,116,117,118,119,120,121,122,91,92,93,94,95,96,65,66,67,68,69,70,71,72,73,74,8490,76,77,78,79,80,81,82,383,84,85,86,87,88,89,90,123,124,125,126,127]
theorem fold_type : (Tryz.prog.globals[4]?).map (·.type) = some 238:=by kernel_rfl
theorem fold_cellsE : Tryz.prog.cellsOf 237 = 1:=by kernel_rfl
theorem fold_cellsT : Tryz.prog.cellsOf 238 = 128:=by kernel_rfl
theorem fold_tab : (Rows.laid_unicode_asciiFold : DataW Unit) = Lib.tabData .u16 foldZs:=by kernel_rfl
theorem g_fold : Tryz.prog.globalNamed "unicode.asciiFold" = some 4 := by kernel_rfl
theorem fold_of {W : World} (h : laidMetH Tryz.prog tabs W) : FoldTab W:=by
 rw [MakeChecks.laidMetH_plain _ _ _ (by kernel_rfl)] at h
 have h2 : ∃ r, laidMet Tryz.prog (("unicode.asciiFold", Lib.tabData .u16 foldZs) :: r) W := by
  rw [← fold_tab]
  exact ⟨_,laidMet.tail (laidMet.tail (laidMet.tail (laidMet.tail (laidMet.tail (laidMet.tail h)))))⟩
 obtain ⟨r,h2⟩:=h2
 have h3:=Lib.tabIs_of_head g_fold fold_type Tryz.underlying238 Tryz.underlying237 fold_cellsE fold_cellsT h2
 intro c hc
 have hz : foldZs.length = 128:=by decide +kernel
 have hv : c + 32 < foldZs.length ∧ foldZs.getD c 0 = (c : Int) + 32 ∧ foldZs.getD (c + 32) 0 = (c : Int):=by
  have : ∀ c ∈ [86,69,78,84],c + 32 < foldZs.length ∧ foldZs.getD c 0 = (c : Int) + 32 ∧ foldZs.getD (c + 32) 0 = (c : Int):=by decide +kernel
  exact this c hc
 have a1:=h3.cell g_fold c (by omega)
 have a2:=h3.cell g_fold (c + 32) hv.1
 rw [hv.2.1] at a1
 rw [hv.2.2] at a2
 exact ⟨a1,a2⟩
theorem envE_of {W : World} (h : laidMetH Tryz.prog tabs W) (hs : W.ShapedOpen Tryz.prog) : EnvE W:=⟨env_of h hs,fold_of h⟩
theorem door_met (os : Os) (args : Array Value) : laidMetH Tryz.prog tabs ((World.laidAll Tryz.prog os tabs).forCall (fun _ _ => 0) ⟨#[],args,[]⟩).memory:=by
 rw [MakeChecks.laidMetH_plain _ _ _ (by kernel_rfl)]
 exact laidMet_laidAll _ (by kernel_rfl) (by kernel_rfl)
theorem returns_laid {H : Type} {enc : TypeId × Value → H} {a : Assume} {C : Checked} {os : Os} {f : FuncId} {fn : Func} {s : ChangeSpec} {apart fresh handsOn again : Bool} {laid : List (String × DataW Unit)}
  (own : ownKnob C.prog.godebug = none) (started : os.Started) (noInit : C.prog.inits.idxOf? f = none) (hfn : C.prog.funcs[f]? = some fn)
  (witness : ∃ (w : World) (tape : Tape) (i : Input),w.os = os ∧ (w.forCall tape i).Shaped C.prog ∧ i.vars = [] ∧ Input.okWide C.prog (w.forCall tape i) .any w.heap.size f i ∧
   ((s.pre enc C.prog fn [] apart (w.forCall tape i).memory i.args ∧ laidMetH C.prog laid (w.forCall tape i).memory) ∧ sizedMet enc C.prog fn (OpenSpec.ofChange s) apart (w.forCall tape i).memory i.args) ∧ a.holds C.prog (lone (Frame.enter C.prog f i.args .normal) [] (w.forCall tape i)))
  (contract : ∀ (W : World) (base : Nat) (args : Array Value) (ds gs : List (DataW H)) (before : List MemPlace),
   (∀ (j : Nat) t v,fn.params[j]? = some t → args[j]? = some v → Value.okWide C.prog W .any base t v) →
   DataW.Whole enc C.prog fn.params.toList s.vars apart W args.toList ds gs before → laidMetH C.prog laid W → W.ShapedOpen C.prog →
   Calls C.prog f args W fun e W' => ∃ v,e = .returned v ∧ s.post enc C.prog fn apart fresh handsOn again W args v W') :
  ReturnsInHanded a C os f .any (fun w args => (s.pre enc C.prog fn [] apart w args ∧ laidMetH C.prog laid w) ∧ sizedMet enc C.prog fn (OpenSpec.ofChange s) apart w args) (s.post enc C.prog fn apart fresh handsOn again):=by
 refine returnsInHanded_of_calls own started noInit witness ?_
 intro w tape i _ hsh _ hok hpre _
 obtain ⟨_,_,_,fn',hfn',_,_,_,_,hval⟩:=hok
 obtain rfl : fn' = fn:=Option.some.inj (hfn'.symm.trans hfn)
 obtain ⟨⟨⟨ds,gs,before,hw,_⟩,hx⟩,_⟩:=hpre
 have hx' : laidMetH C.prog laid (w.forCall tape i).memory:=hx
 refine (contract (w.forCall tape i) w.heap.size i.args ds gs before hval (DataW.Whole.of_heap (w':=w.forCall tape i) (by rfl) hw) (laidMetH.of_heap (w':=w.forCall tape i) (by rfl) hx') hsh).mono fun e W' ⟨v,he,hp⟩ => ?_
 subst he
 exact ChangeSpec.post_blind hp

end Go.Proofs.YtgdjeddelcfgeaaGreatDoor
namespace Go.Proofs.YtgdjeddelcfgeaaGreatDoor
open Go.ChangeShapes Go.WideShapes Go.ChangeAt Go.RowKit Go.Joins Rul

theorem string_cells : Tryz.prog.cellsOf 9 = 1:=by kernel_rfl
section
variable {H : Type} {enc : TypeId × Value → H}
end

end Go.Proofs.YtgdjeddelcfgeaaGreatDoor
namespace Go.Proofs.YtgdjeddelcfgeaaGreatDoor
open Go.ChangeShapes Go.WideShapes Go.ChangeAt Go.RowKit Go.Joins

theorem add_flat8 (b off k : Nat) : (⟨b,off,none⟩ : Addr).add k = ⟨b,off + k,none⟩:=by simp [Addr.add]
section
variable {H : Type} {enc : TypeId × Value → H}
theorem open_texts {W : World} {A : Option Addr} {n c base : Nat} {sp : Nat → Bool} {hd : Bool} {d : DataW H} {p : List MemPlace} (h : DataW.Trod enc Tryz.prog W base sp hd 32 (.slice A n c) d p) :
  ∃ l : List Rt.Tx,n = l.length ∧ l.length ≤ maxLen ∧ RowS W A l:=by
 obtain ⟨fuel,hf⟩:=h
 rcases Go.ChangeShapes.open_strings Tryz.underlying32 Tryz.underlying9 string_cells hf with ⟨hcs,_⟩ | ⟨a,len,cap,ss,hcs,_,hl,hm,hz,_,hcell,_⟩
 ·simp [Value.cells] at hcs
  obtain ⟨rfl,rfl,rfl⟩:=hcs
  exact ⟨[],rfl,Nat.zero_le _,RowS.nil _ _⟩
 ·simp [Value.cells] at hcs
  obtain ⟨rfl,rfl,rfl⟩:=hcs
  have hnm : n ≤ ss.length:=by rw [hz]; split <;> omega
  refine ⟨(ss.take n).map (·.data.toList),by simp; omega,by simp; omega,fun hne => ?_⟩
  have hn : 0 < n:=by
   rcases Nat.eq_zero_or_pos n with h0 | h0
   ·subst h0; simp at hne
   ·exact h0
  obtain ⟨b,off,spot⟩:=a
  have c0:=hcell 0 (by omega)
  have hspot : spot = none:=by simpa [Addr.add] using World.cell?_spot c0
  subst hspot
  have hb : b < W.heap.size:=by
   have:=World.block_lt_of_cell? _ _ c0
   simpa [Addr.add] using this
  refine ⟨b,off,rfl,hb,fun i hi' => ?_⟩
  have hin : i < n:=by simp at hi'; omega
  have g:=hcell i (by omega)
  rw [add_flat8] at g
  rw [g,List.getElem_map,List.getElem_take,data_str]
  congr 2
  simp [List.getD_eq_getElem?_getD,List.getElem?_eq_getElem (show i < ss.length by omega)]
end

end Go.Proofs.YtgdjeddelcfgeaaGreatDoor

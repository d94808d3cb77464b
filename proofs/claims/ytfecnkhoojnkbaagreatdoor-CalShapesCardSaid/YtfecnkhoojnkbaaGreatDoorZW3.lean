/- RtC; RtD of the recipes, what is needed of them. -/
import Derived.Laws.MakeOwn
import Derived.Laws.IdiomStrings
import Derived.Great.BuildSlice
import Derived.RegionTactic
import Derived.Lib.IndexBytes
import Derived.Lib.ItoaLen
import Derived.Test.YtfecnkhoojnkbaaGreatDoorZW2
import Derived.Test.YtfecnkhoojnkbaaGreatDoorZM1
import Derived.Test.YtfecnkhoojnkbaaGreatDoorZM2
set_option maxHeartbeats 8000000
set_option maxRecDepth 100000
namespace Go.Proofs.YtfecnkhoojnkbaaGreatDoor
open Go.RowKit Rul Rt Go.Sort
def RowS (w : World) (A : Option Addr) (l : List Tx) : Prop :=
 l ≠ [] -> ∃ b off,A = some ⟨b,off,none⟩ /\ b < w.heap.size /\ ∀ i (h : i < l.length),w.cell? ⟨b,off + i,none⟩ = some (.string (str l[i]))
theorem RowS.keep {w w' : World} {A : Option Addr} {l : List Tx} (h : RowS w A l) (hb : Below w.heap.size w w') : RowS w' A l:=fun hn => by
 obtain ⟨b,off,e,hl,hc⟩:=h hn
 exact ⟨b,off,e,Nat.lt_of_lt_of_le hl hb.size,fun i hi => (hb.cell (p:=⟨b,_,none⟩) hl).trans (hc i hi)⟩
theorem RowS.nil (w : World) (A : Option Addr) : RowS w A []:=fun h => absurd rfl h
def cellsS (l : List Tx) : List Value:=l.map fun t => Value.string (str t)
theorem cellsS_append (l k : List Tx) : cellsS (l ++ k) = cellsS l ++ cellsS k:=List.map_append
theorem cellsS_len (l : List Tx) : (cellsS l).length = l.length:=List.length_map _
abbrev OwnS (w : World) (B : Nat) (v : Value) (l : List Tx) : Prop:=w.ownsRow B 9 1 v l.length (cellsS l)
theorem OwnS.row {w : World} {B : Nat} {v : Value} {l : List Tx} (h : OwnS w B v l) : ∃ A cap,v = .slice A l.length cap /\ RowS w A l /\ l.length <= cap:=by
 have h2:=h.2
 rcases h2 with ⟨rfl,hn⟩ | ⟨g,cap,cur,rfl,hb,hg,hnc,hcm,hcs,htake⟩
 ·refine ⟨none,0,by rw [hn],fun hl => absurd (List.eq_nil_of_length_eq_zero hn) hl,by omega⟩
 ·refine ⟨some ⟨g,0,none⟩,cap,rfl,fun _ => ⟨g,0,rfl,(h.lt g rfl).2,fun i hi => ?_⟩,hnc⟩
  have hc:=World.ownsRow.cells h (g:=g) rfl
  have g1:=hc i (.string (str l[i])) (by simp [cellsS,hi])
  rw [plus] at g1
  rw [Nat.zero_add]
  exact g1
theorem OwnS.keep {w w1 : World} {B : Nat} {v : Value} {l : List Tx} (h : OwnS w B v l) (hb : Below w.heap.size w w1) : OwnS w1 B v l :=
 World.ownsRow.kept (row:=none) h ⟨hb.os,hb.tape,hb.output,hb.size,fun i hi _ => hb.block i hi⟩ (by cases v.ownBlock <;> simp)
theorem ownS_nil (w : World) (B : Nat) : OwnS w B (.slice none 0 0) []:=World.ownsRow_nil _ _ _ _
theorem OwnS.low {w : World} {B B2 : Nat} {v : Value} {l : List Tx} (h : OwnS w B v l) (hb : B2 <= B) : OwnS w B2 v l:=by
 refine ⟨h.1,?_⟩
 rcases h.2 with g | ⟨g,cap,cur,e,hg,r⟩
 ·exact Or.inl g
 ·exact Or.inr ⟨g,cap,cur,e,Nat.le_trans hb hg,r⟩
theorem string_info : (Tryz.prog.info? 9).map (fun i => (i.zero,i.size,i.bytes)) = some (some (.string ByteArray.empty),1,16):=by kernel_rfl
theorem wp_oneS {ops : Array Oper} {rest : List Oper} {o : Oper} {a : Act} {Q : Exit -> Act -> World -> Prop} {w : World} {B : Nat} {v : Value} {l : List Tx} {p : Tx} (hgd : o.guard = none) (s x : Operand)
  (ho : o.op = .call { callee:=.builtin .append,args:=#[s,x],argTypes:=#[52,52] }) (hs : a.eval s = v) {N : Nat} (hN : w.heap.size = N) (hx : a.eval x = .slice (some ⟨N,0,none⟩) 1 1)
  (hown : OwnS w B v l) (hB : B <= w.heap.size) (hn : l.length <= 1000000)
  (h : ∀ v' w',OwnS w' B v' (l ++ [p]) -> Below B w w' -> wpList Tryz.prog ops Q rest (a.put o.dst v') w') :
  wpList Tryz.prog ops Q (o :: rest) a (w.alloc (.cells #[.string (str p)] 9)):=by
 subst hN
 obtain ⟨i0,hi,hz0,hz1,hz2⟩:=info_parts string_info
 refine wpList_append_own _ hgd s x 52 ho B 9 i0 _ 1 16 Tryz.underlying52 hi hz0 hz1 hz2 rfl (by decide) v l.length (cellsS l) hs (hown.alloc _) ⟨w.heap.size,0,none⟩ 1 1 [.string (str p)] hx rfl ?_ ?_ ?_ ?_ ?_ ?_
 ·intro j u hu
  rw [plus,World.cell?_alloc_at _ _ _ _ rfl]
  exact (by simpa using hu)
 ·intro u hu
  simp only [List.mem_cons,List.not_mem_nil,or_false] at hu
  subst hu; rfl
 ·unfold maxLen; omega
 ·omega
 ·simp only [World.size_alloc]; omega
 ·intro v' w' h2 h3 _
  refine h v' w' (by rw [OwnS,cellsS_append,List.length_append]; exact h2) (((Below.refl B w).alloc hB _).grown h3 (by simp only [World.size_alloc]; omega) fun j hj => (hown.lt j hj).1)
theorem wp_makeS {ops : Array Oper} {rest : List Oper} {o : Oper} {a : Act} {Q : Exit -> Act -> World -> Prop} {w : World} (hgd : o.guard = none) (l c : Operand)
  (ho : o.op = .makeSlice 52 l c) (hl : a.eval l = .int .i64 0) {C : Int} {n : Nat} (hc : a.eval c = .int .i64 C) (hC : C = (n : Int)) (hn : n <= 1000000)
  (h : ∀ v w',OwnS w' w.heap.size v [] -> Below w.heap.size w w' -> wpList Tryz.prog ops Q rest (a.put o.dst v) w') :
  wpList Tryz.prog ops Q (o :: rest) a w:=by
 obtain ⟨i0,hi,hz0,hz1,hz2⟩:=info_parts string_info
 refine wpList_make_own w hgd l c 52 ho w.heap.size 9 i0 _ 1 Tryz.underlying52 hi hz0 hz1 .i64 .i64 C n hl hc hC (by rw [hz2]; omega) (by unfold maxLen; omega) (Nat.le_refl _) ?_
 intro w' h2 h3
 exact h _ w' h2 ((Below.refl w.heap.size w).grown h3 (Nat.le_refl _) fun j hj => by cases hj)
theorem tx_eq (a b : Tx) : (a == b) = decide (a = b):=by
 by_cases h : a = b
 ·subst h; simp
 ·simp [h]
def ixE (l : List Tx) (x : Tx) : Int:=match ixOf l x with
 | some k => k
 | none => -1
theorem ixOf_at {x : Tx} : ∀ (l : List Tx) (j : Nat) (hj : j < l.length),(∀ i (hi : i < l.length),i < j -> l[i] ≠ x) -> l[j] = x -> ixOf l x = some j
 | [],j,hj,_,_ => by simp at hj
 | y :: l,0,hj,_,h => by
  have : y = x:=h
  unfold ixOf; rw [if_pos this]
 | y :: l,j + 1,hj,hn,h => by
  have h0 : y ≠ x:=hn 0 (by simp) (by omega)
  unfold ixOf
  rw [if_neg h0,ixOf_at l j (by simpa using hj) (fun i hi hij => hn (i + 1) (by simpa using hi) (by omega)) h]
  rfl
theorem ixOf_nowhere {x : Tx} : ∀ (l : List Tx),(∀ i (hi : i < l.length),l[i] ≠ x) -> ixOf l x = none
 | [],_ => rfl
 | y :: l,hn => by
  have h0 : y ≠ x:=hn 0 (by simp)
  unfold ixOf
  rw [if_neg h0,ixOf_nowhere l fun i hi => hn (i + 1) (by simpa using hi)]
  rfl
theorem ixE_at (l : List Tx) (x : Tx) (j : Nat) (hj : j < l.length) (hn : ∀ i (hi : i < l.length),i < j -> l[i] ≠ x) (h : l[j] = x) : ixE l x = j:=by
 unfold ixE; rw [ixOf_at l j hj hn h]
theorem ixE_no (l : List Tx) (x : Tx) (hn : ∀ i (hi : i < l.length),l[i] ≠ x) : ixE l x = -1:=by
 unfold ixE; rw [ixOf_nowhere l hn]
theorem ixE_mem (l : List Tx) (x : Tx) : decide (0 <= ixE l x) = decide (x ∈ l):=by
 unfold ixE
 cases h : ixOf l x with
 | none => rw [decide_eq_false (ixOf_none h)]; rfl
 | some k => rw [decide_eq_true (List.mem_of_getElem? (ixOf_some h))]; exact decide_eq_true (Int.natCast_nonneg k)
theorem ixS_any (m : Tx) (A : Option Addr) (n c : Nat) (l : List Tx) (w : World) (hl : RowS w A l) (hn : n = l.length) (hsz : l.length <= 1000) :
  Calls Tryz.prog 215 #[.slice A n c,.string (str m)] w (Ans w (.int .i64 (ixE l m))):=by
 subst hn
 by_cases hnil : l = []
 ·subst hnil
  go_enter Tryz.func215,Tryz.ntmps215
  go_wp2_with fail
  refine wp_loop_rounds 1 ?_
  rw [rounds_succ]
  go_wp2_with fail
  go_ret
  exact ⟨rfl,start _⟩
 ·obtain ⟨b1,o1,rfl,hb1,hc1⟩:=hl hnil
  have HC1:=hide hc1
  clear hl hc1 hnil
  go_enter Tryz.func215,Tryz.ntmps215
  go_wp2_with fail
  go_loopw [8] (fun i wr => ∃ j : Nat,j <= l.length /\ i = .int .i64 j /\ (∀ i (hi : i < l.length),i < j -> l[i] ≠ m) /\ Below w.heap.size w wr) (fun i _ => l.length - (intOf i).toNat)
  case atStart => exact ⟨0,Nat.zero_le _,rfl,fun i hi h => absurd h (Nat.not_lt_zero _),start _⟩
  case round =>
   obtain ⟨j,hj,rfl,heq,hbw⟩:=hrel
   have HE:=hide heq
   clear heq
   by_cases hlt : j < l.length
   ·obtain ⟨x,hx⟩ : ∃ x,l[j] = x:=⟨_,rfl⟩
    have p1 : wr.cell? ⟨b1,o1 + j,none⟩ = some (.string (str x)):=by rw [<- hx]; exact (hbw.cell (p:=⟨b1,_,none⟩) hb1).trans (HC1.out j hlt)
    have hi0 : (0 : Int) <= (j : Int):=by omega
    have hi1 : (j : Int) < (l.length : Int):=by omega
    have q1:=str_tl x
    have q2:=str_tl m
    by_cases hq : m = x
    ·have HN:=hide (ixE_at l m j hlt HE.out (by rw [hx,hq]))
     have q3 : (m == x) = true:=by rw [tx_eq,decide_eq_true hq]
     have q4 : (x == m) = true:=by rw [tx_eq,decide_eq_true hq.symm]
     clear hx hq
     go_wp2_with fail
     go_ret
     exact ⟨ret_int HN.out.symm,hbw⟩
    ·have HN : Hid (∀ i (hi : i < l.length),i < j + 1 -> l[i] ≠ m):=hide (fun i hi hij => by
      rcases Nat.lt_or_ge i j with g | g
      ·exact HE.out i hi g
      ·obtain rfl : i = j:=by omega
       rw [hx]; exact fun e => hq e.symm)
     have q3 : (m == x) = false:=by rw [tx_eq,decide_eq_false hq]
     have q4 : (x == m) = false:=by rw [tx_eq,decide_eq_false fun e => hq e.symm]
     clear hx hq
     go_wp2_with fail
     go_roundw
     case rel => exact ⟨j + 1,by omega,by go_num,HN.out,hbw⟩
     case measure => simp [intOf]; omega
   ·obtain rfl : j = l.length:=by omega
    have HF:=hide (ixE_no l m fun i hi => HE.out i hi hi)
    go_wp2_with fail
    go_ret
    exact ⟨ret_int HF.out.symm,hbw⟩
theorem containsS_any (m : Tx) (A : Option Addr) (n c : Nat) (l : List Tx) (w : World) (hl : RowS w A l) (hn : n = l.length) (hsz : l.length <= 1000) :
  Calls Tryz.prog 203 #[.slice A n c,.string (str m)] w (Ans w (.bool (decide (m ∈ l)))):=by
 subst hn
 have HL:=hide hl
 have HM:=hide (ixE_mem l m)
 clear hl
 go_enter Tryz.func203,Tryz.ntmps203
 go_wp2_with fail
 refine (ixS_any m A _ c l _ HL.out rfl hsz).mono ?_
 rintro e w1 ⟨rfl,hb⟩
 go_wp2_with fail
 go_ret
 exact ⟨ret_bool HM.out,hb⟩
end Go.Proofs.YtfecnkhoojnkbaaGreatDoor
namespace Go.Proofs.YtfecnkhoojnkbaaGreatDoor
open Go.RowKit Rul Rt
theorem bs1 (p : Int) (w : World) : (Instr.buildSlice 32 1 #[(0,.int .u8 p)]).run Tryz.prog w = .ok (.slice (some ⟨w.heap.size,0,none⟩) 1 1) (w.alloc (.cells #[.int .u8 p] 5)):=by kernel_rfl
theorem cv1 (p : Int) (w : World) (b : Nat) (p1 : 0 <= p) (p2 : p <= 255) (hc : w.cell? ⟨b,0,none⟩ = some (.int .u8 p)) :
  (convert 32 9 (.slice (some ⟨b,0,none⟩) 1 1)).run Tryz.prog w = .ok (.string (str [UInt8.ofNat p.toNat])) w:=by
 refine run_convert_bytes_back (P:=Tryz.prog) w 32 9 5 ⟨b,0,none⟩ 1 [UInt8.ofNat p.toNat] Tryz.underlying32 Tryz.underlying5 Tryz.underlying9 ?_
 intro j hj
 have hj2 : j = 0:=by simp at hj; omega
 subst hj2
 simp [Addr.add,hc]; omega
theorem rNum_small (n : Int) (w : World) (h1 : 0 <= n) (h2 : n < 10) :
  Calls Tryz.prog 39 #[.int .i64 n] w (Ans w (.string (str (Lib.itoa n)))):=by
 have hbs:=bs1
 have hcv:=cv1 (48 + n) (w.alloc (.cells #[.int .u8 (48 + n)] 5)) w.heap.size (by omega) (by omega) (by rw [World.cell?_alloc_at _ _ _ _ rfl]; rfl)
 have HG : Hid ([UInt8.ofNat (48 + n).toNat] = Lib.itoa n):=hide (by rw [itoa_pos n h1,dec_small _ (by omega)]; congr 2; omega)
 go_enter Tryz.func39,Tryz.ntmps39
 go_wp2_with fail
 go_ret
 exact ⟨ret_str (by rw [HG.out]),more (start _) _⟩
theorem rNum_step (n : Int) (w : World) (h1 : 10 <= n) (h2 : n <= 1000000000) (ih : ∀ w,Calls Tryz.prog 39 #[.int .i64 (n / 10)] w (Ans w (.string (str (Lib.itoa (n / 10)))))) :
  Calls Tryz.prog 39 #[.int .i64 n] w (Ans w (.string (str (Lib.itoa n)))):=by
 have hbs:=bs1
 have hcv:=fun w b => cv1 (48 + n % 10) w b (by omega) (by omega)
 have HG : Hid (Lib.itoa (n / 10) ++ [UInt8.ofNat (48 + n % 10).toNat] = Lib.itoa n):=hide (by
  rw [itoa_pos n (by omega),itoa_pos (n / 10) (by omega),dec_big n.toNat (by omega)]
  congr 1
  ·congr 1; omega
  ·congr 2; omega)
 have HI:=hide ih
 have hlen : (Lib.itoa (n / 10)).length <= 20:=by
  rw [itoa_pos (n / 10) (by omega)]
  have:=dec_len 9 (n / 10).toNat (by omega)
  omega
 generalize Lib.itoa (n / 10) = L at *
 have hsz : (str L).size <= 20:=by rw [str_size]; exact hlen
 have hsd : (str [UInt8.ofNat (48 + n % 10).toNat]).size = 1:=by rw [str_size]; rfl
 clear ih hlen
 go_enter Tryz.func39,Tryz.ntmps39
 go_wp2_with fail
 have E1 : IntKind.i64.wrap (n.tdiv 10) = n / 10:=by rw [Int.tdiv_eq_ediv_of_nonneg (by omega)]; exact IntWalk.i64_in _ (by omega)
 have E2 : n.tmod 10 = n % 10:=Int.tmod_eq_emod_of_nonneg (by omega)
 have E3 : IntKind.i64.wrap (48 + n % 10) = 48 + n % 10:=IntWalk.i64_in _ (by omega)
 have E4 : IntKind.u8.wrap (48 + n % 10) = 48 + n % 10:=IntWalk.u8_in _ (by omega)
 have hcx0 : (w.alloc (.cells #[.int .u8 (48 + n % 10)] 5)).drew.cell? ⟨w.heap.size,0,none⟩ = some (.int .u8 (48 + n % 10)):=by simp
 go_region_with (first | (go_at_call 39; with_reducible refine (HI.out (w.alloc (.cells #[.int .u8 (48 + n % 10)] 5)).drew).mono ?_; rintro e w2 ⟨rfl,hb⟩; have hcx:=cell_keep hb hcx0) | (go_at_call 39; with_reducible refine (HI.out _).mono ?_; rintro e w2 ⟨rfl,hb⟩))
 all_goals
  go_wp2_with fail
  go_ret
  refine ⟨ret_str (by rw [str_app,HG.out]),?_⟩
  first
   | exact more (andthen (start w).drew hb) _
   | exact andthen ((more (start w) _).drew) hb
theorem rNum_all : ∀ (k : Nat) (n : Int) (w : World),0 <= n -> n <= 1000000000 -> n.toNat <= k →
  Calls Tryz.prog 39 #[.int .i64 n] w (Ans w (.string (str (Lib.itoa n))))
 | 0,n,w,h0,h1,hk => rNum_small n w h0 (by omega)
 | k + 1,n,w,h0,h1,hk => by
  by_cases h : n < 10
  ·exact rNum_small n w h0 h
  ·exact rNum_step n w (by omega) h1 fun w' => rNum_all k (n / 10) w' (by omega) (by omega) (by omega)
theorem rNum_any (n : Int) (w : World) (h0 : -1000000000 <= n) (h1 : n <= 1000000000) :
  Calls Tryz.prog 39 #[.int .i64 n] w (Ans w (.string (str (Lib.itoa n)))):=by
 by_cases h : 0 <= n
 ·exact rNum_all n.toNat n w h h1 (Nat.le_refl _)
 ·have HG : Hid ([45] ++ Lib.itoa (-n) = Lib.itoa n):=hide (by rw [itoa_ng n (by omega),itoa_pos (-n) (by omega),show (-n).toNat = n.natAbs by omega]; rfl)
  have hlen : (Lib.itoa (-n)).length <= 20:=by
   rw [itoa_pos (-n) (by omega)]
   have:=dec_len 9 (-n).toNat (by omega)
   omega
  have HI:=hide (fun w => rNum_all (-n).toNat (-n) w (by omega) (by omega) (Nat.le_refl _))
  generalize Lib.itoa (-n) = L at *
  have hsz : (str L).size <= 20:=by rw [str_size]; exact hlen
  clear hlen
  go_enter Tryz.func39,Tryz.ntmps39
  go_wp2_with fail
  refine (HI.out _).mono ?_
  rintro e w2 ⟨rfl,hb⟩
  go_wp2_with fail
  go_ret
  exact ⟨ret_str (by rw [<- HG.out,<- str_app]; rfl),hb⟩
end Go.Proofs.YtfecnkhoojnkbaaGreatDoor
namespace Go.Proofs.YtfecnkhoojnkbaaGreatDoor
open Go.RowKit Rul Rt Go.Sort
def GivesS (w : World) (l : List Tx) (e : Ending) (w' : World) : Prop:=∃ v,e = .returned v /\ OwnS w' w.heap.size v l /\ Below w.heap.size w w'
theorem GivesS.is {w : World} {l k : List Tx} {e : Ending} {w' : World} (h : GivesS w l e w') (he : l = k) : GivesS w k e w':=he ▸ h
theorem len_of (s : ByteArray) : s.data.toList.length = s.size:=by simp
theorem byte_eq (a b : UInt8) : ((a.toNat : Int) == (b.toNat : Int)) = decide (a = b):=by
 by_cases h : a = b
 ·subst h; simp
 ·rw [decide_eq_false h,beq_eq_false_iff_ne]
  intro e; exact h (UInt8.toNat_inj.1 (by omega))
theorem str_of (s : ByteArray) : s = str s.data.toList:=by apply ByteArray.ext; simp [str]
theorem ext_str (s : ByteArray) (a b : Nat) : s.extract a b = str ((s.data.toList.take b).drop a):=by
 rw [str_of (s.extract a b),Lib.extract_data]
 congr 1
 rw [List.drop_take]
theorem ext_end (s : ByteArray) (a : Nat) : s.extract a s.size = str (s.data.toList.drop a):=by
 rw [ext_str]
 congr 2
 exact List.take_of_length_le (by simp)
theorem take_next (s : ByteArray) (k : Nat) (h : k < s.size) : s.data.toList.take (k + 1) = s.data.toList.take k ++ [s[k]]:=by
 rw [List.take_succ_eq_append_getElem (by simpa using h)]; rfl
theorem rfreq_1 (w : World) : Calls Tryz.prog 66 #[.int .i64 1] w (Ans w (.string (str (freqT 1)))):=by
 have ix : ∀ w,(Instr.index 138 (.agg #[.string ⟨#[]⟩,.string ⟨#[68,65,73,76,89]⟩,.string ⟨#[87,69,69,75,76,89]⟩,.string ⟨#[77,79,78,84,72,76,89]⟩,.string ⟨#[89,69,65,82,76,89]⟩]) (.int .i64 1)).run Tryz.prog w = .ok (.string ⟨#[68,65,73,76,89]⟩) w:=fun _ => by kernel_rfl
 go_enter Tryz.func66,Tryz.ntmps66
 go_wp2_with fail
 go_ret
 exact ⟨rfl,start _⟩
theorem rfreq_2 (w : World) : Calls Tryz.prog 66 #[.int .i64 2] w (Ans w (.string (str (freqT 2)))):=by
 have ix : ∀ w,(Instr.index 138 (.agg #[.string ⟨#[]⟩,.string ⟨#[68,65,73,76,89]⟩,.string ⟨#[87,69,69,75,76,89]⟩,.string ⟨#[77,79,78,84,72,76,89]⟩,.string ⟨#[89,69,65,82,76,89]⟩]) (.int .i64 2)).run Tryz.prog w = .ok (.string ⟨#[87,69,69,75,76,89]⟩) w:=fun _ => by kernel_rfl
 go_enter Tryz.func66,Tryz.ntmps66
 go_wp2_with fail
 go_ret
 exact ⟨rfl,start _⟩
theorem rfreq_3 (w : World) : Calls Tryz.prog 66 #[.int .i64 3] w (Ans w (.string (str (freqT 3)))):=by
 have ix : ∀ w,(Instr.index 138 (.agg #[.string ⟨#[]⟩,.string ⟨#[68,65,73,76,89]⟩,.string ⟨#[87,69,69,75,76,89]⟩,.string ⟨#[77,79,78,84,72,76,89]⟩,.string ⟨#[89,69,65,82,76,89]⟩]) (.int .i64 3)).run Tryz.prog w = .ok (.string ⟨#[77,79,78,84,72,76,89]⟩) w:=fun _ => by kernel_rfl
 go_enter Tryz.func66,Tryz.ntmps66
 go_wp2_with fail
 go_ret
 exact ⟨rfl,start _⟩
theorem rfreq_4 (w : World) : Calls Tryz.prog 66 #[.int .i64 4] w (Ans w (.string (str (freqT 4)))):=by
 have ix : ∀ w,(Instr.index 138 (.agg #[.string ⟨#[]⟩,.string ⟨#[68,65,73,76,89]⟩,.string ⟨#[87,69,69,75,76,89]⟩,.string ⟨#[77,79,78,84,72,76,89]⟩,.string ⟨#[89,69,65,82,76,89]⟩]) (.int .i64 4)).run Tryz.prog w = .ok (.string ⟨#[89,69,65,82,76,89]⟩) w:=fun _ => by kernel_rfl
 go_enter Tryz.func66,Tryz.ntmps66
 go_wp2_with fail
 go_ret
 exact ⟨rfl,start _⟩
theorem rfreq_any (n : Int) (w : World) (h1 : 1 <= n) (h2 : n <= 4) : Calls Tryz.prog 66 #[.int .i64 n] w (Ans w (.string (str (freqT n)))):=by
 rcases (by omega : n = 1 ∨ n = 2 ∨ n = 3 ∨ n = 4) with rfl | rfl | rfl | rfl
 ·exact rfreq_1 w
 ·exact rfreq_2 w
 ·exact rfreq_3 w
 ·exact rfreq_4 w
theorem rDay_0z  (w : World) : Calls Tryz.prog 68 #[.agg #[.int .i64 0,.int .i64 0]] w (Ans w (.string (str (dayT (0,0))))):=by
 have hx : (⟨#[77,79,84,85,87,69,84,72,70,82,83,65,83,85]⟩ : ByteArray).extract 0 2 = ⟨#[77,79]⟩:=by decide +kernel
 go_enter Tryz.func68,Tryz.ntmps68
 go_wp2_with fail
 go_ret
 exact ⟨rfl,more (start _) _⟩
theorem rDay_0n (n : Int) (w : World) (h0 : ¬ n = 0) (b1 : -1000000000 <= n) (b2 : n <= 1000000000) : Calls Tryz.prog 68 #[.agg #[.int .i64 n,.int .i64 0]] w (Ans w (.string (str (dayT (n,0))))):=by
 have hx : (⟨#[77,79,84,85,87,69,84,72,70,82,83,65,83,85]⟩ : ByteArray).extract 0 2 = ⟨#[77,79]⟩:=by decide +kernel
 have hd : Hid (dayT (n,0) = Lib.itoa n ++ [77,79]):=hide (by unfold dayT; rw [if_pos (by simp),if_neg h0]; rfl)
 have hq : (n == 0) = false:=by rw [beq_eq_false_iff_ne]; exact h0
 have hsz : (str (Lib.itoa n)).size <= 30:=by rw [str_size]; exact Nat.le_trans (Lib.itoa_length_le n (by omega) (by omega)) (by omega)
 have HC:=hide (fun w => rNum_any n w b1 b2)
 generalize Lib.itoa n = L at *
 clear h0
 go_enter Tryz.func68,Tryz.ntmps68
 go_wp2_with fail
 refine (HC.out _).mono ?_
 rintro e w2 ⟨rfl,hb⟩
 go_wp2_with fail
 go_ret
 exact ⟨ret_str (by rw [hd.out,<- str_app]; rfl),andthen (more (start w) _) hb⟩
theorem rDay_1z  (w : World) : Calls Tryz.prog 68 #[.agg #[.int .i64 0,.int .i64 1]] w (Ans w (.string (str (dayT (0,1))))):=by
 have hx : (⟨#[77,79,84,85,87,69,84,72,70,82,83,65,83,85]⟩ : ByteArray).extract 2 4 = ⟨#[84,85]⟩:=by decide +kernel
 go_enter Tryz.func68,Tryz.ntmps68
 go_wp2_with fail
 go_ret
 exact ⟨rfl,more (start _) _⟩
theorem rDay_1n (n : Int) (w : World) (h0 : ¬ n = 0) (b1 : -1000000000 <= n) (b2 : n <= 1000000000) : Calls Tryz.prog 68 #[.agg #[.int .i64 n,.int .i64 1]] w (Ans w (.string (str (dayT (n,1))))):=by
 have hx : (⟨#[77,79,84,85,87,69,84,72,70,82,83,65,83,85]⟩ : ByteArray).extract 2 4 = ⟨#[84,85]⟩:=by decide +kernel
 have hd : Hid (dayT (n,1) = Lib.itoa n ++ [84,85]):=hide (by unfold dayT; rw [if_pos (by simp),if_neg h0]; rfl)
 have hq : (n == 0) = false:=by rw [beq_eq_false_iff_ne]; exact h0
 have hsz : (str (Lib.itoa n)).size <= 30:=by rw [str_size]; exact Nat.le_trans (Lib.itoa_length_le n (by omega) (by omega)) (by omega)
 have HC:=hide (fun w => rNum_any n w b1 b2)
 generalize Lib.itoa n = L at *
 clear h0
 go_enter Tryz.func68,Tryz.ntmps68
 go_wp2_with fail
 refine (HC.out _).mono ?_
 rintro e w2 ⟨rfl,hb⟩
 go_wp2_with fail
 go_ret
 exact ⟨ret_str (by rw [hd.out,<- str_app]; rfl),andthen (more (start w) _) hb⟩
theorem rDay_2z  (w : World) : Calls Tryz.prog 68 #[.agg #[.int .i64 0,.int .i64 2]] w (Ans w (.string (str (dayT (0,2))))):=by
 have hx : (⟨#[77,79,84,85,87,69,84,72,70,82,83,65,83,85]⟩ : ByteArray).extract 4 6 = ⟨#[87,69]⟩:=by decide +kernel
 go_enter Tryz.func68,Tryz.ntmps68
 go_wp2_with fail
 go_ret
 exact ⟨rfl,more (start _) _⟩
theorem rDay_2n (n : Int) (w : World) (h0 : ¬ n = 0) (b1 : -1000000000 <= n) (b2 : n <= 1000000000) : Calls Tryz.prog 68 #[.agg #[.int .i64 n,.int .i64 2]] w (Ans w (.string (str (dayT (n,2))))):=by
 have hx : (⟨#[77,79,84,85,87,69,84,72,70,82,83,65,83,85]⟩ : ByteArray).extract 4 6 = ⟨#[87,69]⟩:=by decide +kernel
 have hd : Hid (dayT (n,2) = Lib.itoa n ++ [87,69]):=hide (by unfold dayT; rw [if_pos (by simp),if_neg h0]; rfl)
 have hq : (n == 0) = false:=by rw [beq_eq_false_iff_ne]; exact h0
 have hsz : (str (Lib.itoa n)).size <= 30:=by rw [str_size]; exact Nat.le_trans (Lib.itoa_length_le n (by omega) (by omega)) (by omega)
 have HC:=hide (fun w => rNum_any n w b1 b2)
 generalize Lib.itoa n = L at *
 clear h0
 go_enter Tryz.func68,Tryz.ntmps68
 go_wp2_with fail
 refine (HC.out _).mono ?_
 rintro e w2 ⟨rfl,hb⟩
 go_wp2_with fail
 go_ret
 exact ⟨ret_str (by rw [hd.out,<- str_app]; rfl),andthen (more (start w) _) hb⟩
theorem rDay_3z  (w : World) : Calls Tryz.prog 68 #[.agg #[.int .i64 0,.int .i64 3]] w (Ans w (.string (str (dayT (0,3))))):=by
 have hx : (⟨#[77,79,84,85,87,69,84,72,70,82,83,65,83,85]⟩ : ByteArray).extract 6 8 = ⟨#[84,72]⟩:=by decide +kernel
 go_enter Tryz.func68,Tryz.ntmps68
 go_wp2_with fail
 go_ret
 exact ⟨rfl,more (start _) _⟩
theorem rDay_3n (n : Int) (w : World) (h0 : ¬ n = 0) (b1 : -1000000000 <= n) (b2 : n <= 1000000000) : Calls Tryz.prog 68 #[.agg #[.int .i64 n,.int .i64 3]] w (Ans w (.string (str (dayT (n,3))))):=by
 have hx : (⟨#[77,79,84,85,87,69,84,72,70,82,83,65,83,85]⟩ : ByteArray).extract 6 8 = ⟨#[84,72]⟩:=by decide +kernel
 have hd : Hid (dayT (n,3) = Lib.itoa n ++ [84,72]):=hide (by unfold dayT; rw [if_pos (by simp),if_neg h0]; rfl)
 have hq : (n == 0) = false:=by rw [beq_eq_false_iff_ne]; exact h0
 have hsz : (str (Lib.itoa n)).size <= 30:=by rw [str_size]; exact Nat.le_trans (Lib.itoa_length_le n (by omega) (by omega)) (by omega)
 have HC:=hide (fun w => rNum_any n w b1 b2)
 generalize Lib.itoa n = L at *
 clear h0
 go_enter Tryz.func68,Tryz.ntmps68
 go_wp2_with fail
 refine (HC.out _).mono ?_
 rintro e w2 ⟨rfl,hb⟩
 go_wp2_with fail
 go_ret
 exact ⟨ret_str (by rw [hd.out,<- str_app]; rfl),andthen (more (start w) _) hb⟩
theorem rDay_4z  (w : World) : Calls Tryz.prog 68 #[.agg #[.int .i64 0,.int .i64 4]] w (Ans w (.string (str (dayT (0,4))))):=by
 have hx : (⟨#[77,79,84,85,87,69,84,72,70,82,83,65,83,85]⟩ : ByteArray).extract 8 10 = ⟨#[70,82]⟩:=by decide +kernel
 go_enter Tryz.func68,Tryz.ntmps68
 go_wp2_with fail
 go_ret
 exact ⟨rfl,more (start _) _⟩
theorem rDay_4n (n : Int) (w : World) (h0 : ¬ n = 0) (b1 : -1000000000 <= n) (b2 : n <= 1000000000) : Calls Tryz.prog 68 #[.agg #[.int .i64 n,.int .i64 4]] w (Ans w (.string (str (dayT (n,4))))):=by
 have hx : (⟨#[77,79,84,85,87,69,84,72,70,82,83,65,83,85]⟩ : ByteArray).extract 8 10 = ⟨#[70,82]⟩:=by decide +kernel
 have hd : Hid (dayT (n,4) = Lib.itoa n ++ [70,82]):=hide (by unfold dayT; rw [if_pos (by simp),if_neg h0]; rfl)
 have hq : (n == 0) = false:=by rw [beq_eq_false_iff_ne]; exact h0
 have hsz : (str (Lib.itoa n)).size <= 30:=by rw [str_size]; exact Nat.le_trans (Lib.itoa_length_le n (by omega) (by omega)) (by omega)
 have HC:=hide (fun w => rNum_any n w b1 b2)
 generalize Lib.itoa n = L at *
 clear h0
 go_enter Tryz.func68,Tryz.ntmps68
 go_wp2_with fail
 refine (HC.out _).mono ?_
 rintro e w2 ⟨rfl,hb⟩
 go_wp2_with fail
 go_ret
 exact ⟨ret_str (by rw [hd.out,<- str_app]; rfl),andthen (more (start w) _) hb⟩
theorem rDay_5z  (w : World) : Calls Tryz.prog 68 #[.agg #[.int .i64 0,.int .i64 5]] w (Ans w (.string (str (dayT (0,5))))):=by
 have hx : (⟨#[77,79,84,85,87,69,84,72,70,82,83,65,83,85]⟩ : ByteArray).extract 10 12 = ⟨#[83,65]⟩:=by decide +kernel
 go_enter Tryz.func68,Tryz.ntmps68
 go_wp2_with fail
 go_ret
 exact ⟨rfl,more (start _) _⟩
theorem rDay_5n (n : Int) (w : World) (h0 : ¬ n = 0) (b1 : -1000000000 <= n) (b2 : n <= 1000000000) : Calls Tryz.prog 68 #[.agg #[.int .i64 n,.int .i64 5]] w (Ans w (.string (str (dayT (n,5))))):=by
 have hx : (⟨#[77,79,84,85,87,69,84,72,70,82,83,65,83,85]⟩ : ByteArray).extract 10 12 = ⟨#[83,65]⟩:=by decide +kernel
 have hd : Hid (dayT (n,5) = Lib.itoa n ++ [83,65]):=hide (by unfold dayT; rw [if_pos (by simp),if_neg h0]; rfl)
 have hq : (n == 0) = false:=by rw [beq_eq_false_iff_ne]; exact h0
 have hsz : (str (Lib.itoa n)).size <= 30:=by rw [str_size]; exact Nat.le_trans (Lib.itoa_length_le n (by omega) (by omega)) (by omega)
 have HC:=hide (fun w => rNum_any n w b1 b2)
 generalize Lib.itoa n = L at *
 clear h0
 go_enter Tryz.func68,Tryz.ntmps68
 go_wp2_with fail
 refine (HC.out _).mono ?_
 rintro e w2 ⟨rfl,hb⟩
 go_wp2_with fail
 go_ret
 exact ⟨ret_str (by rw [hd.out,<- str_app]; rfl),andthen (more (start w) _) hb⟩
theorem rDay_6z  (w : World) : Calls Tryz.prog 68 #[.agg #[.int .i64 0,.int .i64 6]] w (Ans w (.string (str (dayT (0,6))))):=by
 have hx : (⟨#[77,79,84,85,87,69,84,72,70,82,83,65,83,85]⟩ : ByteArray).extract 12 14 = ⟨#[83,85]⟩:=by decide +kernel
 go_enter Tryz.func68,Tryz.ntmps68
 go_wp2_with fail
 go_ret
 exact ⟨rfl,more (start _) _⟩
theorem rDay_6n (n : Int) (w : World) (h0 : ¬ n = 0) (b1 : -1000000000 <= n) (b2 : n <= 1000000000) : Calls Tryz.prog 68 #[.agg #[.int .i64 n,.int .i64 6]] w (Ans w (.string (str (dayT (n,6))))):=by
 have hx : (⟨#[77,79,84,85,87,69,84,72,70,82,83,65,83,85]⟩ : ByteArray).extract 12 14 = ⟨#[83,85]⟩:=by decide +kernel
 have hd : Hid (dayT (n,6) = Lib.itoa n ++ [83,85]):=hide (by unfold dayT; rw [if_pos (by simp),if_neg h0]; rfl)
 have hq : (n == 0) = false:=by rw [beq_eq_false_iff_ne]; exact h0
 have hsz : (str (Lib.itoa n)).size <= 30:=by rw [str_size]; exact Nat.le_trans (Lib.itoa_length_le n (by omega) (by omega)) (by omega)
 have HC:=hide (fun w => rNum_any n w b1 b2)
 generalize Lib.itoa n = L at *
 clear h0
 go_enter Tryz.func68,Tryz.ntmps68
 go_wp2_with fail
 refine (HC.out _).mono ?_
 rintro e w2 ⟨rfl,hb⟩
 go_wp2_with fail
 go_ret
 exact ⟨ret_str (by rw [hd.out,<- str_app]; rfl),andthen (more (start w) _) hb⟩
theorem rDay_low (n d : Int) (w : World) (h : d < 0) : Calls Tryz.prog 68 #[.agg #[.int .i64 n,.int .i64 d]] w (Ans w (.string (str (dayT (n,d))))):=by
 have hd : Hid (dayT (n,d) = []):=hide (by unfold dayT; rw [if_neg (by simp only; omega)])
 go_enter Tryz.func68,Tryz.ntmps68
 go_wp2_with fail
 go_ret
 exact ⟨by rw [hd.out]; rfl,more (start _) _⟩
theorem rDay_high (n d : Int) (w : World) (h : 6 < d) : Calls Tryz.prog 68 #[.agg #[.int .i64 n,.int .i64 d]] w (Ans w (.string (str (dayT (n,d))))):=by
 have hd : Hid (dayT (n,d) = []):=hide (by unfold dayT; rw [if_neg (by simp only; omega)])
 have h2 : decide (d < 0) = false:=decide_eq_false (by omega)
 go_enter Tryz.func68,Tryz.ntmps68
 go_wp2_with fail
 go_ret
 exact ⟨by rw [hd.out]; rfl,more (start _) _⟩
theorem rDay_any (n d : Int) (w : World) (b1 : -1000000000 <= n) (b2 : n <= 1000000000) : Calls Tryz.prog 68 #[.agg #[.int .i64 n,.int .i64 d]] w (Ans w (.string (str (dayT (n,d))))):=by
 by_cases hl : d < 0
 ·exact rDay_low n d w hl
 by_cases hh : 6 < d
 ·exact rDay_high n d w hh
 by_cases h0 : n = 0
 ·subst h0
  rcases (by omega : d = 0 ∨ d = 1 ∨ d = 2 ∨ d = 3 ∨ d = 4 ∨ d = 5 ∨ d = 6) with rfl | rfl | rfl | rfl | rfl | rfl | rfl
  ·exact rDay_0z w
  ·exact rDay_1z w
  ·exact rDay_2z w
  ·exact rDay_3z w
  ·exact rDay_4z w
  ·exact rDay_5z w
  ·exact rDay_6z w
 ·rcases (by omega : d = 0 ∨ d = 1 ∨ d = 2 ∨ d = 3 ∨ d = 4 ∨ d = 5 ∨ d = 6) with rfl | rfl | rfl | rfl | rfl | rfl | rfl
  ·exact rDay_0n n w h0 b1 b2
  ·exact rDay_1n n w h0 b1 b2
  ·exact rDay_2n n w h0 b1 b2
  ·exact rDay_3n n w h0 b1 b2
  ·exact rDay_4n n w h0 b1 b2
  ·exact rDay_5n n w h0 b1 b2
  ·exact rDay_6n n w h0 b1 b2
theorem listT_snoc {α : Type} (f : α -> Tx) (l : List α) (x : α) (h : l ≠ []) : listT f (l ++ [x]) = listT f l ++ [44] ++ f x:=by
 unfold listT
 rw [List.map_append,List.map_singleton,join_snoc 44 _ _ (by simpa using h)]; simp
theorem join_len (c : UInt8) (K : Nat) : ∀ ps : List Tx,(∀ p ∈ ps,p.length <= K) -> (joinAt c ps).length <= ps.length * (K + 1)
 | [],_ => by simp [joinAt]
 | [p],h => by have:=h p (by simp); simp [joinAt]; omega
 | p :: q :: r,h => by
  have h1:=h p (by simp)
  have h2:=join_len c K (q :: r) fun x hx => h x (List.mem_cons_of_mem _ hx)
  rw [joinAt,List.length_append,List.length_cons,List.length_cons (a:=p),Nat.succ_mul]
  omega
theorem listT_len {α : Type} (f : α -> Tx) (K : Nat) (l : List α) (h : ∀ x ∈ l,(f x).length <= K) : (listT f l).length <= l.length * (K + 1):=by
 have:=join_len 44 K (l.map f) fun p hp => by
  obtain ⟨x,hx,rfl⟩:=List.mem_map.1 hp; exact h x hx
 rwa [List.length_map] at this
theorem numbers_any (A : Option Addr) (n c : Nat) (l : List Int) (w : World) (hl : RowI w A l) (hn : n = l.length) (hsz : l.length <= 1000) (hb : ∀ x ∈ l,-1000000000 <= x /\ x <= 1000000000) :
  Calls Tryz.prog 67 #[.slice A n c] w (Ans w (.string (str (listT Lib.itoa l)))):=by
 subst hn
 have HR:=hide hl
 have HB:=hide hb
 have hc44 : (⟨#[44]⟩ : ByteArray) = str [44]:=rfl
 clear hl hb
 go_enter Tryz.func67,Tryz.ntmps67
 go_wp2_with fail
 go_loopw [3,4] (fun s i wr => ∃ j : Nat,j <= l.length /\ i = .int .i64 j /\ s = .string (str (listT Lib.itoa (l.take j))) /\ Below w.heap.size w wr) (fun _ i _ => l.length - (intOf i).toNat)
 case atStart => exact ⟨0,Nat.zero_le _,rfl,rfl,start _⟩
 case round =>
  obtain ⟨j,hj,rfl,rfl,hbw⟩:=hrel
  have HBR:=hide hbw
  clear hbw
  by_cases hlt : j < l.length
  ·obtain ⟨b1,o1,rfl,hb1,hc1⟩:=HR.out (by intro h0; rw [h0] at hlt; exact absurd hlt (Nat.not_lt_zero _))
   obtain ⟨m,hm⟩ : ∃ m,l[j] = m:=⟨_,rfl⟩
   have hmr:=HB.out l[j] (List.getElem_mem _)
   rw [hm] at hmr
   have p1 : wr.cell? ⟨b1,o1 + j,none⟩ = some (.int .i64 m):=by rw [<- hm]; exact (HBR.out.cell (p:=⟨b1,_,none⟩) hb1).trans (hc1 j hlt)
   have hi0 : (0 : Int) <= (j : Int):=by omega
   have hi1 : (j : Int) < (l.length : Int):=by omega
   have hTK : l.take (j + 1) = l.take j ++ [m]:=by rw [List.take_succ_eq_append_getElem hlt,hm]
   have hL : (listT Lib.itoa (l.take j)).length <= 31000:=by
    have h1:=listT_len Lib.itoa 30 (l.take j) fun x hx => Nat.le_trans (Lib.itoa_length_le x (by have:=HB.out x (List.mem_of_mem_take hx); omega) (by have:=HB.out x (List.mem_of_mem_take hx); omega)) (by omega)
    have h2 : (l.take j).length <= 1000:=by rw [List.length_take]; omega
    omega
   have hM : (str (Lib.itoa m)).size <= 30:=by rw [str_size]; exact Nat.le_trans (Lib.itoa_length_le m (by omega) (by omega)) (by omega)
   have h44 : (str [44]).size = 1:=rfl
   have HC:=hide (fun w => rNum_any m w hmr.1 hmr.2)
   clear hc1 hm hmr
   by_cases h0 : j = 0
   ·subst h0
    have HN : Hid (listT Lib.itoa (l.take (0 + 1)) = listT Lib.itoa (l.take 0) ++ Lib.itoa m):=hide (by rw [hTK]; rfl)
    have hS : (str (listT Lib.itoa (l.take 0))).size <= 31000:=by rw [str_size]; exact hL
    have p0:=p1
    rw [Nat.add_zero] at p0
    generalize listT Lib.itoa (l.take 0) = S at *
    generalize Lib.itoa m = M at *
    clear hTK hL
    go_wp2_with fail
    refine (HC.out _).mono ?_
    rintro e w2 ⟨rfl,hb⟩
    replace HBR:=hide (andthen HBR.out hb)
    go_wp2_with fail
    go_roundw
    case rel => exact ⟨0 + 1,by omega,by go_num,by rw [HN.out,<- str_app],HBR.out⟩
    case measure => simp [intOf]; omega
   ·have HN : Hid (listT Lib.itoa (l.take (j + 1)) = listT Lib.itoa (l.take j) ++ [44] ++ Lib.itoa m):=hide (by
     rw [hTK,listT_snoc _ _ _ (by intro e; have:=congrArg List.length e; rw [List.length_take,List.length_nil] at this; omega)])
    have hS : (str (listT Lib.itoa (l.take j))).size <= 31000:=by rw [str_size]; exact hL
    have hj0 : (0 : Int) < (j : Int):=by omega
    have hS2 : (str (listT Lib.itoa (l.take j)) ++ str [44]).size <= 31001:=by rw [str_app,str_size,List.length_append]; simp only [List.length_cons,List.length_nil]; omega
    generalize listT Lib.itoa (l.take j) = S at *
    generalize Lib.itoa m = M at *
    clear hTK hL h0
    go_wp2_with fail
    refine (HC.out _).mono ?_
    rintro e w2 ⟨rfl,hb⟩
    replace HBR:=hide (andthen HBR.out hb)
    go_wp2_with fail
    go_roundw
    case rel => exact ⟨j + 1,by omega,by go_num,by rw [HN.out,<- str_app,<- str_app],HBR.out⟩
    case measure => simp [intOf]; omega
  ·obtain rfl : j = l.length:=by omega
   have HF : Hid (l.take l.length = l):=hide List.take_length
   go_wp2_with fail
   go_ret
   exact ⟨by rw [HF.out]; rfl,HBR.out⟩
end Go.Proofs.YtfecnkhoojnkbaaGreatDoor

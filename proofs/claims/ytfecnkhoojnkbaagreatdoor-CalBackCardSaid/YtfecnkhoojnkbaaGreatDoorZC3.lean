/- CaH; CaE of the recipes, what is needed of them. -/
import Derived.Laws.OwnMore
import Derived.Test.YtfecnkhoojnkbaaGreatDoorZW9
import Derived.Test.YtfecnkhoojnkbaaGreatDoorZM4
import Derived.Test.YtfecnkhoojnkbaaGreatDoorZC2
set_option maxHeartbeats 8000000
set_option maxRecDepth 1000000
namespace Go.Proofs.YtfecnkhoojnkbaaGreatDoor
open Go.RowKit Rul Rt Go.Sort
def PreC (l : Tx) (k : Nat) : Prop:=Li.capE (l.take k) = Ca.wCAL.take k
theorem cwev_at (k : Nat) (h : k < 9) : (Ca.wCAL[k]'h).toNat ∈ [86,69,78,84,67,65,76,68,82]:=by
 have : ∀ k : Fin 9,(Ca.wCAL[k.val]'k.isLt).toNat ∈ [86,69,78,84,67,65,76,68,82]:=by decide
 exact this ⟨k,h⟩
theorem cwev_bd (k : Nat) (h : k < 9) : 65 <= (Ca.wCAL[k]'h).toNat /\ (Ca.wCAL[k]'h).toNat <= 90:=by
 have : ∀ k : Fin 9,65 <= (Ca.wCAL[k.val]'k.isLt).toNat /\ (Ca.wCAL[k.val]'k.isLt).toNat <= 90:=by decide
 exact this ⟨k,h⟩
theorem cpre_next {l : Tx} {k : Nat} (h : PreC l k) (hk : k < l.length) (h6 : k < 9) (hu : Li.up l[k] = Ca.wCAL[k]'h6) : PreC l (k + 1):=by
 unfold PreC at h ⊢
 unfold Li.capE at h ⊢
 have e2 : Ca.wCAL.take (k + 1) = Ca.wCAL.take k ++ [Ca.wCAL[k]'h6]:=List.take_succ_eq_append_getElem h6
 rw [List.take_succ_eq_append_getElem hk,List.map_append,h,e2,List.map_singleton,hu]
theorem cpre_bad {l : Tx} {k : Nat} (hk : k < l.length) (h6 : k < 9) (hu : Li.up l[k] ≠ Ca.wCAL[k]'h6) : Li.capE l ≠ Ca.wCAL:=fun g => by
 apply hu
 have hk2 : k < (Li.capE l).length:=by rw [Li.capE_len]; exact hk
 have : (Li.capE l)[k]'hk2 = Li.up l[k]:=by simp [Li.capE]
 rw [<- this]
 simp only [g]
 rfl
theorem cpre_end {l : Tx} (h : PreC l 9) (hl : l.length = 9) : Li.capE l = Ca.wCAL:=by
 unfold PreC at h
 rw [List.take_of_length_le (by omega)] at h
 exact h
theorem cpre_len {l : Tx} (hl : l.length ≠ 9) : Li.capE l ≠ Ca.wCAL:=fun g => hl (by have:=congrArg List.length g; rw [Li.capE_len] at this; exact this)
structure OddC (s : ByteArray) (k : Nat) : Prop where
 k6 : k < 9
 ks : k < s.size
 high : 128 <= (s[k]'ks).toNat
theorem OddC.no {s : ByteArray} {k : Nat} (h : OddC s k) : Li.capE s.data.toList ≠ Ca.wCAL:=by
 have hk : k < s.data.toList.length:=by rw [len_of]; exact h.ks
 refine cpre_bad hk h.k6 ?_
 rw [byte_listE s k h.ks hk]
 intro g
 have hb:=cwev_bd k h.k6
 rcases (up_eq _ _ hb).1 g with e | e
 ·have:=h.high; rw [e] at this; omega
 ·have:=h.high; omega
theorem cT_at (k : Nat) (h6 : k < 9) (h : k < (str Ca.wCAL).size) : (str Ca.wCAL)[k]'h = Ca.wCAL[k]'h6:=by
 have:=byte_listE (str Ca.wCAL) k h (by rw [len_of]; exact h)
 rw [<- this]
 simp only [str_list]
 rfl
theorem cefold_any (s : ByteArray) (w : World) (hf : FoldTab w) (hs : s.size <= 100000) :
    Calls Tryz.prog 75 #[.string s,.string (str Ca.wCAL)] w (Ans w (.bool (decide (Li.capE s.data.toList = Ca.wCAL)))):=by
  have HF:=hide hf
  obtain ⟨T,hT⟩ : ∃ T,str Ca.wCAL = T:=⟨_,rfl⟩
  have hTs : T.size = 9:=by rw [<- hT]; rfl
  have HT:=hide hT
  rw [hT]
  clear hT hf
  obtain ⟨M,hM⟩ : ∃ M : Nat,min (s.size : Int) 9 = (M : Int):=⟨min s.size 9,by omega⟩
  have hMs : M <= s.size:=by omega
  have hMt : M <= 9:=by omega
  have hMe : M = s.size ∨ M = 9:=by omega
  go_enter Tryz.func75,Tryz.ntmps75
  go_wp2_with fail
  refine wp_scope_jumps 0 (fun a' w' => w' = w /\ ∃ k : Nat,OddC s k /\ ∃ u,a' = FF s T k u) (fun _ _ => 0) rfl ?_ ?_
  · go_wp2_with fail
    go_loopg [5] M (fun g s5 wx => w = wx /\ ∃ i : Nat,i + g = M /\ s5 = .int .i64 i /\ Hid (PreC s.data.toList i))
    case atStart => exact ⟨rfl,0,by omega,rfl,hide rfl⟩
    case round =>
      obtain ⟨rfl,i,hig,rfl,HP⟩:=hrel
      cases gk with
      | zero =>
        have hiM : ¬ ((i : Int) < (M : Int)):=by omega
        obtain rfl : i = M:=by omega
        by_cases hst : s.size = 9
        · have hb : ((s.size : Int) == 9) = true:=beq_iff_eq.2 (by omega)
          have HE : Hid (decide (Li.capE s.data.toList = Ca.wCAL) = true):=hide (decide_eq_true (by
            have h6 : i = 9:=by omega
            have:=HP.out
            rw [h6] at this
            exact cpre_end this (by rw [len_of]; omega)))
          go_wp2_with fail
          simp only [Exit.jump]
          go_ret
          exact ⟨by rw [HE.out]; rfl,start _⟩
        · have hb : ((s.size : Int) == 9) = false:=beq_eq_false_iff_ne.2 (by omega)
          have HE : Hid (decide (Li.capE s.data.toList = Ca.wCAL) = false):=hide (decide_eq_false (cpre_len (by rw [len_of]; omega)))
          go_wp2_with fail
          simp only [Exit.jump]
          go_ret
          exact ⟨by rw [HE.out]; rfl,start _⟩
      | succ g =>
        have hiM : (i : Int) < (M : Int):=by omega
        have hisz : (i : Int) < (s.size : Int):=by omega
        have hitz : (i : Int) < 9:=by omega
        have hin : i < s.size:=by omega
        have h6 : i < 9:=by omega
        obtain ⟨x,hx⟩ : ∃ x : UInt8,s[i]'hin = x:=⟨_,rfl⟩
        obtain ⟨y,hy⟩ : ∃ y : UInt8,T[i]'(by omega) = y:=⟨_,rfl⟩
        have hyw : y = Ca.wCAL[i]'h6:=by
          rw [<- hy]
          have:=HT.out
          subst this
          exact cT_at i h6 _
        have hyb:=cwev_bd i h6
        rw [<- hyw] at hyb
        have hxl : i < s.data.toList.length:=by rw [len_of]; exact hin
        have hxd : s.data.toList[i] = x:=by rw [byte_listE s i hin,hx]
        have hor : bits .or .u8 (x.toNat : Int) (y.toNat : Int) = ((x.toNat ||| y.toNat : Nat) : Int):=u8_or_nat _ _ (by have:=x.toNat_lt; omega) (by omega)
        by_cases hx128 : x.toNat < 128
        · have hor128 : ¬ ((128 : Int) <= ((x.toNat ||| y.toNat : Nat) : Int)):=by have:=Nat.or_lt_two_pow (n:=7) hx128 (show y.toNat < 2 ^ 7 by omega); omega
          by_cases hu : x = y ∨ x.toNat = y.toNat + 32
          · have HN:=hide (cpre_next HP.out hxl h6 (by rw [hxd,<- hyw]; exact (up_eq x y hyb).2 hu))
            clear hyw hxd hxl
            go_wp2_with fail
            all_goals (try simp only [beq_iff_eq,beq_eq_false_iff_ne,ne_eq] at *)
            all_goals first
              | (go_roundg g
                 case measure => omega
                 case rel => exact ⟨rfl,i + 1,by omega,by first | rfl | simp,HN⟩)
              | (exfalso; rcases hu with rfl | hu <;> omega)
          · have HE : Hid (decide (Li.capE s.data.toList = Ca.wCAL) = false):=hide (decide_eq_false (cpre_bad hxl h6 (by rw [hxd,<- hyw]; exact fun g => hu ((up_eq x y hyb).1 g))))
            have hu1 : x.toNat ≠ y.toNat:=fun g => hu (Or.inl (UInt8.toNat_inj.1 g))
            have hu2 : x.toNat ≠ y.toNat + 32:=fun g => hu (Or.inr g)
            clear hyw hxd hxl hu
            go_wp2_with fail
            all_goals (try simp only [beq_eq_false_iff_ne,ne_eq] at *)
            all_goals first
              | (simp only [Exit.jump]
                 go_ret
                 exact ⟨by rw [HE.out]; rfl,start _⟩)
              | (exfalso; omega)
        · have hor128 : (128 : Int) <= ((x.toNat ||| y.toNat : Nat) : Int):=by have : x.toNat <= x.toNat ||| y.toNat:=Nat.left_le_or; omega
          have HO : Hid (OddC s i):=hide ⟨h6,hin,by rw [hx]; omega⟩
          clear hyw hxd hxl
          go_wp2_with fail
          go_step3
          exact ⟨rfl,rfl,i,HO.out,ff_of rfl⟩
  · rintro a' w' ⟨rfl,k,ho,u,rfl⟩
    unfold FF
    have hk6:=ho.k6
    have hks:=ho.ks
    have HE : Hid (decide (Li.capE s.data.toList = Ca.wCAL) = false):=hide (decide_eq_false ho.no)
    have k0 : (0 : Int) <= (k : Int):=by omega
    have k1 : (k : Int) <= (s.size : Int):=by omega
    have k2 : (k : Int) <= 9:=by omega
    have hTk:=HT.out
    go_wp2_with fail
    have hz1 : 0 < (s.extract k s.size).size:=by rw [ByteArray.size_extract]; omega
    have hz2 : (s.extract k s.size)[0]'hz1 = s[k]'hks:=by rw [ByteArray.getElem_extract]; simp
    have hz3 : 128 <= ((s.extract k s.size)[0]'hz1).toNat:=by rw [hz2]; exact ho.high
    have hy1 : 0 < (T.extract k 9).size:=by rw [ByteArray.size_extract]; omega
    have hy2 : ((T.extract k 9)[0]'hy1).toNat = (Ca.wCAL[k]'hk6).toNat:=by
      subst hTk
      rw [ByteArray.getElem_extract]
      simp only [Nat.add_zero]
      rw [cT_at k hk6]
    have hd:=cwev_at k hk6
    have hdb:=cwev_bd k hk6
    generalize s.extract k s.size = S2 at *
    generalize T.extract k 9 = T2 at *
    generalize (Ca.wCAL[k]'hk6).toNat = d at *
    have hdh:=(decode_high S2 0 hz1 hz3).1
    have hdl:=decode_le S2 0
    have hnx:=fun ty => run_next_any (P:=Tryz.prog) w' S2 0 ty hz1
    have hbit : Below w'.heap.size w' (w'.iter S2 (0 + (Utf8.decode S2 0).2)):=by exact more (start w') _
    generalize (Utf8.decode S2 0).2 = n2 at *
    generalize (Utf8.decode S2 0).1 = R at *
    rw [Nat.zero_add] at hbit
    have t0 : ((T2.size : Int) == 0) = false:=by rw [beq_eq_false_iff_ne]; omega
    have t1 : (1 : Int) <= (T2.size : Int):=by omega
    have t2 : ((d : Int) == R) = false:=by rw [beq_eq_false_iff_ne]; omega
    have t3 : (d : Int) < R:=by omega
    have t4 : ¬ R < 128:=by omega
    have t5 : (((d : Int) + 32) != (d : Int)) = true:=by rw [bne_iff_ne]; omega
    have t6 : (d : Int) + 32 < R:=by omega
    have t7 : ((d : Int) != (d : Int)) = false:=by simp
    have hF1:=(HF.out d hd).1
    have hF2:=(HF.out d hd).2
    have hG1:=hide (sfold_at d (d + 32) (w'.iter S2 n2) (by omega) (by omega) (cell_keep hbit hF1))
    have hG2:=hide (sfold_at (d + 32) d (w'.iter S2 n2) (by omega) (by omega) (cell_keep hbit hF2))
    have hG3:=hide (dec_first T2 d (w'.iter S2 n2) hy1 hy2 (by omega))
    clear hF1 hF2 hTk hz2 hy2 hd hz3 hdl
    refine wp_loop_rounds 1 ?_
    rw [rounds_succ]
    go_wp2_with fail
    refine (hG3.out).mono ?_
    rintro e w1 ⟨rfl,rfl⟩
    go_wp2_with fail
    refine (hG1.out).mono ?_
    rintro e w1 ⟨rfl,rfl⟩
    go_wp2_with fail
    refine wp_loop_rounds 2 ?_
    rw [rounds_succ]
    go_wp2_with fail
    refine (hG2.out).mono ?_
    rintro e w1 ⟨rfl,rfl⟩
    go_wp2_with fail
    rw [rounds_succ]
    go_wp2_with fail
    simp only [Exit.jump]
    go_ret
    exact ⟨by rw [HE.out]; rfl,hbit⟩
theorem csplit_any (t : Tx) (w : World) (he : EnvE w) (ht : t.length <= 90000) : Calls Tryz.prog 74 #[.string (str t)] w (Ans w (splA (Li.lineE t))) :=
 split_at (str t) _ w he.e (by rw [str_size]; omega) (by rw [str_list])
theorem ccal_any (t : Tx) (w : World) (he : EnvE w) (ht : t.length <= 90000) : Calls Tryz.prog 75 #[.string (str t),.string (str Ca.wCAL)] w (Ans w (.bool (decide (Li.capE t = Ca.wCAL)))):=by
 have:=cefold_any (str t) w he.f (by rw [str_size]; omega)
 rw [str_list] at this
 exact this
theorem isCal_any (n t : Tx) (w : World) (he : EnvE w) (ht : t.length <= 90000) :
  Calls Tryz.prog 48 #[.string (str n),.string (str t)] w (Ans w (.bool (Ca.isCal n t))):=by
 have HSP:=hide (csplit_any t w he ht)
 have HENV:=hide he
 have HT:=hide ht
 cases hl : Li.lineE t with
 | none =>
  rw [hl] at HSP
  have HF:=hide (Ca.isCal_none (n:=n) hl)
  unfold splA at HSP
  clear hl he ht
  go_enter Tryz.func48,Tryz.ntmps48
  go_wp2_with fail
  refine (HSP.out).mono ?_
  rintro _ w1 ⟨rfl,hb1⟩
  have HB1:=hide hb1
  clear hb1
  go_wp2_with fail
  go_ret
  exact ⟨ret_bool (by rw [HF.out]),HB1.out⟩
 | some p =>
  obtain ⟨m,v⟩:=p
  have hv : v.length <= t.length:=line_len t m v hl
  rw [hl] at HSP
  have hF:=Ca.isCal_some (n:=n) hl
  obtain ⟨g,hg⟩ : ∃ g,decide (m = n) = g:=⟨_,rfl⟩
  obtain ⟨d,hd⟩ : ∃ d,decide (Li.capE v = Ca.wCAL) = d:=⟨_,rfl⟩
  rw [hg,hd] at hF
  have HF:=hide hF
  have HCC:=hide (fun w he => ccal_any v w he (by omega))
  rw [hd] at HCC
  have e1 : (m == n) = g:=by rw [<- hg,tx_eq]
  have q1:=str_tl m
  have q2:=str_tl n
  unfold splA at HSP
  clear hl he ht hF hg hd hv
  cases g with
  | false =>
   go_enter Tryz.func48,Tryz.ntmps48
   go_wp2_with fail
   refine (HSP.out).mono ?_
   rintro _ w1 ⟨rfl,hb1⟩
   have HB1:=hide hb1
   clear hb1
   go_wp2_with fail
   go_ret
   exact ⟨ret_bool (by rw [HF.out]; rfl),HB1.out⟩
  | true =>
   go_enter Tryz.func48,Tryz.ntmps48
   go_wp2_with fail
   refine (HSP.out).mono ?_
   rintro _ w1 ⟨rfl,hb1⟩
   have HB1:=hide hb1
   clear hb1
   go_wp2_with fail
   refine (HCC.out _ (HENV.out.keep HB1.out)).mono ?_
   rintro _ w2 ⟨rfl,hb2⟩
   have HB2:=hide (andthen HB1.out hb2)
   clear hb2
   go_wp2_with fail
   go_ret
   exact ⟨ret_bool (by rw [HF.out]; rfl),HB2.out⟩
theorem isCal_at (n t : Tx) (b : Bool) (w : World) (he : EnvE w) (ht : t.length <= 90000) (h : Ca.isCal n t = b) :
  Calls Tryz.prog 48 #[.string (str n),.string (str t)] w (Ans w (.bool b)):=by subst h; exact isCal_any n t w he ht
structure RgAt (w : World) (B X M : Nat) (v : Value) (l : List EM) (us : List Tx) (ver : Bool) : Prop where
 k : BlkAt w X [v,.map (some M),.bool ver]
 s : SetU w M us
 h : HasE w B v l
 xB : X < B
 mB : M < B
 xm : X ≠ M
 bs : B <= w.heap.size
theorem RgAt.keep {w w' : World} {B X M : Nat} {v : Value} {l : List EM} {us : List Tx} {ver : Bool} (h : RgAt w B X M v l us ver) (hb : Below w.heap.size w w') : RgAt w' B X M v l us ver :=
 ⟨h.k.keep hb,h.s.keep hb,h.h.keep hb,h.xB,h.mB,h.xm,Nat.le_trans h.bs hb.size⟩
theorem RgAt.vers {w : World} {B X M : Nat} {v : Value} {l : List EM} {us : List Tx} {ver : Bool} (h : RgAt w B X M v l us ver) (b : Bool) : RgAt (w.setCell ⟨X,2,none⟩ (.bool b)) B X M v l us b :=
 ⟨(h.k.set 2 (.bool b) (by simp)).is rfl,World.ownsMap.setCell h.s (fun e => h.xm e.symm) _,h.h.past (grown_set (start w)) h.xB,h.xB,h.mB,h.xm,by rw [World.size_setCell]; exact h.bs⟩
theorem RgAt.put {w w' : World} {B X M : Nat} {v : Value} {l : List EM} {us us2 : List Tx} {ver : Bool} (h : RgAt w B X M v l us ver) (g : w.grownBy w' (some M)) (s : SetU w' M us2) : RgAt w' B X M v l us2 ver :=
 ⟨h.k.grow g (fun e => h.xm (by injection e)),s,h.h.past g h.mB,h.xB,h.mB,h.xm,Nat.le_trans h.bs g.size⟩
theorem RgAt.app {w w' : World} {B X M : Nat} {v v' : Value} {l : List EM} {us : List Tx} {ver : Bool} {p : EM} (h : RgAt w B X M v l us ver) (hp : EvL w p.1 p.2) (hf : OffE v p) (hl : LowE B p) (ho : OwnE w' B v' (l ++ [p])) (g : GoesS v w v' w') :
  RgAt (w'.setCell ⟨X,0,none⟩ v') B X M v' (l ++ [p]) us ver:=by
 have hne : ∀ c,c < B -> some c ≠ v.ownBlock:=fun c hc e => by have:=(h.h.own.lt c e.symm).1; omega
 have k1:=h.k.grow g.grown (hne X h.xB)
 have s1:=World.ownsMap.kept h.s g.grown (hne M h.mB)
 have h1:=h.h.more hp hf hl ho g
 exact ⟨(k1.set 0 v' (by simp)).is rfl,World.ownsMap.setCell s1 (fun e => h.xm e.symm) _,h1.past (grown_set (start w')) h.xB,h.xB,h.mB,h.xm,by rw [World.size_setCell]; exact Nat.le_trans h.bs g.grown.size⟩
abbrev Y13 (W : World) (EB : Nat) (e : Ev.E) (m : Mem) : Prop:=W.cell? ⟨EB,0,none⟩ = some (.string (str e.uid)) /\ W.cell? ⟨EB,1,none⟩ = some (.string (str e.text)) /\ W.cell? ⟨EB,2,none⟩ = some (.int .i64 e.st) /\ W.cell? ⟨EB,3,none⟩ = some (.int .i64 e.lg) /\ W.cell? ⟨EB,4,none⟩ = some (.slice m.O e.rooms.length m.oc) /\ W.cell? ⟨EB,5,none⟩ = some (.int .i64 e.r.fr) /\ W.cell? ⟨EB,6,none⟩ = some (.int .i64 e.r.ev) /\ W.cell? ⟨EB,7,none⟩ = some (.int .i64 e.r.ct) /\ W.cell? ⟨EB,8,none⟩ = some (.int .i64 e.r.un) /\ W.cell? ⟨EB,9,none⟩ = some (.slice m.D e.r.ds.length m.dc) /\ W.cell? ⟨EB,10,none⟩ = some (.slice m.M e.r.ms.length m.mc) /\ W.cell? ⟨EB,11,none⟩ = some (.slice m.Y e.r.ys.length m.yc) /\ W.cell? ⟨EB,12,none⟩ = some (.slice m.X e.ex.length m.xc)
theorem y13_keep {W W1 : World} {EB : Nat} {e : Ev.E} {m : Mem} (hb : Below W.heap.size W W1) (h : Y13 W EB e m) : Y13 W1 EB e m :=
 ⟨cell_keep hb h.1,cell_keep hb h.2.1,cell_keep hb h.2.2.1,cell_keep hb h.2.2.2.1,cell_keep hb h.2.2.2.2.1,cell_keep hb h.2.2.2.2.2.1,cell_keep hb h.2.2.2.2.2.2.1,cell_keep hb h.2.2.2.2.2.2.2.1,cell_keep hb h.2.2.2.2.2.2.2.2.1,cell_keep hb h.2.2.2.2.2.2.2.2.2.1,cell_keep hb h.2.2.2.2.2.2.2.2.2.2.1,cell_keep hb h.2.2.2.2.2.2.2.2.2.2.2.1,cell_keep hb h.2.2.2.2.2.2.2.2.2.2.2.2⟩
theorem y13_more {W : World} {EB : Nat} {e : Ev.E} {m : Mem} (o : Obj) (h : Y13 W EB e m) : Y13 (W.alloc o) EB e m:=y13_keep (more (start _) _) h
theorem y13_grow {W W1 : World} {row : Option Nat} {EB : Nat} {e : Ev.E} {m : Mem} (h : Y13 W EB e m) (g : W.grownBy W1 row) (hne : some EB ≠ row) : Y13 W1 EB e m :=
 ⟨g.cell h.1 hne,g.cell h.2.1 hne,g.cell h.2.2.1 hne,g.cell h.2.2.2.1 hne,g.cell h.2.2.2.2.1 hne,g.cell h.2.2.2.2.2.1 hne,g.cell h.2.2.2.2.2.2.1 hne,g.cell h.2.2.2.2.2.2.2.1 hne,g.cell h.2.2.2.2.2.2.2.2.1 hne,g.cell h.2.2.2.2.2.2.2.2.2.1 hne,g.cell h.2.2.2.2.2.2.2.2.2.2.1 hne,g.cell h.2.2.2.2.2.2.2.2.2.2.2.1 hne,g.cell h.2.2.2.2.2.2.2.2.2.2.2.2 hne⟩
theorem y13_goes {W W1 : World} {v v' : Value} {EB : Nat} {e : Ev.E} {m : Mem} (h : Y13 W EB e m) (g : GoesS v W v' W1) (hne : some EB ≠ v.ownBlock) : Y13 W1 EB e m:=y13_grow h g.grown hne
theorem y13_set {W : World} {X i EB : Nat} {y : Value} {e : Ev.E} {m : Mem} (h : Y13 W EB e m) (hne : EB ≠ X) : Y13 (W.setCell ⟨X,i,none⟩ y) EB e m:=y13_grow h (grown_set (start W)) (fun q => hne (by injection q))
theorem takeV_any (B X M : Nat) (v : Value) (l : List EM) (us : List Tx) (ver : Bool) (t : Tx) (w : World) (h : RgAt w B X M v l us ver) :
  Calls Tryz.prog 76 #[.pointer (some ⟨X,0,none⟩),.string (str t)] w fun e w' => e = .returned (.bool (!ver && decide (t = Ca.vVER))) /\ RgAt w' B X M v l us true /\ w.grownBy w' (some X):=by
 have k2 : w.cell? ⟨X,2,none⟩ = some (.bool ver):=h.k.cell 2 (by simp)
 have f2:=h.k.free 2
 have HV:=hide (h.vers true)
 have HG:=hide (grown_set (b:=X) (i:=2) (y:=.bool true) (start w))
 obtain ⟨d,hd⟩ : ∃ d,decide (t = Ca.vVER) = d:=⟨_,rfl⟩
 have q1 : (t == [50,46,48]) = d:=by rw [<- hd,tx_eq]; rfl
 have q2:=str_tl t
 rw [hd]
 clear hd h
 cases ver with
 | true =>
  go_enter Tryz.func76,Tryz.ntmps76
  go_wp2_with fail
  go_ret
  exact ⟨rfl,HV.out,HG.out⟩
 | false =>
  go_enter Tryz.func76,Tryz.ntmps76
  go_wp2_with fail
  go_ret
  exact ⟨by first | rfl | (cases d <;> rfl),HV.out,HG.out⟩
theorem step_atE {ops : Array Oper} {o : Oper} {a : Act} {K : Act -> World -> Prop} {Q : Exit -> Act -> World -> Prop} {E : Prop} {w : World} {B : Nat} {v : Value} {l : List EM} {e : Ev.E} {m : Mem} (hgd : o.guard = none) (s x : Operand)
  (ho : o.op = .call { callee:=.builtin .append,args:=#[s,x],argTypes:=#[22,22] }) (hs : a.eval s = v) {N : Nat} (hN : w.heap.size = N) (hx : a.eval x = .slice (some ⟨N,0,none⟩) 1 1)
  (hown : OwnE (w.alloc (.cells #[.string (str e.uid),.string (str e.text),.int .i64 e.st,.int .i64 e.lg,.slice m.O e.rooms.length m.oc,.int .i64 e.r.fr,.int .i64 e.r.ev,.int .i64 e.r.ct,.int .i64 e.r.un,.slice m.D e.r.ds.length m.dc,.slice m.M e.r.ms.length m.mc,.slice m.Y e.r.ys.length m.yc,.slice m.X e.ex.length m.xc] 47)) B v l) (hB : B <= w.heap.size) (hn : l.length <= 1000000)
  (h : ∀ v' w',OwnE w' B v' (l ++ [(e,m)]) -> GoesS v w v' w' -> K (a.put o.dst v') w') :
  if Region.wanted o (yielded ops a.tmps) = true then Oper.wp Tryz.prog o a (w.alloc (.cells #[.string (str e.uid),.string (str e.text),.int .i64 e.st,.int .i64 e.lg,.slice m.O e.rooms.length m.oc,.int .i64 e.r.fr,.int .i64 e.r.ev,.int .i64 e.r.ct,.int .i64 e.r.un,.slice m.D e.r.ds.length m.dc,.slice m.M e.r.ms.length m.mc,.slice m.Y e.r.ys.length m.yc,.slice m.X e.ex.length m.xc] 47)) K Q else E:=by
 have hw : Region.wanted o (yielded ops a.tmps) = true:=by simp [Region.wanted,hgd]
 rw [if_pos hw]
 subst hN
 obtain ⟨i0,hi,hz0,hz1,hz2⟩:=info_parts event_info
 have hnews : ∀ j u,(cellsV e m)[j]? = some u -> (w.alloc (.cells #[.string (str e.uid),.string (str e.text),.int .i64 e.st,.int .i64 e.lg,.slice m.O e.rooms.length m.oc,.int .i64 e.r.fr,.int .i64 e.r.ev,.int .i64 e.r.ct,.int .i64 e.r.un,.slice m.D e.r.ds.length m.dc,.slice m.M e.r.ms.length m.mc,.slice m.Y e.r.ys.length m.yc,.slice m.X e.ex.length m.xc] 47)).cell? ((⟨w.heap.size,0,none⟩ : Addr).add j) = some u:=by
  intro j u hu
  rw [plus,World.cell?_alloc_at _ _ _ _ rfl]
  exact (by simpa [cellsV] using hu)
 obtain ⟨v',w',hr,h2,h3,_,h5⟩:=run_append_own_at (P:=Tryz.prog) (w:=w.alloc (.cells #[.string (str e.uid),.string (str e.text),.int .i64 e.st,.int .i64 e.lg,.slice m.O e.rooms.length m.oc,.int .i64 e.r.fr,.int .i64 e.r.ev,.int .i64 e.r.ct,.int .i64 e.r.un,.slice m.D e.r.ds.length m.dc,.slice m.M e.r.ms.length m.mc,.slice m.Y e.r.ys.length m.yc,.slice m.X e.ex.length m.xc] 47)) B 22 o.type 47 i0 _ 13 200 Tryz.underlying22 hi hz0 hz1 hz2 rfl (by decide) v l.length (cellsE l) hown ⟨w.heap.size,0,none⟩ 1 1 (cellsV e m) rfl hnews (cellsV_one e m) (by unfold maxLen; omega) (by omega) (by simp only [World.size_alloc]; omega)
 unfold Oper.wp execOp
 simp only [ho,resolve,invoke,builtin,Sem.run_bind,Sem.run_pure,Result.andThen_ok,List.map_toArray,List.map_cons,List.map_nil,hs,hx,hr]
 refine h v' w' (by rw [OwnE,cellsE_append,List.length_append]; exact (by simpa [cellsE] using h2)) ⟨(World.grownBy_alloc _ _ _).trans h3,?_⟩
 rcases h5 with h5 | h5
 ·exact Or.inl h5
 ·exact Or.inr ⟨_,h5,by simp⟩
def TakesC (w : World) (B0 B X M : Nat) (p : Option (Bool × List Ev.E) × Nat) (e : Ending) (w' : World) : Prop:=Below B0 w w' /\ match p with
 | (none,k) => e = .returned (.tuple #[.int .i64 k,.bool false])
 | (some (ver,o),k) => ∃ v l,e = .returned (.tuple #[.int .i64 k,.bool true]) /\ l.map Prod.fst = o /\ RgAt w' B X M v l (Ca.uidsC o) ver
theorem takesC_no {w w' : World} {B0 B X M k : Nat} {p : Option (Bool × List Ev.E) × Nat} {i : Int} (hp : p = (none,k)) (hi : i = (k : Int)) (hb : Below B0 w w') : TakesC w B0 B X M p (.returned (.tuple #[.int .i64 i,.bool false])) w':=by
 subst hp hi
 exact ⟨hb,rfl⟩
theorem takesC_yes {w w' : World} {B0 B X M k : Nat} {p : Option (Bool × List Ev.E) × Nat} {ver : Bool} {o : List Ev.E} {v : Value} {l : List EM} (hp : p = (some (ver,o),k)) (hb : Below B0 w w') (hl : l.map Prod.fst = o) (h : RgAt w' B X M v l (Ca.uidsC o) ver) : TakesC w B0 B X M p (.returned (.tuple #[.int .i64 k,.bool true])) w':=by
 subst hp
 exact ⟨hb,v,l,rfl,hl,h⟩
def tevC (ver : Bool) (out : List Ev.E) (p : Option Ev.E × Nat) : Option (Bool × List Ev.E) × Nat:=match p with
 | (none,k) => (none,k)
 | (some e,k) => if e.uid ∈ Ca.uidsC out then (none,k - 1) else (some (ver,out ++ [e]),k)
theorem takeE_any (B0 B X M : Nat) (v : Value) (l : List EM) (ver : Bool) (A : Option Addr) (n c : Nat) (ls : List Tx) (w : World) (h : RgAt w B X M v l (Ca.uidsC (l.map Prod.fst)) ver) (h0 : B0 <= X) (h1 : B0 <= M) (hl : l.length <= 1000)
  (hr : RowS w A ls) (hn : n = ls.length) (hsz : ls.length <= 900) (hb : ∀ p ∈ ls,p.length <= 90000) (he : EnvE w) :
  Calls Tryz.prog 77 #[.pointer (some ⟨X,0,none⟩),.slice A n c] w (TakesC w B0 B X M (tevC ver (l.map Prod.fst) (Ev.readE unU ls))):=by
 obtain ⟨A2,cap2,rfl,_⟩:=OwnE.row h.h.own
 have HRD:=hide (eRead_any A n c ls w hr hn hsz (fun p hp => Nat.le_trans (hb p hp) (by decide)) he)
 have HH0:=hide h
 have HB0:=hide (And.intro h0 h1)
 have hB0w : B0 <= w.heap.size:=by have:=h.xB; have:=h.bs; omega
 obtain ⟨es,hes⟩ : ∃ es,l.map Prod.fst = es:=⟨_,rfl⟩
 have HES:=hide hes
 rw [hes] at HH0 ⊢
 have HLN : Hid (l.length <= 1000000):=hide (by omega)
 have HUS0 : Hid ((Ca.uidsC es).length <= 1000000):=hide (by rw [<- hes]; unfold Ca.uidsC; rw [List.length_map,List.length_map]; omega)
 have HRL:=hide (fun (x : Ev.E) (k : Nat) (q : Ev.readE unU ls = (some x,k)) => Ca.read_len q)
 have HK9 : Hid (∀ (x : Ev.E) (k : Nat),Ev.readE unU ls = (some x,k) -> k <= 900):=hide (fun x k q => by have:=(Ca.read_len q).2; omega)
 have hbsw:=h.bs
 clear h h0 h1 hl hr hn hsz hb he hes
 obtain ⟨p,hp⟩ : ∃ p,Ev.readE unU ls = p:=⟨_,rfl⟩
 rw [hp] at HRD ⊢
 obtain ⟨o,k⟩:=p
 have HP:=hide hp
 clear hp
 go_enter Tryz.func77,Tryz.ntmps77
 go_wp2_with fail
 refine (HRD.out).mono ?_
 rintro _ w1 ⟨hb1,hx⟩
 cases o with
 | none =>
  dsimp only at hx
  subst hx
  have HB1:=hide hb1
  clear hb1
  unfold noEvent
  go_wp2_with fail
  go_ret2
  exact ⟨(andthen HB1.out (more (start w1) _)).mono hB0w,rfl⟩
 | some e =>
  obtain ⟨m,rfl,hnew⟩:=hx
  have hk:=HRL.out e k HP.out
  replace HK9:=hide (HK9.out e k HP.out)
  have HWE : Hid (w.heap.size <= w1.heap.size):=hide hb1.size
  have HRG:=hide (HH0.out.keep hb1)
  have HEL:=hide hnew.lies
  have HEW:=hide hnew.lowE
  have HB1:=hide hb1
  have HVB : Hid (∀ g,(Value.slice A2 l.length cap2).ownBlock = some g -> g < w.heap.size):=hide (fun g q => (HH0.out.h.own.lt g q).2)
  have hlow : LowE B (e,m):=hnew.lowE.down HH0.out.bs
  have hoff : OffE (Value.slice A2 l.length cap2) (e,m):=hnew.lowE.off HVB.out
  have HLO:=hide (And.intro hlow hoff)
  have HUL : Hid (e.uid.length <= 1000000):=hide (by have:=hnew.ul; omega)
  clear hb1 hnew hlow hoff HH0
  obtain ⟨us,hus⟩ : ∃ us,Ca.uidsC es = us:=⟨_,rfl⟩
  have HUE:=hide hus
  rw [hus] at HRG HUS0
  have HUS:=HUS0
  clear hus HUS0
  obtain ⟨d,hd⟩ : ∃ d,(!decide (e.uid ∈ us)) = d:=⟨_,rfl⟩
  have HD:=hide hd
  clear hd
  have hEB:=more (start w1) (.cells #[.string (str e.uid),.string (str e.text),.int .i64 e.st,.int .i64 e.lg,.slice m.O e.rooms.length m.oc,.int .i64 e.r.fr,.int .i64 e.r.ev,.int .i64 e.r.ct,.int .i64 e.r.un,.slice m.D e.r.ds.length m.dc,.slice m.M e.r.ms.length m.mc,.slice m.Y e.r.ys.length m.yc,.slice m.X e.ex.length m.xc] 47)
  have hxx:=cell_new w1 #[.string (str e.uid),.string (str e.text),.int .i64 e.st,.int .i64 e.lg,.slice m.O e.rooms.length m.oc,.int .i64 e.r.fr,.int .i64 e.r.ev,.int .i64 e.r.ct,.int .i64 e.r.un,.slice m.D e.r.ds.length m.dc,.slice m.M e.r.ms.length m.mc,.slice m.Y e.r.ys.length m.yc,.slice m.X e.ex.length m.xc] 47
  have y13 : Y13 (w1.alloc (.cells #[.string (str e.uid),.string (str e.text),.int .i64 e.st,.int .i64 e.lg,.slice m.O e.rooms.length m.oc,.int .i64 e.r.fr,.int .i64 e.r.ev,.int .i64 e.r.ct,.int .i64 e.r.un,.slice m.D e.r.ds.length m.dc,.slice m.M e.r.ms.length m.mc,.slice m.Y e.r.ys.length m.yc,.slice m.X e.ex.length m.xc] 47)) w1.heap.size e m:=⟨hxx 0 _ rfl,hxx 1 _ rfl,hxx 2 _ rfl,hxx 3 _ rfl,hxx 4 _ rfl,hxx 5 _ rfl,hxx 6 _ rfl,hxx 7 _ rfl,hxx 8 _ rfl,hxx 9 _ rfl,hxx 10 _ rfl,hxx 11 _ rfl,hxx 12 _ rfl⟩
  have HY:=hide y13
  have HRG2:=hide (HRG.out.keep hEB)
  have HEL2:=hide (HEL.out.keep hEB)
  have HB2:=hide (andthen HB1.out hEB)
  have hEBs : (w1.alloc (.cells #[.string (str e.uid),.string (str e.text),.int .i64 e.st,.int .i64 e.lg,.slice m.O e.rooms.length m.oc,.int .i64 e.r.fr,.int .i64 e.r.ev,.int .i64 e.r.ct,.int .i64 e.r.un,.slice m.D e.r.ds.length m.dc,.slice m.M e.r.ms.length m.mc,.slice m.Y e.r.ys.length m.yc,.slice m.X e.ex.length m.xc] 47)).heap.size = w1.heap.size + 1:=World.size_alloc _ _
  have hbs1:=HRG.out.bs
  clear hEB hxx y13 HEL HRG
  have hk1 : (0 : Int) <= (k : Int):=by omega
  have hk2 : (k : Int) <= 900:=by have:=HK9.out; omega
  go_wp2_with fail
  generalize w1.alloc (.cells #[.string (str e.uid),.string (str e.text),.int .i64 e.st,.int .i64 e.lg,.slice m.O e.rooms.length m.oc,.int .i64 e.r.fr,.int .i64 e.r.ev,.int .i64 e.r.ct,.int .i64 e.r.un,.slice m.D e.r.ds.length m.dc,.slice m.M e.r.ms.length m.mc,.slice m.Y e.r.ys.length m.yc,.slice m.X e.ex.length m.xc] 47) = W2 at *
  generalize w1.heap.size = EB at *
  have HRGD:=hide (HRG2.out.keep (Below.drew (start W2)))
  have HED:=hide (HEL2.out.keep (Below.drew (start W2)))
  have HBD:=hide (((andthen HB2.out (Below.drew (start W2)))).mono hB0w)
  have hxm:=HRG2.out.xm
  have hmb:=HRG2.out.mB
  have hxb:=HRG2.out.xB
  have hXM : some X ≠ some M:=fun q => hxm (by injection q)
  have hEM : some EB ≠ some M:=fun q => by injection q with q; omega
  have HEX : Hid (EB ≠ X):=hide (by omega)
  have HSB : Hid (B0 <= W2.heap.size):=hide (by have:=HB0.out.1; omega)
  have k1 : W2.drew.cell? ⟨X,1,none⟩ = some (.map (some M)):=HRGD.out.k.cell 1 (by simp)
  have x0 : W2.drew.cell? ⟨EB,0,none⟩ = some (.string (str e.uid)):=HY.out.1
  refine wp_region_held_drew (S:=fun W' => W'.cell? ⟨X,1,none⟩ = some (.map (some M)) /\ W'.cell? ⟨EB,0,none⟩ = some (.string (str e.uid))) (by kernel_rfl) ?_ (fun hH0 => ?_)
  ·exact ⟨k1,x0⟩
  refine' wpAnyH_take (i:=0) (oi:=_) (v:=?v0) rfl (by as_aux_lemma => kernel_rfl) (by as_aux_lemma => kernel_rfl) (by as_aux_lemma => kernel_rfl) (fun _ _ _ h => h) (Or.inl ⟨by rfl,?y0⟩) hH0 ?r0
  case y0 => (intro w hSw; (try dsimp only at hSw); go_simp; (try with_reducible rfl))
  try simp only [Act.put,List.getElem_toArray,List.getElem_cons_zero,List.setIfInBounds_toArray,List.set_cons_zero,List.set_cons_succ]
  refine' wpAnyH_take (i:=1) (oi:=_) (v:=?v1) rfl (by as_aux_lemma => kernel_rfl) (by as_aux_lemma => kernel_rfl) (by as_aux_lemma => kernel_rfl) (fun _ _ _ h => h) (Or.inl ⟨by rfl,?y1⟩) hH0 ?r1
  case y1 => (intro w hSw; (try dsimp only at hSw); go_simp; (try with_reducible rfl))
  try simp only [Act.put,List.getElem_toArray,List.getElem_cons_succ,List.getElem_cons_zero,List.setIfInBounds_toArray,List.set_cons_zero,List.set_cons_succ]
  refine' wpAnyH_take (i:=2) (oi:=_) (v:=?v2) rfl (by as_aux_lemma => kernel_rfl) (by as_aux_lemma => kernel_rfl) (by as_aux_lemma => kernel_rfl) (fun _ _ _ h => h) (Or.inl ⟨by rfl,?y2⟩) hH0 ?r2
  case y2 => (intro w hSw; (try dsimp only at hSw); go_simp; (try with_reducible rfl))
  try simp only [Act.put,List.getElem_toArray,List.getElem_cons_succ,List.getElem_cons_zero,List.setIfInBounds_toArray,List.set_cons_zero,List.set_cons_succ]
  refine' wpAnyH_take (i:=3) (oi:=_) (v:=?v3) rfl (by as_aux_lemma => kernel_rfl) (by as_aux_lemma => kernel_rfl) (by as_aux_lemma => kernel_rfl) (fun _ _ _ h => h) (Or.inl ⟨by rfl,?y3⟩) hH0 ?r3
  case y3 => (intro w hSw; (try dsimp only at hSw); go_simp; (try with_reducible rfl))
  try simp only [Act.put,List.getElem_toArray,List.getElem_cons_succ,List.getElem_cons_zero,List.setIfInBounds_toArray,List.set_cons_zero,List.set_cons_succ]
  refine' wpAnyH_take (i:=4) (oi:=_) (v:=?v4) rfl (by as_aux_lemma => kernel_rfl) (by as_aux_lemma => kernel_rfl) (by as_aux_lemma => kernel_rfl) (fun _ _ _ h => h) (Or.inl ⟨by rfl,?y4⟩) hH0 ?r4
  case y4 => (intro w hSw; (try dsimp only at hSw); go_simp; (try with_reducible rfl))
  try simp only [Act.put,List.getElem_toArray,List.getElem_cons_succ,List.getElem_cons_zero,List.setIfInBounds_toArray,List.set_cons_zero,List.set_cons_succ]
  refine' wpAnyH_take (i:=5) (oi:=_) (v:=?v5) rfl (by as_aux_lemma => kernel_rfl) (by as_aux_lemma => kernel_rfl) (by as_aux_lemma => kernel_rfl) (fun _ _ _ h => h) (Or.inl ⟨by rfl,?y5⟩) hH0 ?r5
  case y5 => (intro w hSw; (try dsimp only at hSw); go_simp; (try with_reducible rfl))
  try simp only [Act.put,List.getElem_toArray,List.getElem_cons_succ,List.getElem_cons_zero,List.setIfInBounds_toArray,List.set_cons_zero,List.set_cons_succ]
  refine wpAnyH_ready (rs:=[6]) (by as_aux_lemma => kernel_rfl) (by simp) ?_
  refine AllReadyH.cons (o:=_) rfl (fun K hK => ?_) AllReadyH.nil
  go_simp
  refine (add_at M us e.uid d W2.drew HRGD.out.s HUS.out HUL.out HD.out).mono ?_
  rintro _ w4 ⟨rfl,hs4,hg4⟩
  refine hK.out _ _ (⟨hg4.cell hH0.1 hXM,hg4.cell hH0.2 hEM⟩) (fun hN => ?_)
  clear hK K hH0
  have hH1:=hN
  clear hN
  try simp only [Act.put,List.getElem_toArray,List.getElem_cons_succ,List.getElem_cons_zero,List.setIfInBounds_toArray,List.set_cons_zero,List.set_cons_succ]
  refine' wpAnyH_take (i:=7) (oi:=_) (v:=?v6) rfl (by as_aux_lemma => kernel_rfl) (by as_aux_lemma => kernel_rfl) (by as_aux_lemma => kernel_rfl) (fun _ _ _ h => h) (Or.inl ⟨by rfl,?y6⟩) hH1 ?r6
  case y6 => (intro w hSw; (try dsimp only at hSw); go_simp; (try with_reducible rfl))
  try simp only [Act.put,List.getElem_toArray,List.getElem_cons_succ,List.getElem_cons_zero,List.setIfInBounds_toArray,List.set_cons_zero,List.set_cons_succ]
  refine wpAnyH_done (by as_aux_lemma => kernel_rfl) ?_ _
  have HG4:=hide hg4
  have HS4:=hide hs4
  clear hH1 hg4 hs4
  have HR4b:=hide (HRGD.out.put HG4.out HS4.out)
  have HE4b:=hide (HLO.out.1.past HED.out HG4.out hmb)
  have HB4b:=hide (HBD.out.grown HG4.out HSB.out (fun c hc => by injection hc with hc; rw [<- hc]; exact HB0.out.2))
  have HY4:=hide (y13_grow (W:=W2.drew) HY.out HG4.out hEM)
  have hs4:=HG4.out.size
  have hs4' : W2.heap.size <= w4.heap.size:=hs4
  clear HRGD HED HBD HRG2 HEL2 HY k1 x0 hs4
  cases d with
  | false =>
   have HIN : Hid (e.uid ∈ us):=hide (by have:=HD.out; simpa using this)
   have hkk : (k : Int) - 1 = ((k - 1 : Nat) : Int):=by omega
   go_wp2_with fail
   go_ret2
   exact takesC_no (by simp only [tevC,HUE.out,if_pos HIN.out]) rfl HB4b.out
  | true =>
   have HNI : Hid (e.uid ∉ us):=hide (by have:=HD.out; simpa using this)
   go_wp2_with fail
   have HR4:=hide (HR4b.out.keep (Below.drew (start w4)))
   have HE4:=hide (HE4b.out.keep (Below.drew (start w4)))
   have HB4 : Hid (Below B0 w w4.drew):=hide (HB4b.out.trans ((Below.drew (start w4)).mono (by have:=HSB.out; omega)))
   have HF4:=hide (HLO.out.2)
   have HYD : Hid (Y13 w4.drew EB e m):=HY4
   have HOWN:=hide HR4.out.h.own
   have HBS : Hid (B <= w4.drew.heap.size):=hide HR4.out.bs
   have HBZ : Hid (B0 <= w4.drew.heap.size):=hide (by have:=HSB.out; show B0 <= w4.heap.size; omega)
   have HB0B : Hid (B0 <= B):=hide (by have:=HB0.out.1; omega)
   have HXV : Hid (some X ≠ (Value.slice A2 l.length cap2).ownBlock):=hide (fun q => by have:=(HOWN.out.lt X q.symm).1; omega)
   have HEV : Hid (some EB ≠ (Value.slice A2 l.length cap2).ownBlock):=hide (fun q => by have:=HVB.out EB q.symm; have:=HWE.out; omega)
   have ck0 : w4.drew.cell? ⟨X,0,none⟩ = some (.slice A2 l.length cap2):=HR4.out.k.cell 0 (by simp)
   have ck1 : (w4.drew.alloc (.cells #[.string (str e.uid),.string (str e.text),.int .i64 e.st,.int .i64 e.lg,.slice m.O e.rooms.length m.oc,.int .i64 e.r.fr,.int .i64 e.r.ev,.int .i64 e.r.ct,.int .i64 e.r.un,.slice m.D e.r.ds.length m.dc,.slice m.M e.r.ms.length m.mc,.slice m.Y e.r.ys.length m.yc,.slice m.X e.ex.length m.xc] 47)).cell? ⟨X,0,none⟩ = some (.slice A2 l.length cap2):=(HR4.out.k.keep (more (start _) _)).cell 0 (by simp)
   have ck2 : (w4.alloc (.cells #[.string (str e.uid),.string (str e.text),.int .i64 e.st,.int .i64 e.lg,.slice m.O e.rooms.length m.oc,.int .i64 e.r.fr,.int .i64 e.r.ev,.int .i64 e.r.ct,.int .i64 e.r.un,.slice m.D e.r.ds.length m.dc,.slice m.M e.r.ms.length m.mc,.slice m.Y e.r.ys.length m.yc,.slice m.X e.ex.length m.xc] 47)).drew.cell? ⟨X,0,none⟩ = some (.slice A2 l.length cap2):=ck1
   clear HR4b HE4b HB4b HY4
   have hl9 : (l ++ [(e,m)]).length = l.length + 1:=by rw [List.length_append]; rfl
   have hl8 : (l ++ [(e,m)]).map Prod.fst = es ++ [e]:=by rw [List.map_append,HES.out]; rfl
   have hu8 : us ++ [e.uid] = Ca.uidsC (es ++ [e]):=by rw [<- HUE.out]; simp [Ca.uidsC]
   refine wp_region_held_drew (S:=fun W' => W'.cell? ⟨EB,0,none⟩ = some (.string (str e.uid)) /\ W'.cell? ⟨EB,1,none⟩ = some (.string (str e.text)) /\ W'.cell? ⟨EB,2,none⟩ = some (.int .i64 e.st) /\ W'.cell? ⟨EB,3,none⟩ = some (.int .i64 e.lg) /\ W'.cell? ⟨EB,4,none⟩ = some (.slice m.O e.rooms.length m.oc) /\ W'.cell? ⟨EB,5,none⟩ = some (.int .i64 e.r.fr) /\ W'.cell? ⟨EB,6,none⟩ = some (.int .i64 e.r.ev) /\ W'.cell? ⟨EB,7,none⟩ = some (.int .i64 e.r.ct) /\ W'.cell? ⟨EB,8,none⟩ = some (.int .i64 e.r.un) /\ W'.cell? ⟨EB,9,none⟩ = some (.slice m.D e.r.ds.length m.dc) /\ W'.cell? ⟨EB,10,none⟩ = some (.slice m.M e.r.ms.length m.mc) /\ W'.cell? ⟨EB,11,none⟩ = some (.slice m.Y e.r.ys.length m.yc) /\ W'.cell? ⟨EB,12,none⟩ = some (.slice m.X e.ex.length m.xc)) (by kernel_rfl) ?_ (fun hH0 => ?_)
   ·exact HYD.out
   refine' wpAnyH_take (i:=0) (oi:=_) (v:=?v50) rfl (by as_aux_lemma => kernel_rfl) (by as_aux_lemma => kernel_rfl) (by as_aux_lemma => kernel_rfl) (fun _ _ _ h => h) (Or.inl ⟨by rfl,?y50⟩) hH0 ?r50
   case y50 => (intro w hSw; (try dsimp only at hSw); go_simp; (try with_reducible rfl))
   try simp only [Act.put,List.getElem_toArray,List.getElem_cons_zero,List.setIfInBounds_toArray,List.set_cons_zero,List.set_cons_succ]
   refine' wpAnyH_take (i:=1) (oi:=_) (v:=?v51) rfl (by as_aux_lemma => kernel_rfl) (by as_aux_lemma => kernel_rfl) (by as_aux_lemma => kernel_rfl) (fun _ _ _ h => h) (Or.inl ⟨by rfl,?y51⟩) hH0 ?r51
   case y51 => (intro w hSw; (try dsimp only at hSw); go_simp; (try with_reducible rfl))
   try simp only [Act.put,List.getElem_toArray,List.getElem_cons_succ,List.getElem_cons_zero,List.setIfInBounds_toArray,List.set_cons_zero,List.set_cons_succ]
   refine' wpAnyH_take (i:=2) (oi:=_) (v:=?v52) rfl (by as_aux_lemma => kernel_rfl) (by as_aux_lemma => kernel_rfl) (by as_aux_lemma => kernel_rfl) (fun _ _ _ h => h) (Or.inl ⟨by rfl,?y52⟩) hH0 ?r52
   case y52 => (intro w hSw; (try dsimp only at hSw); go_simp; (try with_reducible rfl))
   try simp only [Act.put,List.getElem_toArray,List.getElem_cons_succ,List.getElem_cons_zero,List.setIfInBounds_toArray,List.set_cons_zero,List.set_cons_succ]
   refine' wpAnyH_take (i:=3) (oi:=_) (v:=?v53) rfl (by as_aux_lemma => kernel_rfl) (by as_aux_lemma => kernel_rfl) (by as_aux_lemma => kernel_rfl) (fun _ _ _ h => h) (Or.inl ⟨by rfl,?y53⟩) hH0 ?r53
   case y53 => (intro w hSw; (try dsimp only at hSw); go_simp; (try with_reducible rfl))
   try simp only [Act.put,List.getElem_toArray,List.getElem_cons_succ,List.getElem_cons_zero,List.setIfInBounds_toArray,List.set_cons_zero,List.set_cons_succ]
   refine' wpAnyH_take (i:=5) (oi:=_) (v:=?v54) rfl (by as_aux_lemma => kernel_rfl) (by as_aux_lemma => kernel_rfl) (by as_aux_lemma => kernel_rfl) (fun _ _ _ h => h) (Or.inl ⟨by rfl,?y54⟩) hH0 ?r54
   case y54 => (intro w hSw; (try dsimp only at hSw); go_simp; (try with_reducible rfl))
   try simp only [Act.put,List.getElem_toArray,List.getElem_cons_succ,List.getElem_cons_zero,List.setIfInBounds_toArray,List.set_cons_zero,List.set_cons_succ]
   refine wpAnyH_ready (rs:=[4,6]) (by as_aux_lemma => kernel_rfl) (by simp) ?_
   refine AllReadyH.cons (o:=_) rfl (fun K hK => ?_) (AllReadyH.cons (o:=_) rfl (fun K hK => ?_) AllReadyH.nil)
   ·go_simp
    refine hK.out _ _ (hH0) (fun hN => ?_)
    clear hK K hH0
    have hH1:=hN
    clear hN
    try simp only [Act.put,List.getElem_toArray,List.getElem_cons_succ,List.getElem_cons_zero,List.setIfInBounds_toArray,List.set_cons_zero,List.set_cons_succ]
    refine wpAnyH_ready (rs:=[6]) (by as_aux_lemma => kernel_rfl) (by simp) ?_
    refine AllReadyH.cons (o:=_) rfl (fun K hK => ?_) AllReadyH.nil
    go_simp
    refine hK.out _ _ (y13_more _ hH1) (fun hN => ?_)
    clear hK K hH1
    have hH2:=hN
    clear hN
    try simp only [Act.put,List.getElem_toArray,List.getElem_cons_succ,List.getElem_cons_zero,List.setIfInBounds_toArray,List.set_cons_zero,List.set_cons_succ]
    refine wpAnyH_ready (rs:=[7]) (by as_aux_lemma => kernel_rfl) (by simp) ?_
    refine AllReadyH.cons (o:=_) rfl (fun K hK => ?_) AllReadyH.nil
    refine step_atE (w:=w4.drew) (l:=l) (e:=e) (m:=m) rfl _ _ rfl rfl rfl rfl (HOWN.out.alloc _) HBS.out HLN.out ?_
    intro v8 w8 hown8 hg8
    obtain ⟨A8,c8,rfl,_⟩:=OwnE.row hown8
    rw [hl9] at hown8 hg8
    have hk8:=HR4.out.k.grow hg8.grown HXV.out
    have ck8:=hk8.cell 0 (by simp)
    have fk8:=hk8.free 0
    refine hK.out _ _ (y13_goes HYD.out hg8 HEV.out) (fun hN => ?_)
    clear hK K hH2
    have hH3:=hN
    clear hN
    try simp only [Act.put,List.getElem_toArray,List.getElem_cons_succ,List.getElem_cons_zero,List.setIfInBounds_toArray,List.set_cons_zero,List.set_cons_succ]
    refine' wpAnyH_take (i:=8) (oi:=_) (v:=?v55) rfl (by as_aux_lemma => kernel_rfl) (by as_aux_lemma => kernel_rfl) (by as_aux_lemma => kernel_rfl) (fun _ _ _ h => h) (Or.inl ⟨by rfl,?y55⟩) hH3 ?r55
    case y55 => (intro w hSw; (try dsimp only at hSw); go_simp; (try with_reducible rfl))
    try simp only [Act.put,List.getElem_toArray,List.getElem_cons_succ,List.getElem_cons_zero,List.setIfInBounds_toArray,List.set_cons_zero,List.set_cons_succ]
    refine' wpAnyH_take (i:=9) (oi:=_) (v:=?v56) rfl (by as_aux_lemma => kernel_rfl) (by as_aux_lemma => kernel_rfl) (by as_aux_lemma => kernel_rfl) (fun _ _ _ h => h) (Or.inl ⟨by rfl,?y56⟩) hH3 ?r56
    case y56 => (intro w hSw; (try dsimp only at hSw); go_simp; (try with_reducible rfl))
    try simp only [Act.put,List.getElem_toArray,List.getElem_cons_succ,List.getElem_cons_zero,List.setIfInBounds_toArray,List.set_cons_zero,List.set_cons_succ]
    refine wpAnyH_ready (rs:=[10]) (by as_aux_lemma => kernel_rfl) (by simp) ?_
    refine AllReadyH.cons (o:=_) rfl (fun K hK => ?_) AllReadyH.nil
    go_simp
    refine hK.out _ _ (y13_set hH3 HEX.out) (fun hN => ?_)
    clear hK K hH3
    have hH4:=hN
    clear hN
    try simp only [Act.put,List.getElem_toArray,List.getElem_cons_succ,List.getElem_cons_zero,List.setIfInBounds_toArray,List.set_cons_zero,List.set_cons_succ]
    refine wpAnyH_done (by as_aux_lemma => kernel_rfl) ?_ _
    have HA8:=hide (HR4.out.app HE4.out HF4.out HLO.out.1 hown8 hg8)
    have HB8:=hide ((HB4.out.grown hg8.grown HBZ.out (fun k hk => Nat.le_trans HB0B.out (HOWN.out.lt k hk).1)).setCell (p:=⟨X,0,none⟩) HB0.out.1 (.slice A8 (l.length + 1) c8))
    clear hH4 hown8 hg8 hk8 ck8 fk8
    go_wp2_with fail
    go_ret2
    exact takesC_yes (by simp only [tevC,HUE.out,if_neg HNI.out]) HB8.out hl8 (hu8 ▸ HA8.out)
   ·go_simp
    refine hK.out _ _ (y13_more _ hH0) (fun hN => ?_)
    clear hK K hH0
    have hH1:=hN
    clear hN
    try simp only [Act.put,List.getElem_toArray,List.getElem_cons_succ,List.getElem_cons_zero,List.setIfInBounds_toArray,List.set_cons_zero,List.set_cons_succ]
    refine wpAnyH_ready (rs:=[4]) (by as_aux_lemma => kernel_rfl) (by simp) ?_
    refine AllReadyH.cons (o:=_) rfl (fun K hK => ?_) AllReadyH.nil
    go_simp
    refine hK.out _ _ (hH1) (fun hN => ?_)
    clear hK K hH1
    have hH2:=hN
    clear hN
    try simp only [Act.put,List.getElem_toArray,List.getElem_cons_succ,List.getElem_cons_zero,List.setIfInBounds_toArray,List.set_cons_zero,List.set_cons_succ]
    refine wpAnyH_ready (rs:=[7]) (by as_aux_lemma => kernel_rfl) (by simp) ?_
    refine AllReadyH.cons (o:=_) rfl (fun K hK => ?_) AllReadyH.nil
    refine step_atE (w:=w4.drew) (l:=l) (e:=e) (m:=m) rfl _ _ rfl rfl rfl rfl (HOWN.out.alloc _) HBS.out HLN.out ?_
    intro v8 w8 hown8 hg8
    obtain ⟨A8,c8,rfl,_⟩:=OwnE.row hown8
    rw [hl9] at hown8 hg8
    have hk8:=HR4.out.k.grow hg8.grown HXV.out
    have ck8:=hk8.cell 0 (by simp)
    have fk8:=hk8.free 0
    refine hK.out _ _ (y13_goes HYD.out hg8 HEV.out) (fun hN => ?_)
    clear hK K hH2
    have hH3:=hN
    clear hN
    try simp only [Act.put,List.getElem_toArray,List.getElem_cons_succ,List.getElem_cons_zero,List.setIfInBounds_toArray,List.set_cons_zero,List.set_cons_succ]
    refine' wpAnyH_take (i:=8) (oi:=_) (v:=?v57) rfl (by as_aux_lemma => kernel_rfl) (by as_aux_lemma => kernel_rfl) (by as_aux_lemma => kernel_rfl) (fun _ _ _ h => h) (Or.inl ⟨by rfl,?y57⟩) hH3 ?r57
    case y57 => (intro w hSw; (try dsimp only at hSw); go_simp; (try with_reducible rfl))
    try simp only [Act.put,List.getElem_toArray,List.getElem_cons_succ,List.getElem_cons_zero,List.setIfInBounds_toArray,List.set_cons_zero,List.set_cons_succ]
    refine' wpAnyH_take (i:=9) (oi:=_) (v:=?v58) rfl (by as_aux_lemma => kernel_rfl) (by as_aux_lemma => kernel_rfl) (by as_aux_lemma => kernel_rfl) (fun _ _ _ h => h) (Or.inl ⟨by rfl,?y58⟩) hH3 ?r58
    case y58 => (intro w hSw; (try dsimp only at hSw); go_simp; (try with_reducible rfl))
    try simp only [Act.put,List.getElem_toArray,List.getElem_cons_succ,List.getElem_cons_zero,List.setIfInBounds_toArray,List.set_cons_zero,List.set_cons_succ]
    refine wpAnyH_ready (rs:=[10]) (by as_aux_lemma => kernel_rfl) (by simp) ?_
    refine AllReadyH.cons (o:=_) rfl (fun K hK => ?_) AllReadyH.nil
    go_simp
    refine hK.out _ _ (y13_set hH3 HEX.out) (fun hN => ?_)
    clear hK K hH3
    have hH4:=hN
    clear hN
    try simp only [Act.put,List.getElem_toArray,List.getElem_cons_succ,List.getElem_cons_zero,List.setIfInBounds_toArray,List.set_cons_zero,List.set_cons_succ]
    refine wpAnyH_done (by as_aux_lemma => kernel_rfl) ?_ _
    have HA8:=hide (HR4.out.app HE4.out HF4.out HLO.out.1 hown8 hg8)
    have HB8:=hide ((HB4.out.grown hg8.grown HBZ.out (fun k hk => Nat.le_trans HB0B.out (HOWN.out.lt k hk).1)).setCell (p:=⟨X,0,none⟩) HB0.out.1 (.slice A8 (l.length + 1) c8))
    clear hH4 hown8 hg8 hk8 ck8 fk8
    go_wp2_with fail
    go_ret2
    exact takesC_yes (by simp only [tevC,HUE.out,if_neg HNI.out]) HB8.out hl8 (hu8 ▸ HA8.out)
theorem ctake_any (B0 B X M : Nat) (v : Value) (l : List EM) (ver : Bool) (A : Option Addr) (n c : Nat) (ls : List Tx) (w : World) (h : RgAt w B X M v l (Ca.uidsC (l.map Prod.fst)) ver) (h0 : B0 <= X) (h1 : B0 <= M) (hl : l.length <= 1000)
    (hr : RowS w A ls) (hn : n = ls.length) (hne : ls ≠ []) (hsz : ls.length <= 900) (hb : ∀ p ∈ ls,p.length <= 90000) (he : EnvE w) :
    Calls Tryz.prog 49 #[.pointer (some ⟨X,0,none⟩),.slice A n c] w (TakesC w B0 B X M (Ca.takC unU ver (l.map Prod.fst) ls)):=by
  obtain ⟨t,ts,rfl⟩ : ∃ t ts,ls = t :: ts:=by
    cases ls with
    | nil => exact absurd rfl hne
    | cons a b => exact ⟨a,b,rfl⟩
  obtain ⟨b1,o1,rfl,hb1,hc1⟩:=hr hne
  have p0 : w.cell? ⟨b1,o1,none⟩ = some (.string (str t)):=hc1 0 (by simp)
  have htl : t.length <= 90000:=hb t List.mem_cons_self
  have hn0 : (0 : Int) < (n : Int):=by rw [hn]; simp only [List.length_cons]; omega
  have HSP:=hide (csplit_any t w he htl)
  have HRG:=hide h
  have hB0w : B0 <= w.heap.size:=by have:=h.xB; have:=h.bs; omega
  have HTE:=hide (fun w (h : RgAt w B X M v l (Ca.uidsC (l.map Prod.fst)) ver) hr he => takeE_any B0 B X M v l ver (some ⟨b1,o1,none⟩) n c (t :: ts) w h h0 h1 hl hr hn hsz hb he)
  have HTV:=hide (fun (t : Tx) w (h : RgAt w B X M v l (Ca.uidsC (l.map Prod.fst)) ver) => takeV_any B X M v l _ ver t w h)
  have HRW:=hide hr
  have HENV:=hide he
  have HB0:=hide (And.intro h0 h1)
  obtain ⟨es,hes⟩ : ∃ es,l.map Prod.fst = es:=⟨_,rfl⟩
  have HES:=hide hes
  rw [hes] at HRG HTE HTV ⊢
  obtain ⟨R,hR⟩ : ∃ R,Ca.takC unU ver es (t :: ts) = R:=⟨_,rfl⟩
  rw [hR]
  have HBS:=hide hB0w
  clear h hl hr hn hne hsz hb he hes hc1 hb1 h0 h1
  unfold Ca.takC at hR
  simp only at hR
  cases hlt : Li.lineE t with
  | none =>
    rw [hlt] at hR HSP
    simp only at hR
    have HR:=hide hR.symm
    unfold splA at HSP
    clear hlt hR htl
    go_enter Tryz.func49,Tryz.ntmps49
    go_wp2_with fail
    refine (HSP.out).mono ?_
    rintro _ w1 ⟨rfl,hb1⟩
    have HB1:=hide (hb1.mono HBS.out)
    clear hb1
    go_wp2_with fail
    go_ret2
    rw [HR.out]
    exact ⟨HB1.out,rfl⟩
  | some p =>
    obtain ⟨nm,vl⟩:=p
    rw [hlt] at hR HSP
    simp only at hR
    unfold splA at HSP
    obtain ⟨gE,hgE⟩ : ∃ g,decide (nm = Ev.nEND) = g:=⟨_,rfl⟩
    obtain ⟨gV,hgV⟩ : ∃ g,decide (nm = Ca.nVER) = g:=⟨_,rfl⟩
    obtain ⟨gB,hgB⟩ : ∃ g,decide (nm = Ev.nBEGIN) = g:=⟨_,rfl⟩
    have e1 : (nm == [69,78,68]) = gE:=by rw [<- hgE,tx_eq]; rfl
    have e2 : (nm == [86,69,82,83,73,79,78]) = gV:=by rw [<- hgV,tx_eq]; rfl
    have e3 : (nm == [66,69,71,73,78]) = gB:=by rw [<- hgB,tx_eq]; rfl
    have q1:=str_tl nm
    clear hlt htl
    cases gE with
    | true =>
      rw [if_pos (of_decide_eq_true hgE)] at hR
      have HR:=hide hR.symm
      clear hR hgE hgV hgB
      go_enter Tryz.func49,Tryz.ntmps49
      go_wp2_with fail
      refine (HSP.out).mono ?_
      rintro _ w1 ⟨rfl,hb1⟩
      have HB1:=hide (hb1.mono HBS.out)
      clear hb1
      go_wp2_with fail
      go_ret2
      rw [HR.out]
      exact ⟨HB1.out,rfl⟩
    | false =>
      rw [if_neg (of_decide_eq_false hgE)] at hR
      cases gV with
      | true =>
        have hnv:=of_decide_eq_true hgV
        rw [if_pos hnv] at hR
        have hB0 : gB = false:=by rw [<- hgB]; exact decide_eq_false (fun q => Ca.ver_begin (hnv.symm.trans q))
        subst hB0
        obtain ⟨d,hd⟩ : ∃ d,(!ver && decide (vl = Ca.vVER)) = d:=⟨_,rfl⟩
        replace HTV:=hide (HTV.out vl)
        rw [hd] at HTV
        clear hgE hgV hgB hnv
        go_enter Tryz.func49,Tryz.ntmps49
        go_wp2_with fail
        refine (HSP.out).mono ?_
        rintro _ w1 ⟨rfl,hb1⟩
        have HB1:=hide (hb1.mono HBS.out)
        have HRG1:=hide (HRG.out.keep hb1)
        have hsz1:=hb1.size
        clear hb1
        go_wp2_with fail
        refine (HTV.out w1 HRG1.out).mono ?_
        rintro _ w2 ⟨rfl,hrg2,hg2⟩
        have HRG2:=hide hrg2
        have HB2:=hide (HB1.out.grown hg2 (by omega) (fun k hk => by injection hk with hk; rw [<- hk]; exact HB0.out.1))
        clear hrg2 hg2
        cases d with
        | false =>
          rw [if_pos (by
            cases ver with
            | true => exact Or.inl rfl
            | false => exact Or.inr (by simpa using hd))] at hR
          have HR:=hide hR.symm
          clear hR hd
          go_wp2_with fail
          go_ret2
          rw [HR.out]
          exact ⟨HB2.out,rfl⟩
        | true =>
          have hd2 : ver = false /\ vl = Ca.vVER:=by cases ver <;> simp at hd; exact ⟨rfl,hd⟩
          rw [if_neg (by rintro (q | q); · rw [hd2.1] at q; cases q
                         · exact q hd2.2)] at hR
          have HR:=hide hR.symm
          clear hR hd hd2
          go_wp2_with fail
          go_ret2
          rw [HR.out]
          exact ⟨HB2.out,_,l,rfl,HES.out,HRG2.out⟩
      | false =>
        rw [if_neg (of_decide_eq_false hgV)] at hR
        cases gB with
        | true =>
          rw [if_pos (of_decide_eq_true hgB)] at hR
          have HR : Hid (R = tevC ver es (Ev.readE unU (t :: ts))):=hide hR.symm
          clear hR hgE hgV hgB
          go_enter Tryz.func49,Tryz.ntmps49
          go_wp2_with fail
          refine (HSP.out).mono ?_
          rintro _ w1 ⟨rfl,hb1⟩
          have HB1:=hide (hb1.mono HBS.out)
          have HRG1:=hide (HRG.out.keep hb1)
          have HRW1:=hide (HRW.out.keep hb1)
          have HEN1:=hide (HENV.out.keep hb1)
          clear hb1
          go_wp2_with fail
          refine (HTE.out w1 HRG1.out HRW1.out HEN1.out).mono ?_
          rw [<- HR.out]
          obtain ⟨o,k⟩:=R
          rintro _ w2 ⟨hb2,hx⟩
          have HB2:=hide (HB1.out.trans hb2)
          clear hb2
          cases o with
          | none =>
            dsimp only at hx
            subst hx
            go_wp2_with fail
            go_ret2
            exact ⟨HB2.out,rfl⟩
          | some vo =>
            obtain ⟨ver2,o2⟩:=vo
            obtain ⟨v2,l2,rfl,h2,h3⟩:=hx
            have H23:=hide (And.intro h2 h3)
            clear h2 h3
            go_wp2_with fail
            go_ret2
            exact ⟨HB2.out,v2,l2,rfl,H23.out.1,H23.out.2⟩
        | false =>
          rw [if_neg (of_decide_eq_false hgB)] at hR
          have HR:=hide hR.symm
          clear hR hgE hgV hgB
          go_enter Tryz.func49,Tryz.ntmps49
          go_wp2_with fail
          refine (HSP.out).mono ?_
          rintro _ w1 ⟨rfl,hb1⟩
          have HB1:=hide (hb1.mono HBS.out)
          have HRG1:=hide (HRG.out.keep hb1)
          clear hb1
          go_wp2_with fail
          go_ret2
          rw [HR.out]
          exact ⟨HB1.out,_,l,rfl,HES.out,HRG1.out⟩
end Go.Proofs.YtfecnkhoojnkbaaGreatDoor

/- BW4; BRuF of the recipes, what is needed of them. -/
import Derived.Test.YtgihekokbgggcaaGreatZW3
set_option maxHeartbeats 8000000
set_option maxRecDepth 1000000
namespace Go.Proofs.YtgihekokbgggcaaGreat
open Go.RowKit Rul Go.Sort
theorem take_ne {α : Type} {l k : List α} {i : Nat} (hi : i < l.length) (hk : i < k.length) (h : l[i] ≠ k[i]) : l ≠ k:=by
 rintro rfl; exact h rfl
theorem same_all {α : Type} {l k : List α} (hl : l.length = k.length) (h : l.take l.length = k.take l.length) : l = k:=by
 rw [List.take_length,hl,List.take_length] at h; exact h
theorem eqI_any (A B : Option Addr) (n m c d : Nat) (l k : List Int) (w : World) (hl : RowI w A l) (hk : RowI w B k) (hn : n = l.length) (hm : m = k.length) (hsz : l.length <= 1000000) (hsk : k.length <= 1000000) :
  Calls Tryz.prog 177 #[.slice A n c,.slice B m d] w (Ans w (.bool (decide (l = k)))):=by
 subst hn hm
 by_cases hlen : l.length = k.length
 ·by_cases hnil : l = []
  ·subst hnil
   have hkn : k = []:=List.eq_nil_of_length_eq_zero hlen.symm
   subst hkn
   go_enter Tryz.func177,Tryz.ntmps177
   go_wp2_with fail
   refine wp_loop_rounds 1 ?_
   rw [rounds_succ]
   go_wp2_with fail
   go_ret
   exact ⟨rfl,start _⟩
  ·obtain ⟨b1,o1,rfl,hb1,hc1⟩:=hl hnil
   obtain ⟨b2,o2,rfl,hb2,hc2⟩:=hk (by rintro rfl; exact hnil (List.eq_nil_of_length_eq_zero hlen))
   have HC1:=hide hc1
   have HC2:=hide hc2
   have HL:=hide hlen
   rw [<- hlen]
   clear hl hk hc1 hc2 hlen hnil
   go_enter Tryz.func177,Tryz.ntmps177
   go_wp2_with fail
   go_loopw [13] (fun i wr => ∃ j : Nat,j <= l.length /\ i = .int .i64 j /\ l.take j = k.take j /\ Below w.heap.size w wr) (fun i _ => l.length - (intOf i).toNat)
   case atStart => exact ⟨0,Nat.zero_le _,rfl,rfl,start _⟩
   case round =>
    obtain ⟨j,hj,rfl,heq,hbw⟩:=hrel
    have HE:=hide heq
    clear heq
    by_cases hlt : j < l.length
    ·have hlk : j < k.length:=by have:=HL.out; omega
     have p1 : wr.cell? ⟨b1,o1 + j,none⟩ = some (.int .i64 l[j]):=(hbw.cell (p:=⟨b1,_,none⟩) hb1).trans (HC1.out j hlt)
     have p3 : wr.cell? ⟨b2,o2 + j,none⟩ = some (.int .i64 k[j]):=(hbw.cell (p:=⟨b2,_,none⟩) hb2).trans (HC2.out j hlk)
     have hi0 : (0 : Int) <= (j : Int):=by omega
     have hi1 : (j : Int) < (l.length : Int):=by omega
     cases e1 : (l[j] == k[j])
     ·have HN : Hid (l ≠ k):=by
       show l ≠ k
       refine take_ne hlt hlk fun h => ?_
       rw [h,beq_self_eq_true] at e1; cases e1
      have e9 : (l[j] != k[j]) = true:=by rw [bne,e1]; rfl
      go_wp2_with fail
      go_quiet (fail)
      go_wp2_with fail
      go_ret
      exact ⟨ret_bool (decide_eq_false HN.out).symm,below_drawn hbw _⟩
     ·have HN : Hid (l.take (j + 1) = k.take (j + 1)):=by
       show l.take (j + 1) = k.take (j + 1)
       rw [List.take_succ_eq_append_getElem hlt,List.take_succ_eq_append_getElem hlk,HE.out]
       congr 2
       exact by simpa using e1
      have e9 : (l[j] != k[j]) = false:=by rw [bne,e1]; rfl
      go_wp2_with fail
      go_quiet (fail)
      go_wp2_with fail
      go_roundw
      case rel => exact ⟨j + 1,by omega,by go_num,HN.out,below_drawn hbw _⟩
      case measure => simp [intOf]; omega
    ·obtain rfl : j = l.length:=by omega
     have HF : Hid (l = k):=same_all HL.out HE.out
     go_wp2_with fail
     go_ret
     exact ⟨ret_bool (decide_eq_true HF.out).symm,hbw⟩
 ·have HF : Hid (l ≠ k):=fun h => hlen (by rw [h])
  have e0 : (l.length == k.length) = false:=by rw [beq_eq_false_iff_ne]; exact hlen
  have e1 : ((l.length : Int) == (k.length : Int)) = false:=by rw [beq_eq_false_iff_ne]; omega
  have e2 : ((l.length : Int) != (k.length : Int)) = true:=by rw [bne_iff_ne]; omega
  clear hl hk
  go_enter Tryz.func177,Tryz.ntmps177
  go_wp2_with fail
  go_ret
  exact ⟨ret_bool (decide_eq_false HF.out).symm,start _⟩
theorem eqD_any (A B : Option Addr) (n m c d : Nat) (l k : List Wd) (w : World) (hl : RowD w A l) (hk : RowD w B k) (hn : n = l.length) (hm : m = k.length) (hsz : l.length <= 1000000) (hsk : k.length <= 1000000) :
  Calls Tryz.prog 176 #[.slice A n c,.slice B m d] w (Ans w (.bool (decide (l = k)))):=by
 subst hn hm
 by_cases hlen : l.length = k.length
 ·by_cases hnil : l = []
  ·subst hnil
   have hkn : k = []:=List.eq_nil_of_length_eq_zero hlen.symm
   subst hkn
   go_enter Tryz.func176,Tryz.ntmps176
   go_wp2_with fail
   refine wp_loop_rounds 1 ?_
   rw [rounds_succ]
   go_wp2_with fail
   go_ret
   exact ⟨rfl,start _⟩
  ·obtain ⟨b1,o1,rfl,hb1,hc1⟩:=hl hnil
   obtain ⟨b2,o2,rfl,hb2,hc2⟩:=hk (by rintro rfl; exact hnil (List.eq_nil_of_length_eq_zero hlen))
   have HC1:=hide hc1
   have HC2:=hide hc2
   have HL:=hide hlen
   rw [<- hlen]
   clear hl hk hc1 hc2 hlen hnil
   go_enter Tryz.func176,Tryz.ntmps176
   go_wp2_with fail
   go_loopw [13] (fun i wr => ∃ j : Nat,j <= l.length /\ i = .int .i64 j /\ l.take j = k.take j /\ Below w.heap.size w wr) (fun i _ => l.length - (intOf i).toNat)
   case atStart => exact ⟨0,Nat.zero_le _,rfl,rfl,start _⟩
   case round =>
    obtain ⟨j,hj,rfl,heq,hbw⟩:=hrel
    have HE:=hide heq
    clear heq
    by_cases hlt : j < l.length
    ·have hlk : j < k.length:=by have:=HL.out; omega
     have p1 : wr.cell? ⟨b1,o1 + j * 2,none⟩ = some (.int .i64 l[j].1):=(hbw.cell (p:=⟨b1,_,none⟩) hb1).trans (HC1.out j hlt).1
     have p2 : wr.cell? ⟨b1,o1 + j * 2 + 1,none⟩ = some (.int .i64 l[j].2):=(hbw.cell (p:=⟨b1,_,none⟩) hb1).trans (HC1.out j hlt).2
     have p3 : wr.cell? ⟨b2,o2 + j * 2,none⟩ = some (.int .i64 k[j].1):=(hbw.cell (p:=⟨b2,_,none⟩) hb2).trans (HC2.out j hlk).1
     have p4 : wr.cell? ⟨b2,o2 + j * 2 + 1,none⟩ = some (.int .i64 k[j].2):=(hbw.cell (p:=⟨b2,_,none⟩) hb2).trans (HC2.out j hlk).2
     have hi0 : (0 : Int) <= (j : Int):=by omega
     have hi1 : (j : Int) < (l.length : Int):=by omega
     cases e1 : (l[j].1 == k[j].1)
     ·have HN : Hid (l ≠ k):=by
       show l ≠ k
       refine take_ne hlt hlk fun h => ?_
       rw [h,beq_self_eq_true] at e1; cases e1
      have e9 : (l[j].1 != k[j].1) = true:=by rw [bne,e1]; rfl
      go_wp2_with fail
      go_quiet (fail)
      go_wp2_with fail
      go_ret
      exact ⟨ret_bool (decide_eq_false HN.out).symm,below_drawn hbw _⟩
     ·have e8 : (l[j].1 != k[j].1) = false:=by rw [bne,e1]; rfl
      cases e2 : (l[j].2 == k[j].2)
      ·have HN : Hid (l ≠ k):=by
        show l ≠ k
        refine take_ne hlt hlk fun h => ?_
        rw [h,beq_self_eq_true] at e2; cases e2
       have e9 : (l[j].2 != k[j].2) = true:=by rw [bne,e2]; rfl
       go_wp2_with fail
       go_quiet (fail)
       go_wp2_with fail
       go_ret
       exact ⟨ret_bool (decide_eq_false HN.out).symm,below_drawn hbw _⟩
      ·have HN : Hid (l.take (j + 1) = k.take (j + 1)):=by
        show l.take (j + 1) = k.take (j + 1)
        rw [List.take_succ_eq_append_getElem hlt,List.take_succ_eq_append_getElem hlk,HE.out]
        congr 2
        exact Prod.ext (by simpa using e1) (by simpa using e2)
       have e9 : (l[j].2 != k[j].2) = false:=by rw [bne,e2]; rfl
       go_wp2_with fail
       go_quiet (fail)
       go_wp2_with fail
       go_roundw
       case rel => exact ⟨j + 1,by omega,by go_num,HN.out,below_drawn hbw _⟩
       case measure => simp [intOf]; omega
    ·obtain rfl : j = l.length:=by omega
     have HF : Hid (l = k):=same_all HL.out HE.out
     go_wp2_with fail
     go_ret
     exact ⟨ret_bool (decide_eq_true HF.out).symm,hbw⟩
 ·have HF : Hid (l ≠ k):=fun h => hlen (by rw [h])
  have e0 : (l.length == k.length) = false:=by rw [beq_eq_false_iff_ne]; exact hlen
  have e1 : ((l.length : Int) == (k.length : Int)) = false:=by rw [beq_eq_false_iff_ne]; omega
  have e2 : ((l.length : Int) != (k.length : Int)) = true:=by rw [bne_iff_ne]; omega
  clear hl hk
  go_enter Tryz.func176,Tryz.ntmps176
  go_wp2_with fail
  go_ret
  exact ⟨ret_bool (decide_eq_false HF.out).symm,start _⟩
theorem eqR_any (A B : Option Addr) (n m c d : Nat) (l k : List Int) (w : World) (hl : RowI w A l) (hk : RowI w B k) (hn : n = l.length) (hm : m = k.length) (hsz : l.length <= 1000000) (hsk : k.length <= 1000000) :
  Calls Tryz.prog 87 #[.slice A n c,.slice B m d] w (Ans w (.bool (decide (l = k)))):=by
 subst hn hm
 by_cases hlen : l.length = k.length
 ·by_cases hnil : l = []
  ·subst hnil
   have hkn : k = []:=List.eq_nil_of_length_eq_zero hlen.symm
   subst hkn
   go_enter Tryz.func87,Tryz.ntmps87
   go_wp2_with fail
   refine wp_loop_rounds 1 ?_
   rw [rounds_succ]
   go_wp2_with fail
   go_ret
   exact ⟨rfl,start _⟩
  ·obtain ⟨b1,o1,rfl,hb1,hc1⟩:=hl hnil
   obtain ⟨b2,o2,rfl,hb2,hc2⟩:=hk (by rintro rfl; exact hnil (List.eq_nil_of_length_eq_zero hlen))
   have HC1:=hide hc1
   have HC2:=hide hc2
   have HL:=hide hlen
   rw [<- hlen]
   clear hl hk hc1 hc2 hlen hnil
   go_enter Tryz.func87,Tryz.ntmps87
   go_wp2_with fail
   go_loopw [5] (fun i wr => ∃ j : Nat,j <= l.length /\ i = .int .i64 j /\ l.take j = k.take j /\ Below w.heap.size w wr) (fun i _ => l.length - (intOf i).toNat)
   case atStart => exact ⟨0,Nat.zero_le _,rfl,rfl,start _⟩
   case round =>
    obtain ⟨j,hj,rfl,heq,hbw⟩:=hrel
    have HE:=hide heq
    clear heq
    by_cases hlt : j < l.length
    ·have hlk : j < k.length:=by have:=HL.out; omega
     have p1 : wr.cell? ⟨b1,o1 + j,none⟩ = some (.int .i64 l[j]):=(hbw.cell (p:=⟨b1,_,none⟩) hb1).trans (HC1.out j hlt)
     have p3 : wr.cell? ⟨b2,o2 + j,none⟩ = some (.int .i64 k[j]):=(hbw.cell (p:=⟨b2,_,none⟩) hb2).trans (HC2.out j hlk)
     have hi0 : (0 : Int) <= (j : Int):=by omega
     have hi1 : (j : Int) < (l.length : Int):=by omega
     cases e1 : (l[j] == k[j])
     ·have HN : Hid (l ≠ k):=by
       show l ≠ k
       refine take_ne hlt hlk fun h => ?_
       rw [h,beq_self_eq_true] at e1; cases e1
      have e9 : (l[j] != k[j]) = true:=by rw [bne,e1]; rfl
      go_wp2_with fail
      go_quiet (fail)
      go_wp2_with fail
      go_ret
      exact ⟨ret_bool (decide_eq_false HN.out).symm,below_drawn hbw _⟩
     ·have HN : Hid (l.take (j + 1) = k.take (j + 1)):=by
       show l.take (j + 1) = k.take (j + 1)
       rw [List.take_succ_eq_append_getElem hlt,List.take_succ_eq_append_getElem hlk,HE.out]
       congr 2
       exact by simpa using e1
      have e9 : (l[j] != k[j]) = false:=by rw [bne,e1]; rfl
      go_wp2_with fail
      go_quiet (fail)
      go_wp2_with fail
      go_roundw
      case rel => exact ⟨j + 1,by omega,by go_num,HN.out,below_drawn hbw _⟩
      case measure => simp [intOf]; omega
    ·obtain rfl : j = l.length:=by omega
     have HF : Hid (l = k):=same_all HL.out HE.out
     go_wp2_with fail
     go_ret
     exact ⟨ret_bool (decide_eq_true HF.out).symm,hbw⟩
 ·have HF : Hid (l ≠ k):=fun h => hlen (by rw [h])
  have e0 : (l.length == k.length) = false:=by rw [beq_eq_false_iff_ne]; exact hlen
  have e1 : ((l.length : Int) == (k.length : Int)) = false:=by rw [beq_eq_false_iff_ne]; omega
  have e2 : ((l.length : Int) != (k.length : Int)) = true:=by rw [bne_iff_ne]; omega
  clear hl hk
  go_enter Tryz.func87,Tryz.ntmps87
  go_wp2_with fail
  go_ret
  exact ⟨ret_bool (decide_eq_false HF.out).symm,start _⟩
structure Lies (w : World) (D : Option Addr) (dn : Nat) (M : Option Addr) (mn : Nat) (Y : Option Addr) (yn : Nat) (ds : List Wd) (ms ys : List Int) : Prop where
 d : RowD w D ds
 dn : dn = ds.length
 dl : ds.length <= 10000
 m : RowI w M ms
 mn : mn = ms.length
 ml : ms.length <= 10000
 y : RowI w Y ys
 yn : yn = ys.length
 yl : ys.length <= 10000
theorem Lies.keep {w w' : World} {D M Y : Option Addr} {dn mn yn : Nat} {ds : List Wd} {ms ys : List Int} (h : Lies w D dn M mn Y yn ds ms ys) (hb : Below w.heap.size w w') : Lies w' D dn M mn Y yn ds ms ys :=
 ⟨h.d.keep hb,h.dn,h.dl,h.m.keep hb,h.mn,h.ml,h.y.keep hb,h.yn,h.yl⟩
theorem partsOf_any (fr ev ct un : Int) (D M Y : Option Addr) (dn dc mn mc yn yc : Nat) (w : World) :
  Calls Tryz.prog 105 #[.agg #[.int .i64 fr,.int .i64 ev,.int .i64 ct,.int .i64 un,.slice D dn dc,.slice M mn mc,.slice Y yn yc]] w (Ans w (.agg #[.int .i64 fr,.int .i64 ev,.int .i64 ct,.int .i64 un,.slice D dn dc,.slice M mn mc,.slice Y yn yc])):=by
 go_enter Tryz.func105,Tryz.ntmps105
 go_wp2_with fail
 exact bodyPost_ret (v:=.agg #[.int .i64 fr,.int .i64 ev,.int .i64 ct,.int .i64 un,.slice D dn dc,.slice M mn mc,.slice Y yn yc]) (by simp [results,Tryz.results105,go_sem]) rfl ⟨rfl,more (more (start _) _) _⟩
theorem once_any (w : World) :
  Calls Tryz.prog 101 #[] w (Ans w (.agg #[.int .i64 0,.int .i64 0,.int .i64 0,.int .i64 (-1),.slice none 0 0,.slice none 0 0,.slice none 0 0])):=by
 go_enter Tryz.func101,Tryz.ntmps101
 go_wp2_with fail
 exact bodyPost_ret (v:=.agg #[.int .i64 0,.int .i64 0,.int .i64 0,.int .i64 (-1),.slice none 0 0,.slice none 0 0,.slice none 0 0]) (by simp [results,Tryz.results101,go_sem]) rfl ⟨rfl,more (start _) _⟩
def rngB (fr ev ct un : Int) : Bool:=btw 1 fr 4 && (btw 1 ev 100 && (btw 0 ct 40 && (btw (-1) un 52595999 && ((ct == 0) || (un == -1)))))
theorem inRange_any (fr ev ct un : Int) (w : World) :
  Calls Tryz.prog 127 #[.agg #[.int .i64 fr,.int .i64 ev,.int .i64 ct,.int .i64 un]] w (Ans w (.bool (rngB fr ev ct un))):=by
 cases h1 : btw 1 fr 4
 ·have e:=hide (show rngB fr ev ct un = false by unfold rngB; simp only [h1]; rfl)
  have H1:=hide h1
  clear h1
  go_enter Tryz.func127,Tryz.ntmps127
  go_wp2_with fail
  refine (btw_at _ _ _ _ _ H1.out).mono ?_
  rintro e w' ⟨rfl,rfl⟩
  go_wp2_with fail
  go_ret
  exact ⟨ret_bool (by rw [e.out]),more (start _) _⟩
 ·cases h2 : btw 1 ev 100
  ·have e:=hide (show rngB fr ev ct un = false by unfold rngB; simp only [h1,h2]; rfl)
   have H1:=hide h1
   have H2:=hide h2
   clear h1 h2
   go_enter Tryz.func127,Tryz.ntmps127
   go_wp2_with fail
   refine (btw_at _ _ _ _ _ H1.out).mono ?_
   rintro e w' ⟨rfl,rfl⟩
   go_wp2_with fail
   refine (btw_at _ _ _ _ _ H2.out).mono ?_
   rintro e w' ⟨rfl,rfl⟩
   go_wp2_with fail
   go_ret
   exact ⟨ret_bool (by rw [e.out]),more (start _) _⟩
  ·cases h3 : btw 0 ct 40
   ·have e:=hide (show rngB fr ev ct un = false by unfold rngB; simp only [h1,h2,h3]; rfl)
    have H1:=hide h1
    have H2:=hide h2
    have H3:=hide h3
    clear h1 h2 h3
    go_enter Tryz.func127,Tryz.ntmps127
    go_wp2_with fail
    refine (btw_at _ _ _ _ _ H1.out).mono ?_
    rintro e w' ⟨rfl,rfl⟩
    go_wp2_with fail
    refine (btw_at _ _ _ _ _ H2.out).mono ?_
    rintro e w' ⟨rfl,rfl⟩
    go_wp2_with fail
    refine (btw_at _ _ _ _ _ H3.out).mono ?_
    rintro e w' ⟨rfl,rfl⟩
    go_wp2_with fail
    go_ret
    exact ⟨ret_bool (by rw [e.out]),more (start _) _⟩
   ·cases h4 : btw (-1) un 52595999
    ·have e:=hide (show rngB fr ev ct un = false by unfold rngB; simp only [h1,h2,h3,h4]; rfl)
     have H1:=hide h1
     have H2:=hide h2
     have H3:=hide h3
     have H4:=hide h4
     clear h1 h2 h3 h4
     go_enter Tryz.func127,Tryz.ntmps127
     go_wp2_with fail
     refine (btw_at _ _ _ _ _ H1.out).mono ?_
     rintro e w' ⟨rfl,rfl⟩
     go_wp2_with fail
     refine (btw_at _ _ _ _ _ H2.out).mono ?_
     rintro e w' ⟨rfl,rfl⟩
     go_wp2_with fail
     refine (btw_at _ _ _ _ _ H3.out).mono ?_
     rintro e w' ⟨rfl,rfl⟩
     go_wp2_with fail
     refine (btw_at _ _ _ _ _ H4.out).mono ?_
     rintro e w' ⟨rfl,rfl⟩
     go_wp2_with fail
     go_ret
     exact ⟨ret_bool (by rw [e.out]),more (start _) _⟩
    ·cases h5 : (ct == 0)
     ·have e:=hide (show rngB fr ev ct un = (un == -1) by unfold rngB; simp only [h1,h2,h3,h4,h5]; rfl)
      have H1:=hide h1
      have H2:=hide h2
      have H3:=hide h3
      have H4:=hide h4
      clear h1 h2 h3 h4
      go_enter Tryz.func127,Tryz.ntmps127
      go_wp2_with fail
      refine (btw_at _ _ _ _ _ H1.out).mono ?_
      rintro e w' ⟨rfl,rfl⟩
      go_wp2_with fail
      refine (btw_at _ _ _ _ _ H2.out).mono ?_
      rintro e w' ⟨rfl,rfl⟩
      go_wp2_with fail
      refine (btw_at _ _ _ _ _ H3.out).mono ?_
      rintro e w' ⟨rfl,rfl⟩
      go_wp2_with fail
      refine (btw_at _ _ _ _ _ H4.out).mono ?_
      rintro e w' ⟨rfl,rfl⟩
      go_wp2_with fail
      go_ret
      exact ⟨ret_bool (by rw [e.out]),more (start _) _⟩
     ·have e:=hide (show rngB fr ev ct un = true by unfold rngB; simp only [h1,h2,h3,h4,h5]; rfl)
      have H1:=hide h1
      have H2:=hide h2
      have H3:=hide h3
      have H4:=hide h4
      clear h1 h2 h3 h4
      go_enter Tryz.func127,Tryz.ntmps127
      go_wp2_with fail
      refine (btw_at _ _ _ _ _ H1.out).mono ?_
      rintro e w' ⟨rfl,rfl⟩
      go_wp2_with fail
      refine (btw_at _ _ _ _ _ H2.out).mono ?_
      rintro e w' ⟨rfl,rfl⟩
      go_wp2_with fail
      refine (btw_at _ _ _ _ _ H3.out).mono ?_
      rintro e w' ⟨rfl,rfl⟩
      go_wp2_with fail
      refine (btw_at _ _ _ _ _ H4.out).mono ?_
      rintro e w' ⟨rfl,rfl⟩
      go_wp2_with fail
      go_ret
      exact ⟨ret_bool (by rw [e.out]),more (start _) _⟩
theorem hasPos_any (D M Y : Option Addr) (dn dc mn mc yn yc : Nat) (ds : List Wd) (w : World) (h : RowD w D ds) (hn : dn = ds.length) (hl : ds.length <= 10000) :
  Calls Tryz.prog 162 #[.agg #[.slice D dn dc,.slice M mn mc,.slice Y yn yc]] w (Ans w (.bool (ds.any posB))):=by
 have hbx:=more (start w) (.cells #[.slice D dn dc,.slice M mn mc,.slice Y yn yc] 128)
 have HL:=hide (h.keep hbx)
 have HN:=hide hn
 clear h hn
 go_enter Tryz.func162,Tryz.ntmps162
 go_wp2_with fail
 refine (hasPo_any D dn dc ds _ HL.out HN.out hl).mono ?_
 rintro e w1 ⟨rfl,hb1⟩
 have HB:=hide (andthen hbx hb1)
 clear hbx hb1
 go_wp2_with fail
 go_ret
 exact ⟨rfl,HB.out⟩
def welB (ds : List Wd) (ms ys : List Int) : Bool:=listB wdOk wdLt (0,0) ds && (listB mdOk inLt 0 ms && listB moOk inLt 0 ys)
theorem well_any (D M Y : Option Addr) (dn dc mn mc yn yc : Nat) (ds : List Wd) (ms ys : List Int) (w : World) (h : Lies w D dn M mn Y yn ds ms ys) :
  Calls Tryz.prog 128 #[.agg #[.slice D dn dc,.slice M mn mc,.slice Y yn yc]] w (Ans w (.bool (welB ds ms ys))):=by
 have HBX:=hide (more (start w) (.cells #[.slice D dn dc,.slice M mn mc,.slice Y yn yc] 128))
 have s1 : (w.alloc (.cells #[.slice D dn dc,.slice M mn mc,.slice Y yn yc] 128)).cell? ⟨w.heap.size,1,none⟩ = some (.slice M mn mc):=by rw [World.cell?_alloc_at _ _ _ _ rfl]; rfl
 have s2 : (w.alloc (.cells #[.slice D dn dc,.slice M mn mc,.slice Y yn yc] 128)).cell? ⟨w.heap.size,2,none⟩ = some (.slice Y yn yc):=by rw [World.cell?_alloc_at _ _ _ _ rfl]; rfl
 have HL:=hide (h.keep HBX.out)
 clear h
 cases h1 : listB wdOk wdLt (0,0) ds
 ·have e:=hide (show welB ds ms ys = false by unfold welB; simp only [h1]; rfl)
  have H1:=hide h1
  clear h1
  go_enter Tryz.func128,Tryz.ntmps128
  go_wp2_with fail
  refine (ans_is (lstWd_any D dn dc ds _ HL.out.d HL.out.dn HL.out.dl) H1.out).mono ?_
  rintro e w1 ⟨rfl,hb1⟩
  replace HBX:=hide (andthen HBX.out hb1)
  clear hb1
  clear s1 s2
  go_wp2_with fail
  go_ret
  exact ⟨ret_bool (by rw [e.out]),HBX.out⟩
 ·cases h2 : listB mdOk inLt 0 ms
  ·have e:=hide (show welB ds ms ys = false by unfold welB; simp only [h1,h2]; rfl)
   have H1:=hide h1
   have H2:=hide h2
   clear h1 h2
   go_enter Tryz.func128,Tryz.ntmps128
   go_wp2_with fail
   refine (ans_is (lstWd_any D dn dc ds _ HL.out.d HL.out.dn HL.out.dl) H1.out).mono ?_
   rintro e w1 ⟨rfl,hb1⟩
   replace HBX:=hide (andthen HBX.out hb1)
   replace HL:=hide (HL.out.keep hb1)
   replace s1:=cell_keep hb1 s1
   replace s2:=cell_keep hb1 s2
   clear hb1
   go_wp2_with fail
   refine (ans_is (lstMd_any M mn mc ms _ HL.out.m HL.out.mn HL.out.ml) H2.out).mono ?_
   rintro e w1 ⟨rfl,hb1⟩
   replace HBX:=hide (andthen HBX.out hb1)
   clear hb1
   clear s1 s2
   go_wp2_with fail
   go_ret
   exact ⟨ret_bool (by rw [e.out]),HBX.out⟩
  ·have e:=hide (show welB ds ms ys = listB moOk inLt 0 ys by unfold welB; simp only [h1,h2]; rfl)
   have H1:=hide h1
   have H2:=hide h2
   clear h1 h2
   go_enter Tryz.func128,Tryz.ntmps128
   go_wp2_with fail
   refine (ans_is (lstWd_any D dn dc ds _ HL.out.d HL.out.dn HL.out.dl) H1.out).mono ?_
   rintro e w1 ⟨rfl,hb1⟩
   replace HBX:=hide (andthen HBX.out hb1)
   replace HL:=hide (HL.out.keep hb1)
   replace s1:=cell_keep hb1 s1
   replace s2:=cell_keep hb1 s2
   clear hb1
   go_wp2_with fail
   refine (ans_is (lstMd_any M mn mc ms _ HL.out.m HL.out.mn HL.out.ml) H2.out).mono ?_
   rintro e w1 ⟨rfl,hb1⟩
   replace HBX:=hide (andthen HBX.out hb1)
   replace HL:=hide (HL.out.keep hb1)
   replace s1:=cell_keep hb1 s1
   replace s2:=cell_keep hb1 s2
   clear hb1
   go_wp2_with fail
   refine (lstMo_any Y yn yc ys _ HL.out.y HL.out.yn HL.out.yl).mono ?_
   rintro e w1 ⟨rfl,hb1⟩
   replace HBX:=hide (andthen HBX.out hb1)
   clear hb1
   clear s1 s2
   go_wp2_with fail
   go_ret
   exact ⟨ret_bool (by rw [e.out]),HBX.out⟩
def sutB (fr : Int) (ds : List Wd) (ms ys : List Int) : Bool :=
 if fr = 1 then !ds.any posB
 else if fr = 2 then !ds.any posB && decide (ms.length = 0)
 else if fr = 4 then decide (0 < ys.length) || (decide (ds.length = 0) && decide (ms.length = 0))
 else true
theorem len_eq0 (l : Nat) (h : l = 0) : ((l : Int) == 0) = true:=by subst h; rfl
theorem len_ne0 (l : Nat) (h : ¬ l = 0) : ((l : Int) == 0) = false:=by rw [beq_eq_false_iff_ne]; omega
theorem suited_any (fr ev ct un : Int) (D M Y : Option Addr) (dn dc mn mc yn yc : Nat) (ds : List Wd) (ms ys : List Int) (w : World) (h : Lies w D dn M mn Y yn ds ms ys) :
  Calls Tryz.prog 129 #[.agg #[.int .i64 fr,.int .i64 ev,.int .i64 ct,.int .i64 un,.slice D dn dc,.slice M mn mc,.slice Y yn yc]] w (Ans w (.bool (sutB fr ds ms ys))):=by
 have HBX:=hide (more (start w) (.cells #[.int .i64 fr,.int .i64 ev,.int .i64 ct,.int .i64 un,.slice D dn dc,.slice M mn mc,.slice Y yn yc] 130))
 have HL:=hide (h.keep HBX.out)
 have HN:=hide (And.intro h.dn (And.intro h.mn h.yn))
 have s1 : (w.alloc (.cells #[.int .i64 fr,.int .i64 ev,.int .i64 ct,.int .i64 un,.slice D dn dc,.slice M mn mc,.slice Y yn yc] 130)).cell? ⟨w.heap.size,5,none⟩ = some (.slice M mn mc):=by rw [World.cell?_alloc_at _ _ _ _ rfl]; rfl
 clear h
 by_cases k1 : fr = 1
 ·subst k1
  have e:=hide (show sutB 1 ds ms ys = !ds.any posB from rfl)
  clear s1
  go_enter Tryz.func129,Tryz.ntmps129
  go_wp2_with fail
  refine (hasPos_any D M Y dn dc mn mc yn yc ds _ HL.out.d HL.out.dn HL.out.dl).mono ?_
  rintro e w1 ⟨rfl,hb1⟩
  replace HBX:=hide (andthen HBX.out hb1)
  clear hb1
  go_wp2_with fail
  go_ret
  exact ⟨ret_bool (by rw [e.out]),HBX.out⟩
 have n1 : (fr == 1) = false:=by rw [beq_eq_false_iff_ne]; exact k1
 by_cases k2 : fr = 2
 ·subst k2
  cases hp : ds.any posB
  ·have e:=hide (show sutB 2 ds ms ys = decide (ms.length = 0) by unfold sutB; rw [if_neg (by omega),if_pos rfl,hp]; rfl)
   have HP:=hide hp
   have hm : ((mn : Int) == 0) = decide (ms.length = 0):=by
    rw [HN.out.2.1]
    by_cases hz : ms.length = 0
    ·rw [len_eq0 _ hz,decide_eq_true hz]
    ·rw [len_ne0 _ hz,decide_eq_false hz]
   have HM:=hide hm
   clear hp hm k1 n1
   go_enter Tryz.func129,Tryz.ntmps129
   go_wp2_with fail
   refine (ans_is (hasPos_any D M Y dn dc mn mc yn yc ds _ HL.out.d HL.out.dn HL.out.dl) HP.out).mono ?_
   rintro e w1 ⟨rfl,hb1⟩
   replace HBX:=hide (andthen HBX.out hb1)
   replace s1:=cell_keep hb1 s1
   clear hb1
   go_wp2_with fail
   go_ret
   exact ⟨ret_bool (by rw [e.out,<- HM.out]),HBX.out⟩
  ·have e:=hide (show sutB 2 ds ms ys = false by unfold sutB; rw [if_neg (by omega),if_pos rfl,hp]; rfl)
   have HP:=hide hp
   clear hp k1 n1 s1
   go_enter Tryz.func129,Tryz.ntmps129
   go_wp2_with fail
   refine (ans_is (hasPos_any D M Y dn dc mn mc yn yc ds _ HL.out.d HL.out.dn HL.out.dl) HP.out).mono ?_
   rintro e w1 ⟨rfl,hb1⟩
   replace HBX:=hide (andthen HBX.out hb1)
   clear hb1
   go_wp2_with fail
   go_ret
   exact ⟨ret_bool (by rw [e.out]),HBX.out⟩
 have n2 : (fr == 2) = false:=by rw [beq_eq_false_iff_ne]; exact k2
 by_cases k4 : fr = 4
 ·subst k4
  clear s1 k1 k2 n1 n2
  by_cases hy : 0 < ys.length
  ·have e:=hide (show sutB 4 ds ms ys = true by unfold sutB; rw [if_neg (by omega),if_neg (by omega),if_pos rfl,decide_eq_true hy]; rfl)
   have g0 : 0 < yn:=by rw [HN.out.2.2]; exact hy
   have g : decide (0 < (yn : Int)) = true:=decide_eq_true (by omega)
   have g1 : decide (0 < yn) = true:=decide_eq_true g0
   clear hy
   go_enter Tryz.func129,Tryz.ntmps129
   go_wp2_with fail
   go_ret
   exact ⟨ret_bool (by rw [e.out]),HBX.out⟩
  ·obtain rfl : yn = 0:=by rw [HN.out.2.2]; omega
   by_cases hd : ds.length = 0
   ·have e:=hide (show sutB 4 ds ms ys = decide (ms.length = 0) by unfold sutB; rw [if_neg (by omega),if_neg (by omega),if_pos rfl,decide_eq_false hy,decide_eq_true hd]; rfl)
    obtain rfl : dn = 0:=by rw [HN.out.1]; exact hd
    have hm : ((mn : Int) == 0) = decide (ms.length = 0):=by
     rw [HN.out.2.1]
     by_cases hz : ms.length = 0
     ·rw [len_eq0 _ hz,decide_eq_true hz]
     ·rw [len_ne0 _ hz,decide_eq_false hz]
    have HM:=hide hm
    clear hm hd hy
    go_enter Tryz.func129,Tryz.ntmps129
    go_wp2_with fail
    go_ret
    exact ⟨ret_bool (by rw [e.out,<- HM.out]; try simp),HBX.out⟩
   ·have e:=hide (show sutB 4 ds ms ys = false by unfold sutB; rw [if_neg (by omega),if_neg (by omega),if_pos rfl,decide_eq_false hy,decide_eq_false hd]; rfl)
    have g2 : ((dn : Int) == 0) = false:=by rw [HN.out.1]; exact len_ne0 _ hd
    have g3 : ¬ dn = 0:=by rw [HN.out.1]; exact hd
    have g4 : (dn == 0) = false:=by rw [beq_eq_false_iff_ne]; exact g3
    clear hd hy
    go_enter Tryz.func129,Tryz.ntmps129
    go_wp2_with fail
    go_ret
    exact ⟨ret_bool (by rw [e.out]),HBX.out⟩
 have n4 : (fr == 4) = false:=by rw [beq_eq_false_iff_ne]; exact k4
 have e:=hide (show sutB fr ds ms ys = true by unfold sutB; rw [if_neg k1,if_neg k2,if_neg k4])
 clear s1 k1 k2 k4
 go_enter Tryz.func129,Tryz.ntmps129
 go_wp2_with fail
 go_ret
 exact ⟨ret_bool (by rw [e.out]),HBX.out⟩
theorem lies_once (w : World) : Lies w none 0 none 0 none 0 [] [] [] :=
 ⟨RowD.nil _ _,rfl,by simp,RowI.nil _ _,rfl,by simp,RowI.nil _ _,rfl,by simp⟩
def eq3 (ds ds2 : List Wd) (ms ms2 ys ys2 : List Int) : Bool:=decide (ds = ds2) && (decide (ms = ms2) && decide (ys = ys2))
theorem equal_any (D M Y D2 M2 Y2 : Option Addr) (dn dc mn mc yn yc dn2 dc2 mn2 mc2 yn2 yc2 : Nat) (ds : List Wd) (ms ys : List Int) (ds2 : List Wd) (ms2 ys2 : List Int) (w : World) (h : Lies w D dn M mn Y yn ds ms ys) (h2 : Lies w D2 dn2 M2 mn2 Y2 yn2 ds2 ms2 ys2) :
  Calls Tryz.prog 154 #[.agg #[.slice D dn dc,.slice M mn mc,.slice Y yn yc],.agg #[.slice D2 dn2 dc2,.slice M2 mn2 mc2,.slice Y2 yn2 yc2]] w (Ans w (.bool (eq3 ds ds2 ms ms2 ys ys2))):=by
 have HBX:=hide (more (more (start w) (.cells #[.slice D dn dc,.slice M mn mc,.slice Y yn yc] 128)) (.cells #[.slice D2 dn2 dc2,.slice M2 mn2 mc2,.slice Y2 yn2 yc2] 128))
 have s1 : ((w.alloc (.cells #[.slice D dn dc,.slice M mn mc,.slice Y yn yc] 128)).alloc (.cells #[.slice D2 dn2 dc2,.slice M2 mn2 mc2,.slice Y2 yn2 yc2] 128)).cell? ⟨w.heap.size,1,none⟩ = some (.slice M mn mc):=by rw [World.cell?_alloc_past _ _ _ (by simp),World.cell?_alloc_at _ _ _ _ rfl]; rfl
 have s2 : ((w.alloc (.cells #[.slice D dn dc,.slice M mn mc,.slice Y yn yc] 128)).alloc (.cells #[.slice D2 dn2 dc2,.slice M2 mn2 mc2,.slice Y2 yn2 yc2] 128)).cell? ⟨w.heap.size,2,none⟩ = some (.slice Y yn yc):=by rw [World.cell?_alloc_past _ _ _ (by simp),World.cell?_alloc_at _ _ _ _ rfl]; rfl
 have t1 : ((w.alloc (.cells #[.slice D dn dc,.slice M mn mc,.slice Y yn yc] 128)).alloc (.cells #[.slice D2 dn2 dc2,.slice M2 mn2 mc2,.slice Y2 yn2 yc2] 128)).cell? ⟨w.heap.size + 1,1,none⟩ = some (.slice M2 mn2 mc2):=by rw [World.cell?_alloc_at _ _ _ _ (by simp)]; rfl
 have t2 : ((w.alloc (.cells #[.slice D dn dc,.slice M mn mc,.slice Y yn yc] 128)).alloc (.cells #[.slice D2 dn2 dc2,.slice M2 mn2 mc2,.slice Y2 yn2 yc2] 128)).cell? ⟨w.heap.size + 1,2,none⟩ = some (.slice Y2 yn2 yc2):=by rw [World.cell?_alloc_at _ _ _ _ (by simp)]; rfl
 have HL:=hide (h.keep HBX.out)
 have HL2:=hide (h2.keep HBX.out)
 clear h h2
 cases h1 : decide (ds = ds2)
 ·have e:=hide (show eq3 ds ds2 ms ms2 ys ys2 = false by unfold eq3; simp only [h1]; rfl)
  have H1:=hide h1
  clear h1
  go_enter Tryz.func154,Tryz.ntmps154
  go_wp2_with fail
  refine (ans_is (eqD_any D D2 dn dn2 dc dc2 ds ds2 _ HL.out.d HL2.out.d HL.out.dn HL2.out.dn (by have:=HL.out.dl; omega) (by have:=HL2.out.dl; omega)) H1.out).mono ?_
  rintro e w1 ⟨rfl,hb1⟩
  replace HBX:=hide (andthen HBX.out hb1)
  clear hb1 s1 s2 t1 t2
  go_wp2_with fail
  go_ret
  exact ⟨ret_bool (by rw [e.out]),HBX.out⟩
 ·cases h2 : decide (ms = ms2)
  ·have e:=hide (show eq3 ds ds2 ms ms2 ys ys2 = false by unfold eq3; simp only [h1,h2]; rfl)
   have H1:=hide h1
   have H2:=hide h2
   clear h1 h2
   go_enter Tryz.func154,Tryz.ntmps154
   go_wp2_with fail
   refine (ans_is (eqD_any D D2 dn dn2 dc dc2 ds ds2 _ HL.out.d HL2.out.d HL.out.dn HL2.out.dn (by have:=HL.out.dl; omega) (by have:=HL2.out.dl; omega)) H1.out).mono ?_
   rintro e w1 ⟨rfl,hb1⟩
   replace HBX:=hide (andthen HBX.out hb1)
   replace HL:=hide (HL.out.keep hb1)
   replace HL2:=hide (HL2.out.keep hb1)
   replace s1:=cell_keep hb1 s1
   replace s2:=cell_keep hb1 s2
   replace t1:=cell_keep hb1 t1
   replace t2:=cell_keep hb1 t2
   clear hb1
   go_wp2_with fail
   refine (ans_is (eqI_any M M2 mn mn2 mc mc2 ms ms2 _ HL.out.m HL2.out.m HL.out.mn HL2.out.mn (by have:=HL.out.ml; omega) (by have:=HL2.out.ml; omega)) H2.out).mono ?_
   rintro e w1 ⟨rfl,hb1⟩
   replace HBX:=hide (andthen HBX.out hb1)
   clear hb1 s1 s2 t1 t2
   go_wp2_with fail
   go_ret
   exact ⟨ret_bool (by rw [e.out]),HBX.out⟩
  ·have e:=hide (show eq3 ds ds2 ms ms2 ys ys2 = decide (ys = ys2) by unfold eq3; simp only [h1,h2]; rfl)
   have H1:=hide h1
   have H2:=hide h2
   clear h1 h2
   go_enter Tryz.func154,Tryz.ntmps154
   go_wp2_with fail
   refine (ans_is (eqD_any D D2 dn dn2 dc dc2 ds ds2 _ HL.out.d HL2.out.d HL.out.dn HL2.out.dn (by have:=HL.out.dl; omega) (by have:=HL2.out.dl; omega)) H1.out).mono ?_
   rintro e w1 ⟨rfl,hb1⟩
   replace HBX:=hide (andthen HBX.out hb1)
   replace HL:=hide (HL.out.keep hb1)
   replace HL2:=hide (HL2.out.keep hb1)
   replace s1:=cell_keep hb1 s1
   replace s2:=cell_keep hb1 s2
   replace t1:=cell_keep hb1 t1
   replace t2:=cell_keep hb1 t2
   clear hb1
   go_wp2_with fail
   refine (ans_is (eqI_any M M2 mn mn2 mc mc2 ms ms2 _ HL.out.m HL2.out.m HL.out.mn HL2.out.mn (by have:=HL.out.ml; omega) (by have:=HL2.out.ml; omega)) H2.out).mono ?_
   rintro e w1 ⟨rfl,hb1⟩
   replace HBX:=hide (andthen HBX.out hb1)
   replace HL:=hide (HL.out.keep hb1)
   replace HL2:=hide (HL2.out.keep hb1)
   replace s1:=cell_keep hb1 s1
   replace s2:=cell_keep hb1 s2
   replace t1:=cell_keep hb1 t1
   replace t2:=cell_keep hb1 t2
   clear hb1
   go_wp2_with fail
   refine (eqI_any Y Y2 yn yn2 yc yc2 ys ys2 _ HL.out.y HL2.out.y HL.out.yn HL2.out.yn (by have:=HL.out.yl; omega) (by have:=HL2.out.yl; omega)).mono ?_
   rintro e w1 ⟨rfl,hb1⟩
   replace HBX:=hide (andthen HBX.out hb1)
   clear hb1 s1 s2 t1 t2
   go_wp2_with fail
   go_ret
   exact ⟨ret_bool (by rw [e.out]),HBX.out⟩
theorem recB_is (fr ev ct un : Int) (ds : List Wd) (ms ys : List Int) : recB ⟨fr,ev,ct,un,ds,ms,ys⟩ = (rngB fr ev ct un && (welB ds ms ys && sutB fr ds ms ys)):=rfl
theorem recurs_any (fr ev ct un : Int) (D M Y : Option Addr) (dn dc mn mc yn yc : Nat) (ds : List Wd) (ms ys : List Int) (w : World) (h : Lies w D dn M mn Y yn ds ms ys) :
  Calls Tryz.prog 106 #[.agg #[.int .i64 fr,.int .i64 ev,.int .i64 ct,.int .i64 un,.slice D dn dc,.slice M mn mc,.slice Y yn yc]] w (Ans w (.bool (recB ⟨fr,ev,ct,un,ds,ms,ys⟩))):=by
 have HBX:=hide (more (start w) (.cells #[.int .i64 fr,.int .i64 ev,.int .i64 ct,.int .i64 un,.slice D dn dc,.slice M mn mc,.slice Y yn yc] 130))
 have hAC : ∀ i v,(#[.int .i64 fr,.int .i64 ev,.int .i64 ct,.int .i64 un,.slice D dn dc,.slice M mn mc,.slice Y yn yc] : Array Value)[i]? = some v -> (w.alloc (.cells #[.int .i64 fr,.int .i64 ev,.int .i64 ct,.int .i64 un,.slice D dn dc,.slice M mn mc,.slice Y yn yc] 130)).cell? ⟨w.heap.size,i,none⟩ = some v:=fun i v h => by rw [World.cell?_alloc_at _ _ _ _ rfl]; exact h
 have s0:=hAC 0 _ rfl
 have s1:=hAC 1 _ rfl
 have s2:=hAC 2 _ rfl
 have s3:=hAC 3 _ rfl
 have s4:=hAC 4 _ rfl
 have s5:=hAC 5 _ rfl
 have s6:=hAC 6 _ rfl
 clear hAC
 have HL:=hide (h.keep HBX.out)
 clear h
 cases h1 : rngB fr ev ct un
 ·have e:=hide (show recB ⟨fr,ev,ct,un,ds,ms,ys⟩ = false by rw [recB_is]; simp only [h1]; rfl)
  have H1:=hide h1
  clear h1
  go_enter Tryz.func106,Tryz.ntmps106
  go_wp2_with fail
  refine (ans_is (inRange_any fr ev ct un _) H1.out).mono ?_
  rintro e w1 ⟨rfl,hb1⟩
  replace HBX:=hide (andthen HBX.out hb1)
  clear hb1 s0 s1 s2 s3 s4 s5 s6
  go_wp2_with fail
  go_ret
  exact ⟨ret_bool (by rw [e.out]),HBX.out⟩
 ·cases h2 : welB ds ms ys
  ·have e:=hide (show recB ⟨fr,ev,ct,un,ds,ms,ys⟩ = false by rw [recB_is]; simp only [h1,h2]; rfl)
   have H1:=hide h1
   have H2:=hide h2
   clear h1 h2
   go_enter Tryz.func106,Tryz.ntmps106
   go_wp2_with fail
   refine (ans_is (inRange_any fr ev ct un _) H1.out).mono ?_
   rintro e w1 ⟨rfl,hb1⟩
   replace HBX:=hide (andthen HBX.out hb1)
   replace HL:=hide (HL.out.keep hb1)
   replace s0:=cell_keep hb1 s0
   replace s1:=cell_keep hb1 s1
   replace s2:=cell_keep hb1 s2
   replace s3:=cell_keep hb1 s3
   replace s4:=cell_keep hb1 s4
   replace s5:=cell_keep hb1 s5
   replace s6:=cell_keep hb1 s6
   clear hb1
   go_wp2_with fail
   refine (ans_is (well_any D M Y dn dc mn mc yn yc ds ms ys _ HL.out) H2.out).mono ?_
   rintro e w1 ⟨rfl,hb1⟩
   replace HBX:=hide (andthen HBX.out hb1)
   clear hb1 s0 s1 s2 s3 s4 s5 s6
   go_wp2_with fail
   go_ret
   exact ⟨ret_bool (by rw [e.out]),HBX.out⟩
  ·have e:=hide (show recB ⟨fr,ev,ct,un,ds,ms,ys⟩ = sutB fr ds ms ys by rw [recB_is]; simp only [h1,h2]; rfl)
   have H1:=hide h1
   have H2:=hide h2
   clear h1 h2
   go_enter Tryz.func106,Tryz.ntmps106
   go_wp2_with fail
   refine (ans_is (inRange_any fr ev ct un _) H1.out).mono ?_
   rintro e w1 ⟨rfl,hb1⟩
   replace HBX:=hide (andthen HBX.out hb1)
   replace HL:=hide (HL.out.keep hb1)
   replace s0:=cell_keep hb1 s0
   replace s1:=cell_keep hb1 s1
   replace s2:=cell_keep hb1 s2
   replace s3:=cell_keep hb1 s3
   replace s4:=cell_keep hb1 s4
   replace s5:=cell_keep hb1 s5
   replace s6:=cell_keep hb1 s6
   clear hb1
   go_wp2_with fail
   refine (ans_is (well_any D M Y dn dc mn mc yn yc ds ms ys _ HL.out) H2.out).mono ?_
   rintro e w1 ⟨rfl,hb1⟩
   replace HBX:=hide (andthen HBX.out hb1)
   replace HL:=hide (HL.out.keep hb1)
   replace s0:=cell_keep hb1 s0
   replace s1:=cell_keep hb1 s1
   replace s2:=cell_keep hb1 s2
   replace s3:=cell_keep hb1 s3
   replace s4:=cell_keep hb1 s4
   replace s5:=cell_keep hb1 s5
   replace s6:=cell_keep hb1 s6
   clear hb1
   go_wp2_with fail
   refine (suited_any fr ev ct un D M Y dn dc mn mc yn yc ds ms ys _ HL.out).mono ?_
   rintro e w1 ⟨rfl,hb1⟩
   replace HBX:=hide (andthen HBX.out hb1)
   clear hb1 s0 s1 s2 s3 s4 s5 s6
   go_wp2_with fail
   go_ret
   exact ⟨ret_bool (by rw [e.out]),HBX.out⟩
theorem sameB_is (fr ev ct un fr2 ev2 ct2 un2 : Int) (ds : List Wd) (ms ys : List Int) (ds2 : List Wd) (ms2 ys2 : List Int) : sameB ⟨fr,ev,ct,un,ds,ms,ys⟩ ⟨fr2,ev2,ct2,un2,ds2,ms2,ys2⟩ = ((fr == fr2) && ((ev == ev2) && ((ct == ct2) && (un == un2))) && eq3 ds ds2 ms ms2 ys ys2):=by
 show (decide (fr = fr2 /\ ev = ev2 /\ ct = ct2 /\ un = un2) && eq3 ds ds2 ms ms2 ys ys2) = _
 congr 1
 rw [Bool.eq_iff_iff]; simp
theorem psame_any (fr ev ct un : Int) (D M Y : Option Addr) (dn dc mn mc yn yc : Nat) (fr2 ev2 ct2 un2 : Int) (D2 M2 Y2 : Option Addr) (dn2 dc2 mn2 mc2 yn2 yc2 : Nat) (ds : List Wd) (ms ys : List Int) (ds2 : List Wd) (ms2 ys2 : List Int) (w : World) (h : Lies w D dn M mn Y yn ds ms ys) (h2 : Lies w D2 dn2 M2 mn2 Y2 yn2 ds2 ms2 ys2) :
  Calls Tryz.prog 126 #[.agg #[.int .i64 fr,.int .i64 ev,.int .i64 ct,.int .i64 un,.slice D dn dc,.slice M mn mc,.slice Y yn yc],.agg #[.int .i64 fr2,.int .i64 ev2,.int .i64 ct2,.int .i64 un2,.slice D2 dn2 dc2,.slice M2 mn2 mc2,.slice Y2 yn2 yc2]] w (Ans w (.bool (sameB ⟨fr,ev,ct,un,ds,ms,ys⟩ ⟨fr2,ev2,ct2,un2,ds2,ms2,ys2⟩))):=by
 have HBX:=hide (more (more (start w) (.cells #[.int .i64 fr,.int .i64 ev,.int .i64 ct,.int .i64 un,.slice D dn dc,.slice M mn mc,.slice Y yn yc] 130)) (.cells #[.int .i64 fr2,.int .i64 ev2,.int .i64 ct2,.int .i64 un2,.slice D2 dn2 dc2,.slice M2 mn2 mc2,.slice Y2 yn2 yc2] 130))
 have HL:=hide (h.keep HBX.out)
 have HL2:=hide (h2.keep HBX.out)
 clear h h2
 cases h1 : (fr == fr2)
 ·have e:=hide (show sameB ⟨fr,ev,ct,un,ds,ms,ys⟩ ⟨fr2,ev2,ct2,un2,ds2,ms2,ys2⟩ = false by rw [sameB_is]; simp only [h1]; rfl)
  clear HL HL2
  go_enter Tryz.func126,Tryz.ntmps126
  go_wp2_with fail
  go_ret
  exact ⟨ret_bool (by rw [e.out]),HBX.out⟩
 ·cases h2 : (ev == ev2)
  ·have e:=hide (show sameB ⟨fr,ev,ct,un,ds,ms,ys⟩ ⟨fr2,ev2,ct2,un2,ds2,ms2,ys2⟩ = false by rw [sameB_is]; simp only [h1,h2]; rfl)
   clear HL HL2
   go_enter Tryz.func126,Tryz.ntmps126
   go_wp2_with fail
   go_ret
   exact ⟨ret_bool (by rw [e.out]),HBX.out⟩
  ·cases h3 : (ct == ct2)
   ·have e:=hide (show sameB ⟨fr,ev,ct,un,ds,ms,ys⟩ ⟨fr2,ev2,ct2,un2,ds2,ms2,ys2⟩ = false by rw [sameB_is]; simp only [h1,h2,h3]; rfl)
    clear HL HL2
    go_enter Tryz.func126,Tryz.ntmps126
    go_wp2_with fail
    go_ret
    exact ⟨ret_bool (by rw [e.out]),HBX.out⟩
   ·cases h4 : (un == un2)
    ·have e:=hide (show sameB ⟨fr,ev,ct,un,ds,ms,ys⟩ ⟨fr2,ev2,ct2,un2,ds2,ms2,ys2⟩ = false by rw [sameB_is]; simp only [h1,h2,h3,h4]; rfl)
     clear HL HL2
     go_enter Tryz.func126,Tryz.ntmps126
     go_wp2_with fail
     go_ret
     exact ⟨ret_bool (by rw [e.out]),HBX.out⟩
    ·have e:=hide (show sameB ⟨fr,ev,ct,un,ds,ms,ys⟩ ⟨fr2,ev2,ct2,un2,ds2,ms2,ys2⟩ = eq3 ds ds2 ms ms2 ys ys2 by rw [sameB_is]; simp only [h1,h2,h3,h4]; rfl)
     go_enter Tryz.func126,Tryz.ntmps126
     go_wp2_with fail
     refine (equal_any D M Y D2 M2 Y2 dn dc mn mc yn yc dn2 dc2 mn2 mc2 yn2 yc2 ds ms ys ds2 ms2 ys2 _ HL.out HL2.out).mono ?_
     rintro e w1 ⟨rfl,hb1⟩
     replace HBX:=hide (andthen HBX.out hb1)
     clear hb1
     go_wp2_with fail
     go_ret
     exact ⟨ret_bool (by rw [e.out]),HBX.out⟩
theorem same_any (fr ev ct un : Int) (D M Y : Option Addr) (dn dc mn mc yn yc : Nat) (fr2 ev2 ct2 un2 : Int) (D2 M2 Y2 : Option Addr) (dn2 dc2 mn2 mc2 yn2 yc2 : Nat) (ds : List Wd) (ms ys : List Int) (ds2 : List Wd) (ms2 ys2 : List Int) (w : World) (h : Lies w D dn M mn Y yn ds ms ys) (h2 : Lies w D2 dn2 M2 mn2 Y2 yn2 ds2 ms2 ys2) :
  Calls Tryz.prog 100 #[.agg #[.int .i64 fr,.int .i64 ev,.int .i64 ct,.int .i64 un,.slice D dn dc,.slice M mn mc,.slice Y yn yc],.agg #[.int .i64 fr2,.int .i64 ev2,.int .i64 ct2,.int .i64 un2,.slice D2 dn2 dc2,.slice M2 mn2 mc2,.slice Y2 yn2 yc2]] w (Ans w (.bool (sameB ⟨fr,ev,ct,un,ds,ms,ys⟩ ⟨fr2,ev2,ct2,un2,ds2,ms2,ys2⟩))):=by
 have HBX:=hide (more (more (start w) (.cells #[.int .i64 fr,.int .i64 ev,.int .i64 ct,.int .i64 un,.slice D dn dc,.slice M mn mc,.slice Y yn yc] 39)) (.cells #[.int .i64 fr2,.int .i64 ev2,.int .i64 ct2,.int .i64 un2,.slice D2 dn2 dc2,.slice M2 mn2 mc2,.slice Y2 yn2 yc2] 39))
 have HL:=hide (h.keep HBX.out)
 have HL2:=hide (h2.keep HBX.out)
 have s0 : ((w.alloc (.cells #[.int .i64 fr,.int .i64 ev,.int .i64 ct,.int .i64 un,.slice D dn dc,.slice M mn mc,.slice Y yn yc] 39)).alloc (.cells #[.int .i64 fr2,.int .i64 ev2,.int .i64 ct2,.int .i64 un2,.slice D2 dn2 dc2,.slice M2 mn2 mc2,.slice Y2 yn2 yc2] 39)).cell? ⟨w.heap.size,0,none⟩ = some (.int .i64 fr):=by rw [World.cell?_alloc_past _ _ _ (by simp),World.cell?_alloc_at _ _ _ _ rfl]; rfl
 have s1 : ((w.alloc (.cells #[.int .i64 fr,.int .i64 ev,.int .i64 ct,.int .i64 un,.slice D dn dc,.slice M mn mc,.slice Y yn yc] 39)).alloc (.cells #[.int .i64 fr2,.int .i64 ev2,.int .i64 ct2,.int .i64 un2,.slice D2 dn2 dc2,.slice M2 mn2 mc2,.slice Y2 yn2 yc2] 39)).cell? ⟨w.heap.size,1,none⟩ = some (.int .i64 ev):=by rw [World.cell?_alloc_past _ _ _ (by simp),World.cell?_alloc_at _ _ _ _ rfl]; rfl
 have s2 : ((w.alloc (.cells #[.int .i64 fr,.int .i64 ev,.int .i64 ct,.int .i64 un,.slice D dn dc,.slice M mn mc,.slice Y yn yc] 39)).alloc (.cells #[.int .i64 fr2,.int .i64 ev2,.int .i64 ct2,.int .i64 un2,.slice D2 dn2 dc2,.slice M2 mn2 mc2,.slice Y2 yn2 yc2] 39)).cell? ⟨w.heap.size,2,none⟩ = some (.int .i64 ct):=by rw [World.cell?_alloc_past _ _ _ (by simp),World.cell?_alloc_at _ _ _ _ rfl]; rfl
 have s3 : ((w.alloc (.cells #[.int .i64 fr,.int .i64 ev,.int .i64 ct,.int .i64 un,.slice D dn dc,.slice M mn mc,.slice Y yn yc] 39)).alloc (.cells #[.int .i64 fr2,.int .i64 ev2,.int .i64 ct2,.int .i64 un2,.slice D2 dn2 dc2,.slice M2 mn2 mc2,.slice Y2 yn2 yc2] 39)).cell? ⟨w.heap.size,3,none⟩ = some (.int .i64 un):=by rw [World.cell?_alloc_past _ _ _ (by simp),World.cell?_alloc_at _ _ _ _ rfl]; rfl
 have s4 : ((w.alloc (.cells #[.int .i64 fr,.int .i64 ev,.int .i64 ct,.int .i64 un,.slice D dn dc,.slice M mn mc,.slice Y yn yc] 39)).alloc (.cells #[.int .i64 fr2,.int .i64 ev2,.int .i64 ct2,.int .i64 un2,.slice D2 dn2 dc2,.slice M2 mn2 mc2,.slice Y2 yn2 yc2] 39)).cell? ⟨w.heap.size,4,none⟩ = some (.slice D dn dc):=by rw [World.cell?_alloc_past _ _ _ (by simp),World.cell?_alloc_at _ _ _ _ rfl]; rfl
 have s5 : ((w.alloc (.cells #[.int .i64 fr,.int .i64 ev,.int .i64 ct,.int .i64 un,.slice D dn dc,.slice M mn mc,.slice Y yn yc] 39)).alloc (.cells #[.int .i64 fr2,.int .i64 ev2,.int .i64 ct2,.int .i64 un2,.slice D2 dn2 dc2,.slice M2 mn2 mc2,.slice Y2 yn2 yc2] 39)).cell? ⟨w.heap.size,5,none⟩ = some (.slice M mn mc):=by rw [World.cell?_alloc_past _ _ _ (by simp),World.cell?_alloc_at _ _ _ _ rfl]; rfl
 have s6 : ((w.alloc (.cells #[.int .i64 fr,.int .i64 ev,.int .i64 ct,.int .i64 un,.slice D dn dc,.slice M mn mc,.slice Y yn yc] 39)).alloc (.cells #[.int .i64 fr2,.int .i64 ev2,.int .i64 ct2,.int .i64 un2,.slice D2 dn2 dc2,.slice M2 mn2 mc2,.slice Y2 yn2 yc2] 39)).cell? ⟨w.heap.size,6,none⟩ = some (.slice Y yn yc):=by rw [World.cell?_alloc_past _ _ _ (by simp),World.cell?_alloc_at _ _ _ _ rfl]; rfl
 have t0 : ((w.alloc (.cells #[.int .i64 fr,.int .i64 ev,.int .i64 ct,.int .i64 un,.slice D dn dc,.slice M mn mc,.slice Y yn yc] 39)).alloc (.cells #[.int .i64 fr2,.int .i64 ev2,.int .i64 ct2,.int .i64 un2,.slice D2 dn2 dc2,.slice M2 mn2 mc2,.slice Y2 yn2 yc2] 39)).cell? ⟨w.heap.size + 1,0,none⟩ = some (.int .i64 fr2):=by rw [World.cell?_alloc_at _ _ _ _ (by simp)]; rfl
 have t1 : ((w.alloc (.cells #[.int .i64 fr,.int .i64 ev,.int .i64 ct,.int .i64 un,.slice D dn dc,.slice M mn mc,.slice Y yn yc] 39)).alloc (.cells #[.int .i64 fr2,.int .i64 ev2,.int .i64 ct2,.int .i64 un2,.slice D2 dn2 dc2,.slice M2 mn2 mc2,.slice Y2 yn2 yc2] 39)).cell? ⟨w.heap.size + 1,1,none⟩ = some (.int .i64 ev2):=by rw [World.cell?_alloc_at _ _ _ _ (by simp)]; rfl
 have t2 : ((w.alloc (.cells #[.int .i64 fr,.int .i64 ev,.int .i64 ct,.int .i64 un,.slice D dn dc,.slice M mn mc,.slice Y yn yc] 39)).alloc (.cells #[.int .i64 fr2,.int .i64 ev2,.int .i64 ct2,.int .i64 un2,.slice D2 dn2 dc2,.slice M2 mn2 mc2,.slice Y2 yn2 yc2] 39)).cell? ⟨w.heap.size + 1,2,none⟩ = some (.int .i64 ct2):=by rw [World.cell?_alloc_at _ _ _ _ (by simp)]; rfl
 have t3 : ((w.alloc (.cells #[.int .i64 fr,.int .i64 ev,.int .i64 ct,.int .i64 un,.slice D dn dc,.slice M mn mc,.slice Y yn yc] 39)).alloc (.cells #[.int .i64 fr2,.int .i64 ev2,.int .i64 ct2,.int .i64 un2,.slice D2 dn2 dc2,.slice M2 mn2 mc2,.slice Y2 yn2 yc2] 39)).cell? ⟨w.heap.size + 1,3,none⟩ = some (.int .i64 un2):=by rw [World.cell?_alloc_at _ _ _ _ (by simp)]; rfl
 have t4 : ((w.alloc (.cells #[.int .i64 fr,.int .i64 ev,.int .i64 ct,.int .i64 un,.slice D dn dc,.slice M mn mc,.slice Y yn yc] 39)).alloc (.cells #[.int .i64 fr2,.int .i64 ev2,.int .i64 ct2,.int .i64 un2,.slice D2 dn2 dc2,.slice M2 mn2 mc2,.slice Y2 yn2 yc2] 39)).cell? ⟨w.heap.size + 1,4,none⟩ = some (.slice D2 dn2 dc2):=by rw [World.cell?_alloc_at _ _ _ _ (by simp)]; rfl
 have t5 : ((w.alloc (.cells #[.int .i64 fr,.int .i64 ev,.int .i64 ct,.int .i64 un,.slice D dn dc,.slice M mn mc,.slice Y yn yc] 39)).alloc (.cells #[.int .i64 fr2,.int .i64 ev2,.int .i64 ct2,.int .i64 un2,.slice D2 dn2 dc2,.slice M2 mn2 mc2,.slice Y2 yn2 yc2] 39)).cell? ⟨w.heap.size + 1,5,none⟩ = some (.slice M2 mn2 mc2):=by rw [World.cell?_alloc_at _ _ _ _ (by simp)]; rfl
 have t6 : ((w.alloc (.cells #[.int .i64 fr,.int .i64 ev,.int .i64 ct,.int .i64 un,.slice D dn dc,.slice M mn mc,.slice Y yn yc] 39)).alloc (.cells #[.int .i64 fr2,.int .i64 ev2,.int .i64 ct2,.int .i64 un2,.slice D2 dn2 dc2,.slice M2 mn2 mc2,.slice Y2 yn2 yc2] 39)).cell? ⟨w.heap.size + 1,6,none⟩ = some (.slice Y2 yn2 yc2):=by rw [World.cell?_alloc_at _ _ _ _ (by simp)]; rfl
 clear h h2
 go_enter Tryz.func100,Tryz.ntmps100
 go_wp2_with fail
 generalize ((w.alloc (.cells #[.int .i64 fr,.int .i64 ev,.int .i64 ct,.int .i64 un,.slice D dn dc,.slice M mn mc,.slice Y yn yc] 39)).alloc (.cells #[.int .i64 fr2,.int .i64 ev2,.int .i64 ct2,.int .i64 un2,.slice D2 dn2 dc2,.slice M2 mn2 mc2,.slice Y2 yn2 yc2] 39)) = W at *
 have fs0:=fun d os => cell_regrown s0 d os
 have fs1:=fun d os => cell_regrown s1 d os
 have fs2:=fun d os => cell_regrown s2 d os
 have fs3:=fun d os => cell_regrown s3 d os
 have fs4:=fun d os => cell_regrown s4 d os
 have fs5:=fun d os => cell_regrown s5 d os
 have fs6:=fun d os => cell_regrown s6 d os
 have ft0:=fun d os => cell_regrown t0 d os
 have ft1:=fun d os => cell_regrown t1 d os
 have ft2:=fun d os => cell_regrown t2 d os
 have ft3:=fun d os => cell_regrown t3 d os
 have ft4:=fun d os => cell_regrown t4 d os
 have ft5:=fun d os => cell_regrown t5 d os
 have ft6:=fun d os => cell_regrown t6 d os
 have L1:=fun d os => Lies.keep HL.out (below_regrown W d os)
 have L2:=fun d os => Lies.keep HL2.out (below_regrown W d os)
 replace L1:=hide L1
 replace L2:=hide L2
 clear HL HL2 s0 s1 s2 s3 s4 s5 s6 t0 t1 t2 t3 t4 t5 t6
 refine wp_region_quiet_below (by kernel_rfl) (by kernel_rfl) ?_
 repeat (first | go_big_quiet_step ((first | (go_at_call 105; exact Calls.regrown_of (partsOf_any _ _ _ _ _ _ _ _ _ _ _ _ _ _)) | (go_at_call 126; exact Calls.regrown_of (psame_any fr ev ct un D M Y dn dc mn mc yn yc fr2 ev2 ct2 un2 D2 M2 Y2 dn2 dc2 mn2 mc2 yn2 yc2 ds ms ys ds2 ms2 ys2 _ (L1.out _ _) (L2.out _ _))))) | quiet_step ((first | (go_at_call 105; exact Calls.regrown_of (partsOf_any _ _ _ _ _ _ _ _ _ _ _ _ _ _)) | (go_at_call 126; exact Calls.regrown_of (psame_any fr ev ct un D M Y dn dc mn mc yn yc fr2 ev2 ct2 un2 D2 M2 Y2 dn2 dc2 mn2 mc2 yn2 yc2 ds ms ys ds2 ms2 ys2 _ (L1.out _ _) (L2.out _ _))))))
 refine wpQuiet_nil ?_
 intro _ hw'
 obtain ⟨⟨nq,osq⟩,hw''⟩:=hw'
 subst hw''
 replace HBX:=hide (andthen HBX.out (below_regrown W nq osq))
 go_wp2_with fail
 go_ret
 exact ⟨rfl,HBX.out⟩
theorem ruleIs_any (fr ev ct un : Int) (D M Y : Option Addr) (dn dc mn mc yn yc : Nat) (ds : List Wd) (ms ys : List Int) (w : World) (h : Lies w D dn M mn Y yn ds ms ys) :
  Calls Tryz.prog 83 #[.agg #[.int .i64 fr,.int .i64 ev,.int .i64 ct,.int .i64 un,.slice D dn dc,.slice M mn mc,.slice Y yn yc]] w (Ans w (.bool (isB ⟨fr,ev,ct,un,ds,ms,ys⟩))):=by
 have HBX:=hide (more (start w) (.cells #[.int .i64 fr,.int .i64 ev,.int .i64 ct,.int .i64 un,.slice D dn dc,.slice M mn mc,.slice Y yn yc] 39))
 have HL:=hide (h.keep HBX.out)
 have hAC : ∀ i v,(#[.int .i64 fr,.int .i64 ev,.int .i64 ct,.int .i64 un,.slice D dn dc,.slice M mn mc,.slice Y yn yc] : Array Value)[i]? = some v -> (w.alloc (.cells #[.int .i64 fr,.int .i64 ev,.int .i64 ct,.int .i64 un,.slice D dn dc,.slice M mn mc,.slice Y yn yc] 39)).cell? ⟨w.heap.size,i,none⟩ = some v:=fun i v h => by rw [World.cell?_alloc_at _ _ _ _ rfl]; exact h
 have s0:=hAC 0 _ rfl
 have s1:=hAC 1 _ rfl
 have s2:=hAC 2 _ rfl
 have s3:=hAC 3 _ rfl
 have s4:=hAC 4 _ rfl
 have s5:=hAC 5 _ rfl
 have s6:=hAC 6 _ rfl
 clear hAC
 clear h
 cases hs : sameB ⟨fr,ev,ct,un,ds,ms,ys⟩ ⟨0,0,0,-1,[],[],[]⟩
 ·have e:=hide (show isB ⟨fr,ev,ct,un,ds,ms,ys⟩ = recB ⟨fr,ev,ct,un,ds,ms,ys⟩ by unfold isB; rw [show sameB ⟨fr,ev,ct,un,ds,ms,ys⟩ once = false from hs]; rfl)
  have HS:=hide hs
  clear hs
  go_enter Tryz.func83,Tryz.ntmps83
  go_wp2_with fail
  generalize (w.alloc (.cells #[.int .i64 fr,.int .i64 ev,.int .i64 ct,.int .i64 un,.slice D dn dc,.slice M mn mc,.slice Y yn yc] 39)) = W at *
  have fs0:=fun d os => cell_regrown s0 d os
  have fs1:=fun d os => cell_regrown s1 d os
  have fs2:=fun d os => cell_regrown s2 d os
  have fs3:=fun d os => cell_regrown s3 d os
  have fs4:=fun d os => cell_regrown s4 d os
  have fs5:=fun d os => cell_regrown s5 d os
  have fs6:=fun d os => cell_regrown s6 d os
  have L1:=hide (fun d os => Lies.keep HL.out (below_regrown W d os))
  clear HL s0 s1 s2 s3 s4 s5 s6
  refine wp_region_quiet_below (by kernel_rfl) (by kernel_rfl) ?_
  repeat (first | go_big_quiet_step ((first | (go_at_call 101; exact Calls.regrown_of (once_any _)) | (go_at_call 100; exact Calls.regrown_of (ans_is (same_any fr ev ct un D M Y dn dc mn mc yn yc 0 0 0 (-1) none none none 0 0 0 0 0 0 ds ms ys [] [] [] _ (L1.out _ _) (lies_once _)) HS.out)) | (go_at_call 105; exact Calls.regrown_of (partsOf_any _ _ _ _ _ _ _ _ _ _ _ _ _ _)) | (go_at_call 106; exact Calls.regrown_of (recurs_any fr ev ct un D M Y dn dc mn mc yn yc ds ms ys _ (L1.out _ _))))) | quiet_step ((first | (go_at_call 101; exact Calls.regrown_of (once_any _)) | (go_at_call 100; exact Calls.regrown_of (ans_is (same_any fr ev ct un D M Y dn dc mn mc yn yc 0 0 0 (-1) none none none 0 0 0 0 0 0 ds ms ys [] [] [] _ (L1.out _ _) (lies_once _)) HS.out)) | (go_at_call 105; exact Calls.regrown_of (partsOf_any _ _ _ _ _ _ _ _ _ _ _ _ _ _)) | (go_at_call 106; exact Calls.regrown_of (recurs_any fr ev ct un D M Y dn dc mn mc yn yc ds ms ys _ (L1.out _ _))))))
  refine wpQuiet_nil ?_
  intro _ hw'
  obtain ⟨⟨nq,osq⟩,hw''⟩:=hw'
  subst hw''
  replace HBX:=hide (andthen HBX.out (below_regrown W nq osq))
  go_wp2_with fail
  go_ret
  exact ⟨ret_bool (by rw [e.out]),HBX.out⟩
 ·have e:=hide (show isB ⟨fr,ev,ct,un,ds,ms,ys⟩ = true by unfold isB; rw [show sameB ⟨fr,ev,ct,un,ds,ms,ys⟩ once = true from hs]; rfl)
  have HS:=hide hs
  clear hs
  go_enter Tryz.func83,Tryz.ntmps83
  go_wp2_with fail
  generalize (w.alloc (.cells #[.int .i64 fr,.int .i64 ev,.int .i64 ct,.int .i64 un,.slice D dn dc,.slice M mn mc,.slice Y yn yc] 39)) = W at *
  have fs0:=fun d os => cell_regrown s0 d os
  have fs1:=fun d os => cell_regrown s1 d os
  have fs2:=fun d os => cell_regrown s2 d os
  have fs3:=fun d os => cell_regrown s3 d os
  have fs4:=fun d os => cell_regrown s4 d os
  have fs5:=fun d os => cell_regrown s5 d os
  have fs6:=fun d os => cell_regrown s6 d os
  have L1:=hide (fun d os => Lies.keep HL.out (below_regrown W d os))
  clear HL s0 s1 s2 s3 s4 s5 s6
  refine wp_region_quiet_below (by kernel_rfl) (by kernel_rfl) ?_
  repeat (first | go_big_quiet_step ((first | (go_at_call 101; exact Calls.regrown_of (once_any _)) | (go_at_call 100; exact Calls.regrown_of (ans_is (same_any fr ev ct un D M Y dn dc mn mc yn yc 0 0 0 (-1) none none none 0 0 0 0 0 0 ds ms ys [] [] [] _ (L1.out _ _) (lies_once _)) HS.out)))) | quiet_step ((first | (go_at_call 101; exact Calls.regrown_of (once_any _)) | (go_at_call 100; exact Calls.regrown_of (ans_is (same_any fr ev ct un D M Y dn dc mn mc yn yc 0 0 0 (-1) none none none 0 0 0 0 0 0 ds ms ys [] [] [] _ (L1.out _ _) (lies_once _)) HS.out)))))
  refine wpQuiet_nil ?_
  intro _ hw'
  obtain ⟨⟨nq,osq⟩,hw''⟩:=hw'
  subst hw''
  replace HBX:=hide (andthen HBX.out (below_regrown W nq osq))
  go_wp2_with fail
  go_ret
  exact ⟨ret_bool (by rw [e.out]),HBX.out⟩
end Go.Proofs.YtgihekokbgggcaaGreat

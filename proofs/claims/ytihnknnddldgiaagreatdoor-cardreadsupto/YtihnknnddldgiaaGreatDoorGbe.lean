/- Lemmas. -/
import Derived.Test.YtihnknnddldgiaaGreatDoorGbd
import Derived.Test.YtihnknnddldgiaaGreatDoorGba
import Derived.Test.YtihnknnddldgiaaGreatDoorGaz
import Derived.Test.YtihnknnddldgiaaGreatDoorGak
import Derived.Test.YtihnknnddldgiaaGreatDoorGaj
import Derived.Test.YtihnknnddldgiaaGreatDoorGai
import Derived.Test.YtihnknnddldgiaaGreatDoorGar
import Derived.Test.YtihnknnddldgiaaGreatDoorRows
import Derived.Test.YtihnknnddldgiaaGreatDoorTie
import Derived.Test.YtihnknnddldgiaaGreatDoorCards
import Derived.ProofKit
import Derived.LaidMore
import Derived.OpenShut
import Derived.Stop.Joined
import Derived.Lib.SmallJoins
import Derived.SevenTiedAt
import Derived.Stop.LaidErr
import Derived.Lib.LaidTab
import Derived.ShutString
import Derived.Lay
namespace Go.Proofs.YtihnknnddldgiaaGreatDoor
open Go.RowKit
namespace Q
structure Lay (w:World):Prop where
 lett:Lett w
 err:ErrV w
 tab:Tab w
theorem Lay.kept {w w':World} (h:Lay w) (k:Kept w w'):Lay w':=⟨h.lett.kept k,h.err.kept k,h.tab.kept k⟩
def isdI (z:Int):Bool:=decide (48<=z/\z<=57)
theorem isdI_yes {z:Int} (h1:48<=z) (h2:z<=57):isdI z = true:=decide_eq_true ⟨h1,h2⟩
theorem isdI_no {c:UInt8} (h:¬ (48<=c.toNat/\c.toNat<=57)):isdI (c.toNat:Int) = false:=decide_eq_false (by omega)
set_option maxHeartbeats 2000000 in
theorem isDigit_any (z:Int) (w:World):Calls Tryz.prog 49 #[.int .u8 z] w fun e w' => Kept w w'/\e = .returned (.bool (isdI z)):=by
 go_enter Tryz.func49,Tryz.ntmps49
 go_wp2
 all_goals
  go_ret
  refine ⟨Kept.refl w,congrArg (fun b => Ending.returned (Value.bool b)) ?_⟩
  unfold isdI
  simp_all
  try omega
theorem part_none' (s:ByteArray) (f:Nat):(s.data.toList.take f).drop f = []:=by
 apply List.drop_eq_nil_of_le; rw [List.length_take]; omega
theorem part_succ' (s:ByteArray) (f i:Nat) (hf:f<=i) (hi:i < s.size):(s.data.toList.take (i + 1)).drop f = (s.data.toList.take i).drop f ++ [s[i]]:=by
 have hl:s.data.toList.length = s.size:=by rw [Array.length_toList]; rfl
 rw [List.take_succ_eq_append_getElem (by rw [hl]; exact hi),List.drop_append_of_le_length (by rw [List.length_take,hl]; omega)]
 rfl
theorem mem_drop' (s:ByteArray) (f i:Nat) (hf:f<=i) (hi:i < s.size):s[i] ∈ s.data.toList.drop f:=by
 have hl:s.data.toList.length = s.size:=by rw [Array.length_toList]; rfl
 rw [List.mem_iff_getElem?]
 refine ⟨i - f,?_⟩
 rw [List.getElem?_drop,show f + (i - f) = i by omega,list_at s i hi]
theorem hd_at (s:ByteArray) (c:UInt8) (h:0 < s.size):hd c s.data.toList = decide (s[0].toNat = c.toNat):=by
 unfold hd
 rw [List.head?_eq_getElem?,list_at s 0 h]
 by_cases e:s[0] = c
 ·
  simp [e]
 ·
  have:¬ s[0].toNat = c.toNat:=fun h => e (UInt8.toNat_inj.1 h)
  simp [e,this]
theorem hd_drop (s:ByteArray) (c:UInt8) (h:1 < s.size):hd c (s.data.toList.drop 1) = decide (s[1].toNat = c.toNat):=by
 unfold hd
 rw [List.head?_drop,list_at s 1 h]
 by_cases e:s[1] = c
 ·
  simp [e]
 ·
  have:¬ s[1].toNat = c.toNat:=fun h => e (UInt8.toNat_inj.1 h)
  simp [e,this]
theorem idxC (k:Nat) (h:k < 10):∃ nm,names[k]? = some (nm,3 * (k:Int) - 15)/\(#[.string ⟨#[102]⟩,.string ⟨#[112]⟩,.string ⟨#[110]⟩,.string ⟨#[117]⟩,.string ⟨#[109]⟩,.string ⟨#[]⟩,.string ⟨#[107]⟩,.string ⟨#[109,101,103]⟩,.string ⟨#[103]⟩,.string ⟨#[116]⟩]:Array Value)[k]? = some (.string ⟨nm.toArray⟩):=by
 match k,h with
 | 0,_ => exact ⟨_,rfl,rfl⟩
 | 1,_ => exact ⟨_,rfl,rfl⟩
 | 2,_ => exact ⟨_,rfl,rfl⟩
 | 3,_ => exact ⟨_,rfl,rfl⟩
 | 4,_ => exact ⟨_,rfl,rfl⟩
 | 5,_ => exact ⟨_,rfl,rfl⟩
 | 6,_ => exact ⟨_,rfl,rfl⟩
 | 7,_ => exact ⟨_,rfl,rfl⟩
 | 8,_ => exact ⟨_,rfl,rfl⟩
 | 9,_ => exact ⟨_,rfl,rfl⟩
set_option maxRecDepth 100000 in
set_option maxHeartbeats 16000000 in
theorem tail_any (s:ByteArray) (w:World) (hs:s.size<=32) :
  Calls Tryz.prog 52 #[.string s] w fun e w' => Kept w w'/\PowIs e (powOf s.data.toList):=by
 go_enter Tryz.func52,Tryz.ntmps52
 go_upto_region 2 with fail
 have hK:=(Kept.refl w).alloc (.cells #[.string ⟨#[102]⟩,.string ⟨#[112]⟩,.string ⟨#[110]⟩,.string ⟨#[117]⟩,.string ⟨#[109]⟩,.string ⟨#[]⟩,.string ⟨#[107]⟩,.string ⟨#[109,101,103]⟩,.string ⟨#[103]⟩,.string ⟨#[116]⟩] 9)
 have hC:∀ k,(w.alloc (.cells #[.string ⟨#[102]⟩,.string ⟨#[112]⟩,.string ⟨#[110]⟩,.string ⟨#[117]⟩,.string ⟨#[109]⟩,.string ⟨#[]⟩,.string ⟨#[107]⟩,.string ⟨#[109,101,103]⟩,.string ⟨#[103]⟩,.string ⟨#[116]⟩] 9)).cell? ⟨w.heap.size,k,none⟩ = (#[.string ⟨#[102]⟩,.string ⟨#[112]⟩,.string ⟨#[110]⟩,.string ⟨#[117]⟩,.string ⟨#[109]⟩,.string ⟨#[]⟩,.string ⟨#[107]⟩,.string ⟨#[109,101,103]⟩,.string ⟨#[103]⟩,.string ⟨#[116]⟩]:Array Value)[k]?:=fun k => World.cell?_alloc_at _ _ _ _ rfl
 generalize w.alloc (.cells #[.string ⟨#[102]⟩,.string ⟨#[112]⟩,.string ⟨#[110]⟩,.string ⟨#[117]⟩,.string ⟨#[109]⟩,.string ⟨#[]⟩,.string ⟨#[107]⟩,.string ⟨#[109,101,103]⟩,.string ⟨#[103]⟩,.string ⟨#[116]⟩] 9) = W at hK hC ⊢
 obtain ⟨p4,hp4⟩:∃ p,p = w.heap.size:=⟨_,rfl⟩
 rw [<- hp4] at hC ⊢
 have HK0:=hid' hK
 have HC:=hid' hC
 clear hp4 hK hC
 go_wp2_with fail
 go_loopw [5] (fun vi wr => ∃ k:Nat,k<=10/\vi = .int .i64 (k:Int)/\Hid (Kept W wr/\∀ p ∈ names.take k,¬ p.1 = s.data.toList)) (fun vi _ => 10 - (intOf vi).toNat)
 case atStart => exact ⟨0,Nat.zero_le _,rfl,Kept.refl _,fun p hp => by simp at hp⟩
 case round =>
  obtain ⟨k,hk,rfl,HI⟩:=hrel
  by_cases hlt:k < 10
  ·
   obtain ⟨nm,hnm,hcv⟩:=idxC k hlt
   have hlt':(k:Int) < 10:=by omega
   have hk0:(0:Int)<=(k:Int):=by omega
   have HN:=hid' hnm
   have hc:=cell_kept HI.out.1 ((HC.out k).trans hcv)
   have hw1:IntKind.i64.wrap (3 * (k:Int)) = 3 * (k:Int):=wrap_i64' (by omega) (by omega)
   have hw2:IntKind.i64.wrap (3 * (k:Int) - 15) = 3 * (k:Int) - 15:=wrap_i64' (by omega) (by omega)
   clear hnm hcv
   by_cases he:nm = s.data.toList
   ·
    have hs':(s.toList == nm) = true:=by rw [Go.ByteArray.toList_eq,he]; simp
    have HE:=hid' he
    clear he
    go_wp2_with fail
    go_ret2
    exact ⟨HK0.out.trans HI.out.1,.inr ⟨_,by unfold powOf; rw [lett_yes HN.out HE.out HI.out.2],rfl,by omega,by omega⟩⟩
   ·
    have hs':(s.toList == nm) = false:=by rw [Go.ByteArray.toList_eq]; simpa using fun h => he h.symm
    have HE:=hid' he
    clear he
    go_wp2_with fail
    go_roundw
    case rel => exact ⟨k + 1,by omega,by go_num,HI.out.1,take_next HN.out HI.out.2 HE.out⟩
    case measure => show 10 - ((k:Int) + 1).toNat < 10 - (k:Int).toNat; omega
  ·
   obtain rfl:k = 10:=by omega
   have hno:=lett_no (L:=s.data.toList) (fun p hp => HI.out.2 p (by simpa [names] using hp))
   have HN:=hid' hno
   have hne:s.data.toList ≠ []:=fun e => by rw [e] at hno; cases hno
   obtain ⟨KW⟩:PLift (Kept W wr):=⟨HI.out.1⟩
   have HK:=hid' (HK0.out.trans KW)
   have hsz:0 < s.size:=by
    rcases Nat.eq_zero_or_pos s.size with h | h
    ·
     exact absurd (List.eq_nil_of_length_eq_zero (by rw [Array.length_toList]; exact h)) hne
    ·
     exact h
   clear hno hne
   have hh:hd 101 s.data.toList = decide (s[0].toNat = 101):=hd_at s 101 hsz
   by_cases h101:s[0].toNat = 101
   ·
    have hb:((s[0].toNat:Int) == 101) = true:=by simp [h101]
    have hh1:hd 101 s.data.toList = true:=by rw [hh]; exact decide_eq_true h101
    have hcutE:cutB 101 s.data.toList = s.data.toList.drop 1:=by unfold cutB; rw [if_pos hh1,List.drop_one]
    clear h101 hh
    by_cases hs1:1 < s.size
    ·
     have hs1':(1:Int) < (s.size:Int):=by omega
     have hd1:hd 45 (s.data.toList.drop 1) = decide (s[1].toNat = 45):=hd_drop s 45 hs1
     have hd2:hd 43 (s.data.toList.drop 1) = decide (s[1].toNat = 43):=hd_drop s 43 hs1
     by_cases h45:s[1].toNat = 45
     ·
      have hm:((s[1].toNat:Int) == 45) = true:=by simp [h45]
      have hp:((s[1].toNat:Int) == 43) = false:=by simp [h45]
      have HE:Hid (behindE s.data.toList = s.data.toList.drop 2/\hd 45 (cutB 101 s.data.toList) = true/\hd 101 s.data.toList = true):=by
       refine ⟨?_,?_,hh1⟩
       ·
        unfold behindE; rw [hcutE,hd1,decide_eq_true h45,if_pos rfl]
        unfold cutB; rw [hd1,decide_eq_true h45,if_pos rfl,List.tail_drop]
       ·
        rw [hcutE,hd1,decide_eq_true h45]
      clear h45 hd1 hd2 hcutE hh1
      have hlen:(s.data.toList.drop 2).length = s.size - 2:=by rw [List.length_drop,Array.length_toList]; rfl
      by_cases hl1:s.size - 2 = 1 ∨ s.size - 2 = 2
      rotate_left
      ·
       have HNO:=hid' (pow_no HN.out (fun hh => hl1 (by
        have e1:=congrArg List.length (dgs_rst (behindE s.data.toList))
        rw [hh.2.1,List.append_nil,HE.out.1,hlen] at e1
        have e2:=hh.2.2.1; have e3:=hh.2.2.2
        rw [HE.out.1] at e2 e3
        omega)))
       have hc1:(s.size:Int) - 2 < 1 ∨ 2 < (s.size:Int) - 2:=by omega
       clear hl1
       rcases hc1 with hc1 | hc1
       ·
        have hw:IntKind.i64.wrap ((s.size:Int) - 2) = (s.size:Int) - 2:=wrap_i64' (by omega) (by omega)
        go_wp2_with fail
        all_goals
         go_ret2
         exact ⟨HK.out,.inl ⟨HNO.out,rfl⟩⟩
       ·
        have hw:IntKind.i64.wrap ((s.size:Int) - 2) = (s.size:Int) - 2:=wrap_i64' (by omega) (by omega)
        go_wp2_with fail
        all_goals
         go_ret2
         exact ⟨HK.out,.inl ⟨HNO.out,rfl⟩⟩
      have hw:IntKind.i64.wrap ((s.size:Int) - 2) = (s.size:Int) - 2:=wrap_i64' (by omega) (by omega)
      have hc1:¬ (s.size:Int) - 2 < 1:=by omega
      have hc2:¬ 2 < (s.size:Int) - 2:=by omega
      go_wp2_with fail
      all_goals first | (exfalso; omega) | skip
      go_loopw [6,8] (fun vi vv wr => ∃ (j v:Nat),2<=j/\j<=s.size/\vi = .int .i64 (j:Int)/\vv = .int .i64 (v:Int)/\v<=99/\Hid (Kept W wr/\Dig ((s.data.toList.take j).drop 2)/\v = dv ((s.data.toList.take j).drop 2))) (fun vi _ _ => s.size - (intOf vi).toNat)
      case atStart => exact ⟨2,0,Nat.le_refl _,by omega,rfl,rfl,by omega,KW,by rw [part_none']; exact fun c hc => by simp at hc,by rw [part_none']; rfl⟩
      case round =>
       obtain ⟨j,v,hj0,hj1,rfl,rfl,hv,HI⟩:=hrel
       by_cases hlt:j < s.size
       ·
        have hji:(j:Int) < (s.size:Int):=by omega
        by_cases hd:48<=s[j].toNat/\s[j].toNat<=57
        ·
         have hd1:(48:Int)<=(s[j].toNat:Int):=by omega
         have hd2:(s[j].toNat:Int)<=57:=by omega
         have hw1:IntKind.u8.wrap ((s[j].toNat:Int) - 48) = (s[j].toNat:Int) - 48:=by rw [IntKind.wrap_u8]; omega
         have hw2:IntKind.i64.wrap ((s[j].toNat:Int) - 48) = (s[j].toNat:Int) - 48:=wrap_i64' (by omega) (by omega)
         have hD':Dig ((s.data.toList.take (j + 1)).drop 2):=by
          rw [part_succ' s 2 j hj0 hlt]
          exact HI.out.2.1.append (fun c hc => by rw [List.mem_singleton] at hc; subst hc; exact hd)
         have hv':dv ((s.data.toList.take (j + 1)).drop 2) = v * 10 + (s[j].toNat - 48):=by rw [part_succ' s 2 j hj0 hlt,dv_snoc,HI.out.2.2]
         have hv9:v * 10 + (s[j].toNat - 48)<=99:=by
          rw [<- hv']
          refine dv_two hD' ?_
          rw [List.length_drop,List.length_take,Array.length_toList]
          have e:s.data.size = s.size:=rfl
          omega
         have HD:=hid' (And.intro hD' hv')
         have hw3:IntKind.i64.wrap (10 * (v:Int)) = 10 * (v:Int):=wrap_i64' (by omega) (by omega)
         have hw4:IntKind.i64.wrap (10 * (v:Int) + ((s[j].toNat:Int) - 48)) = 10 * (v:Int) + ((s[j].toNat:Int) - 48):=wrap_i64' (by omega) (by omega)
         clear hd hD' hv'
         go_wp2_with (first | (go_at_call 49; refine (isDigit_any _ _).mono ?_; rintro e w9 ⟨hk9,rfl⟩; rw [isdI_yes hd1 hd2]))
         go_roundw
         case rel => exact ⟨j + 1,v * 10 + (s[j].toNat - 48),by omega,by omega,by go_num,by congr 1; omega,hv9,HI.out.1.trans hk9,HD.out.1,HD.out.2.symm⟩
         case measure => show s.size - ((j:Int) + 1).toNat < s.size - (j:Int).toNat; omega
        ·
         have HNO:=hid' (pow_no HN.out (fun hh => hd (by
          have e1:=dgs_rst (behindE s.data.toList)
          rw [hh.2.1,List.append_nil,HE.out.1] at e1
          have:=dgs_dig (s.data.toList.drop 2)
          rw [e1] at this
          exact this s[j] (mem_drop' s 2 j hj0 hlt))))
         have hf:=isdI_no hd
         clear hd
         go_wp2_with (first | (go_at_call 49; refine (isDigit_any _ _).mono ?_; rintro e w9 ⟨hk9,rfl⟩; rw [hf]))
         go_ret2
         exact ⟨(HK0.out.trans HI.out.1).trans hk9,.inl ⟨HNO.out,rfl⟩⟩
       ·
        obtain rfl:j = s.size:=by omega
        have hji:¬ ((s.size:Int)) < (s.size:Int):=by omega
        have e0:(s.data.toList.take s.size).drop 2 = behindE s.data.toList:=by rw [List.take_of_length_le (by rw [Array.length_toList]; exact Nat.le_refl _),HE.out.1]
        have hDD:Dig (behindE s.data.toList):=by rw [<- e0]; exact HI.out.2.1
        have hcut:=cut_at (T:=[]) hDD (fun c hc => by simp at hc)
        rw [List.append_nil] at hcut
        have hlen:(s.data.toList.drop 2).length = s.size - 2:=by rw [List.length_drop,Array.length_toList]; rfl
        have HY:=hid' (pow_yes HN.out ⟨HE.out.2.2,hcut.2,by rw [hcut.1,HE.out.1,hlen]; omega,by rw [hcut.1,HE.out.1,hlen]; omega⟩)
        have HV:Hid (v = dv (dgs (behindE s.data.toList))):=by show _ = _; rw [hcut.1,<- e0]; exact HI.out.2.2
        have hw5:IntKind.i64.wrap (-1 * (v:Int)) = -1 * (v:Int):=wrap_i64' (by omega) (by omega)
        clear hDD hcut e0
        go_wp2_with fail
        go_ret2
        refine ⟨HK0.out.trans HI.out.1,.inr ⟨_,HY.out,?_,?_,?_⟩⟩
        ·
         rw [HE.out.2.1,<- HV.out]
         simp
        ·
         rw [HE.out.2.1,<- HV.out]; simp <;> omega
        ·
         rw [HE.out.2.1,<- HV.out]; simp <;> omega
     ·
      have hm:((s[1].toNat:Int) == 45) = false:=by simpa using fun h => h45 (by omega)
      by_cases h43:s[1].toNat = 43
      ·
       have hp:((s[1].toNat:Int) == 43) = true:=by simp [h43]
       have HE:Hid (behindE s.data.toList = s.data.toList.drop 2/\hd 45 (cutB 101 s.data.toList) = false/\hd 101 s.data.toList = true):=by
        refine ⟨?_,?_,hh1⟩
        ·
         unfold behindE; rw [hcutE,hd1,decide_eq_false h45,if_neg (by decide)]
         unfold cutB; rw [hd2,decide_eq_true h43,if_pos rfl,List.tail_drop]
        ·
         rw [hcutE,hd1,decide_eq_false h45]
       clear h45 h43 hd1 hd2 hcutE hh1
       have hlen:(s.data.toList.drop 2).length = s.size - 2:=by rw [List.length_drop,Array.length_toList]; rfl
       by_cases hl1:s.size - 2 = 1 ∨ s.size - 2 = 2
       rotate_left
       ·
        have HNO:=hid' (pow_no HN.out (fun hh => hl1 (by
         have e1:=congrArg List.length (dgs_rst (behindE s.data.toList))
         rw [hh.2.1,List.append_nil,HE.out.1,hlen] at e1
         have e2:=hh.2.2.1; have e3:=hh.2.2.2
         rw [HE.out.1] at e2 e3
         omega)))
        have hc1:(s.size:Int) - 2 < 1 ∨ 2 < (s.size:Int) - 2:=by omega
        clear hl1
        rcases hc1 with hc1 | hc1
        ·
         have hw:IntKind.i64.wrap ((s.size:Int) - 2) = (s.size:Int) - 2:=wrap_i64' (by omega) (by omega)
         go_wp2_with fail
         all_goals
          go_ret2
          exact ⟨HK.out,.inl ⟨HNO.out,rfl⟩⟩
        ·
         have hw:IntKind.i64.wrap ((s.size:Int) - 2) = (s.size:Int) - 2:=wrap_i64' (by omega) (by omega)
         go_wp2_with fail
         all_goals
          go_ret2
          exact ⟨HK.out,.inl ⟨HNO.out,rfl⟩⟩
       have hw:IntKind.i64.wrap ((s.size:Int) - 2) = (s.size:Int) - 2:=wrap_i64' (by omega) (by omega)
       have hc1:¬ (s.size:Int) - 2 < 1:=by omega
       have hc2:¬ 2 < (s.size:Int) - 2:=by omega
       go_wp2_with fail
       all_goals first | (exfalso; omega) | skip
       go_loopw [6,8] (fun vi vv wr => ∃ (j v:Nat),2<=j/\j<=s.size/\vi = .int .i64 (j:Int)/\vv = .int .i64 (v:Int)/\v<=99/\Hid (Kept W wr/\Dig ((s.data.toList.take j).drop 2)/\v = dv ((s.data.toList.take j).drop 2))) (fun vi _ _ => s.size - (intOf vi).toNat)
       case atStart => exact ⟨2,0,Nat.le_refl _,by omega,rfl,rfl,by omega,KW,by rw [part_none']; exact fun c hc => by simp at hc,by rw [part_none']; rfl⟩
       case round =>
        obtain ⟨j,v,hj0,hj1,rfl,rfl,hv,HI⟩:=hrel
        by_cases hlt:j < s.size
        ·
         have hji:(j:Int) < (s.size:Int):=by omega
         by_cases hd:48<=s[j].toNat/\s[j].toNat<=57
         ·
          have hd1:(48:Int)<=(s[j].toNat:Int):=by omega
          have hd2:(s[j].toNat:Int)<=57:=by omega
          have hw1:IntKind.u8.wrap ((s[j].toNat:Int) - 48) = (s[j].toNat:Int) - 48:=by rw [IntKind.wrap_u8]; omega
          have hw2:IntKind.i64.wrap ((s[j].toNat:Int) - 48) = (s[j].toNat:Int) - 48:=wrap_i64' (by omega) (by omega)
          have hD':Dig ((s.data.toList.take (j + 1)).drop 2):=by
           rw [part_succ' s 2 j hj0 hlt]
           exact HI.out.2.1.append (fun c hc => by rw [List.mem_singleton] at hc; subst hc; exact hd)
          have hv':dv ((s.data.toList.take (j + 1)).drop 2) = v * 10 + (s[j].toNat - 48):=by rw [part_succ' s 2 j hj0 hlt,dv_snoc,HI.out.2.2]
          have hv9:v * 10 + (s[j].toNat - 48)<=99:=by
           rw [<- hv']
           refine dv_two hD' ?_
           rw [List.length_drop,List.length_take,Array.length_toList]
           have e:s.data.size = s.size:=rfl
           omega
          have HD:=hid' (And.intro hD' hv')
          have hw3:IntKind.i64.wrap (10 * (v:Int)) = 10 * (v:Int):=wrap_i64' (by omega) (by omega)
          have hw4:IntKind.i64.wrap (10 * (v:Int) + ((s[j].toNat:Int) - 48)) = 10 * (v:Int) + ((s[j].toNat:Int) - 48):=wrap_i64' (by omega) (by omega)
          clear hd hD' hv'
          go_wp2_with (first | (go_at_call 49; refine (isDigit_any _ _).mono ?_; rintro e w9 ⟨hk9,rfl⟩; rw [isdI_yes hd1 hd2]))
          go_roundw
          case rel => exact ⟨j + 1,v * 10 + (s[j].toNat - 48),by omega,by omega,by go_num,by congr 1; omega,hv9,HI.out.1.trans hk9,HD.out.1,HD.out.2.symm⟩
          case measure => show s.size - ((j:Int) + 1).toNat < s.size - (j:Int).toNat; omega
         ·
          have HNO:=hid' (pow_no HN.out (fun hh => hd (by
           have e1:=dgs_rst (behindE s.data.toList)
           rw [hh.2.1,List.append_nil,HE.out.1] at e1
           have:=dgs_dig (s.data.toList.drop 2)
           rw [e1] at this
           exact this s[j] (mem_drop' s 2 j hj0 hlt))))
          have hf:=isdI_no hd
          clear hd
          go_wp2_with (first | (go_at_call 49; refine (isDigit_any _ _).mono ?_; rintro e w9 ⟨hk9,rfl⟩; rw [hf]))
          go_ret2
          exact ⟨(HK0.out.trans HI.out.1).trans hk9,.inl ⟨HNO.out,rfl⟩⟩
        ·
         obtain rfl:j = s.size:=by omega
         have hji:¬ ((s.size:Int)) < (s.size:Int):=by omega
         have e0:(s.data.toList.take s.size).drop 2 = behindE s.data.toList:=by rw [List.take_of_length_le (by rw [Array.length_toList]; exact Nat.le_refl _),HE.out.1]
         have hDD:Dig (behindE s.data.toList):=by rw [<- e0]; exact HI.out.2.1
         have hcut:=cut_at (T:=[]) hDD (fun c hc => by simp at hc)
         rw [List.append_nil] at hcut
         have hlen:(s.data.toList.drop 2).length = s.size - 2:=by rw [List.length_drop,Array.length_toList]; rfl
         have HY:=hid' (pow_yes HN.out ⟨HE.out.2.2,hcut.2,by rw [hcut.1,HE.out.1,hlen]; omega,by rw [hcut.1,HE.out.1,hlen]; omega⟩)
         have HV:Hid (v = dv (dgs (behindE s.data.toList))):=by show _ = _; rw [hcut.1,<- e0]; exact HI.out.2.2
         have hw5:IntKind.i64.wrap (1 * (v:Int)) = 1 * (v:Int):=wrap_i64' (by omega) (by omega)
         clear hDD hcut e0
         go_wp2_with fail
         go_ret2
         refine ⟨HK0.out.trans HI.out.1,.inr ⟨_,HY.out,?_,?_,?_⟩⟩
         ·
          rw [HE.out.2.1,<- HV.out]
          simp
         ·
          rw [HE.out.2.1,<- HV.out]; simp <;> omega
         ·
          rw [HE.out.2.1,<- HV.out]; simp <;> omega
      ·
       have hp:((s[1].toNat:Int) == 43) = false:=by simpa using fun h => h43 (by omega)
       have HE:Hid (behindE s.data.toList = s.data.toList.drop 1/\hd 45 (cutB 101 s.data.toList) = false/\hd 101 s.data.toList = true):=by
        refine ⟨?_,?_,hh1⟩
        ·
         unfold behindE; rw [hcutE,hd1,decide_eq_false h45,if_neg (by decide)]
         unfold cutB; rw [hd2,decide_eq_false h43,if_neg (by decide)]
        ·
         rw [hcutE,hd1,decide_eq_false h45]
       clear h45 h43 hd1 hd2 hcutE hh1
       have hlen:(s.data.toList.drop 1).length = s.size - 1:=by rw [List.length_drop,Array.length_toList]; rfl
       by_cases hl1:s.size - 1 = 1 ∨ s.size - 1 = 2
       rotate_left
       ·
        have HNO:=hid' (pow_no HN.out (fun hh => hl1 (by
         have e1:=congrArg List.length (dgs_rst (behindE s.data.toList))
         rw [hh.2.1,List.append_nil,HE.out.1,hlen] at e1
         have e2:=hh.2.2.1; have e3:=hh.2.2.2
         rw [HE.out.1] at e2 e3
         omega)))
        have hc1:(s.size:Int) - 1 < 1 ∨ 2 < (s.size:Int) - 1:=by omega
        clear hl1
        rcases hc1 with hc1 | hc1
        ·
         have hw:IntKind.i64.wrap ((s.size:Int) - 1) = (s.size:Int) - 1:=wrap_i64' (by omega) (by omega)
         go_wp2_with fail
         all_goals
          go_ret2
          exact ⟨HK.out,.inl ⟨HNO.out,rfl⟩⟩
        ·
         have hw:IntKind.i64.wrap ((s.size:Int) - 1) = (s.size:Int) - 1:=wrap_i64' (by omega) (by omega)
         go_wp2_with fail
         all_goals
          go_ret2
          exact ⟨HK.out,.inl ⟨HNO.out,rfl⟩⟩
       have hw:IntKind.i64.wrap ((s.size:Int) - 1) = (s.size:Int) - 1:=wrap_i64' (by omega) (by omega)
       have hc1:¬ (s.size:Int) - 1 < 1:=by omega
       have hc2:¬ 2 < (s.size:Int) - 1:=by omega
       go_wp2_with fail
       all_goals first | (exfalso; omega) | skip
       go_loopw [6,8] (fun vi vv wr => ∃ (j v:Nat),1<=j/\j<=s.size/\vi = .int .i64 (j:Int)/\vv = .int .i64 (v:Int)/\v<=99/\Hid (Kept W wr/\Dig ((s.data.toList.take j).drop 1)/\v = dv ((s.data.toList.take j).drop 1))) (fun vi _ _ => s.size - (intOf vi).toNat)
       case atStart => exact ⟨1,0,Nat.le_refl _,by omega,rfl,rfl,by omega,KW,by rw [part_none']; exact fun c hc => by simp at hc,by rw [part_none']; rfl⟩
       case round =>
        obtain ⟨j,v,hj0,hj1,rfl,rfl,hv,HI⟩:=hrel
        by_cases hlt:j < s.size
        ·
         have hji:(j:Int) < (s.size:Int):=by omega
         by_cases hd:48<=s[j].toNat/\s[j].toNat<=57
         ·
          have hd1:(48:Int)<=(s[j].toNat:Int):=by omega
          have hd2:(s[j].toNat:Int)<=57:=by omega
          have hw1:IntKind.u8.wrap ((s[j].toNat:Int) - 48) = (s[j].toNat:Int) - 48:=by rw [IntKind.wrap_u8]; omega
          have hw2:IntKind.i64.wrap ((s[j].toNat:Int) - 48) = (s[j].toNat:Int) - 48:=wrap_i64' (by omega) (by omega)
          have hD':Dig ((s.data.toList.take (j + 1)).drop 1):=by
           rw [part_succ' s 1 j hj0 hlt]
           exact HI.out.2.1.append (fun c hc => by rw [List.mem_singleton] at hc; subst hc; exact hd)
          have hv':dv ((s.data.toList.take (j + 1)).drop 1) = v * 10 + (s[j].toNat - 48):=by rw [part_succ' s 1 j hj0 hlt,dv_snoc,HI.out.2.2]
          have hv9:v * 10 + (s[j].toNat - 48)<=99:=by
           rw [<- hv']
           refine dv_two hD' ?_
           rw [List.length_drop,List.length_take,Array.length_toList]
           have e:s.data.size = s.size:=rfl
           omega
          have HD:=hid' (And.intro hD' hv')
          have hw3:IntKind.i64.wrap (10 * (v:Int)) = 10 * (v:Int):=wrap_i64' (by omega) (by omega)
          have hw4:IntKind.i64.wrap (10 * (v:Int) + ((s[j].toNat:Int) - 48)) = 10 * (v:Int) + ((s[j].toNat:Int) - 48):=wrap_i64' (by omega) (by omega)
          clear hd hD' hv'
          go_wp2_with (first | (go_at_call 49; refine (isDigit_any _ _).mono ?_; rintro e w9 ⟨hk9,rfl⟩; rw [isdI_yes hd1 hd2]))
          go_roundw
          case rel => exact ⟨j + 1,v * 10 + (s[j].toNat - 48),by omega,by omega,by go_num,by congr 1; omega,hv9,HI.out.1.trans hk9,HD.out.1,HD.out.2.symm⟩
          case measure => show s.size - ((j:Int) + 1).toNat < s.size - (j:Int).toNat; omega
         ·
          have HNO:=hid' (pow_no HN.out (fun hh => hd (by
           have e1:=dgs_rst (behindE s.data.toList)
           rw [hh.2.1,List.append_nil,HE.out.1] at e1
           have:=dgs_dig (s.data.toList.drop 1)
           rw [e1] at this
           exact this s[j] (mem_drop' s 1 j hj0 hlt))))
          have hf:=isdI_no hd
          clear hd
          go_wp2_with (first | (go_at_call 49; refine (isDigit_any _ _).mono ?_; rintro e w9 ⟨hk9,rfl⟩; rw [hf]))
          go_ret2
          exact ⟨(HK0.out.trans HI.out.1).trans hk9,.inl ⟨HNO.out,rfl⟩⟩
        ·
         obtain rfl:j = s.size:=by omega
         have hji:¬ ((s.size:Int)) < (s.size:Int):=by omega
         have e0:(s.data.toList.take s.size).drop 1 = behindE s.data.toList:=by rw [List.take_of_length_le (by rw [Array.length_toList]; exact Nat.le_refl _),HE.out.1]
         have hDD:Dig (behindE s.data.toList):=by rw [<- e0]; exact HI.out.2.1
         have hcut:=cut_at (T:=[]) hDD (fun c hc => by simp at hc)
         rw [List.append_nil] at hcut
         have hlen:(s.data.toList.drop 1).length = s.size - 1:=by rw [List.length_drop,Array.length_toList]; rfl
         have HY:=hid' (pow_yes HN.out ⟨HE.out.2.2,hcut.2,by rw [hcut.1,HE.out.1,hlen]; omega,by rw [hcut.1,HE.out.1,hlen]; omega⟩)
         have HV:Hid (v = dv (dgs (behindE s.data.toList))):=by show _ = _; rw [hcut.1,<- e0]; exact HI.out.2.2
         have hw5:IntKind.i64.wrap (1 * (v:Int)) = 1 * (v:Int):=wrap_i64' (by omega) (by omega)
         clear hDD hcut e0
         go_wp2_with fail
         go_ret2
         refine ⟨HK0.out.trans HI.out.1,.inr ⟨_,HY.out,?_,?_,?_⟩⟩
         ·
          rw [HE.out.2.1,<- HV.out]
          simp
         ·
          rw [HE.out.2.1,<- HV.out]; simp <;> omega
         ·
          rw [HE.out.2.1,<- HV.out]; simp <;> omega
    ·
     have hs1':¬ (1:Int) < (s.size:Int):=by omega
     have hnil:s.data.toList.drop 1 = []:=List.drop_eq_nil_of_le (by rw [Array.length_toList]; show s.size<=1; omega)
     have hbe:behindE s.data.toList = []:=by unfold behindE; rw [hcutE,hnil]; rfl
     have HNO:=hid' (pow_no HN.out (fun hh => by rw [hbe] at hh; have:=hh.2.2.1; simp [dgs] at this))
     obtain hsz1:s.size = 1:=by omega
     have hi1:(s.size:Int) = 1:=by omega
     clear hbe hnil hcutE hh1
     go_wp2_with fail
     all_goals
      go_ret2
      exact ⟨HK.out,.inl ⟨HNO.out,rfl⟩⟩
   ·
    have hb:((s[0].toNat:Int) == 101) = false:=by simpa using fun h => h101 (by omega)
    have hh1:hd 101 s.data.toList = false:=by rw [hh]; exact decide_eq_false h101
    have HNO:=hid' (pow_no HN.out (fun hh => absurd (hh1.symm.trans hh.1) (by decide)))
    clear h101 hh hh1
    go_wp2_with fail
    go_ret2
    exact ⟨HK.out,.inl ⟨HNO.out,rfl⟩⟩
def part (L:List UInt8) (f i:Nat):List UInt8:=(L.take i).drop f
theorem part_app (L:List UInt8) (f i:Nat) (hf:f<=i):L.drop f = part L f i ++ L.drop i:=by
 unfold part
 have h:=List.take_append_drop i L
 conv => lhs; rw [<- h]
 rcases Nat.lt_or_ge L.length i with hl | hl
 ·
  rw [List.take_of_length_le (by omega),List.drop_eq_nil_of_le (show L.length<=i by omega),List.append_nil,List.append_nil]
 ·
  rw [List.drop_append_of_le_length (by rw [List.length_take]; omega)]
theorem part_len (L:List UInt8) (f i:Nat) (hi:i<=L.length):(part L f i).length = i - f:=by
 unfold part; rw [List.length_drop,List.length_take]; omega
theorem part_self (L:List UInt8) (f:Nat):part L f f = []:=by
 unfold part; apply List.drop_eq_nil_of_le; rw [List.length_take]; omega
theorem part_next (s:ByteArray) (f i:Nat) (hf:f<=i) (hi:i < s.size):part s.data.toList f (i + 1) = part s.data.toList f i ++ [s[i]]:=part_succ' s f i hf hi
def Scan (L:List UInt8) (n:Bool) (i:Nat) (D:List UInt8) (ex:Int):Prop :=
 Dig D/\D ≠ []/\D.length<=32/\(powOf (L.drop i) = none->readOf L = none)/\∀ x,powOf (L.drop i) = some x->readOf L = some (n,D,x + ex)
theorem cut45 {L:List UInt8} {b:Nat} (hb:b = if hd 45 L = true then 1 else 0):cutB 45 L = L.drop b:=by
 unfold cutB
 by_cases h:hd 45 L = true
 ·
  rw [if_pos h] at hb ⊢; subst hb; rw [List.drop_one]
 ·
  rw [if_neg h] at hb ⊢; subst hb; rfl
theorem noDig_head {L:List UInt8} {i:Nat} (h:∀ c,L[i]? = some c->isd c = false):∀ c,(L.drop i).head? = some c->isd c = false:=fun c hc => h c (by rw [<- hc,List.head?_drop])
theorem scan_plain {L:List UInt8} {b i:Nat} (hb:b = if hd 45 L = true then 1 else 0) (hl:L.length<=32) (hi:i<=L.length) (hbi:b < i) (hD:Dig (part L b i)) (h1:∀ c,L[i]? = some c->isd c = false) (h2:hd 46 (L.drop i) = false):Scan L (hd 45 L) i (part L b i) 0:=by
 have e0:=cut45 hb
 have hc:=cut_at hD (noDig_head h1)
 rw [<- part_app L b i (by omega),<- e0] at hc
 have hp:pnt L = false:=by unfold pnt; rw [hc.2,h2]
 have hbe:beh L = []:=by unfold beh; rw [hp]; rfl
 have ht:tl L = L.drop i:=by unfold tl; rw [hp,if_neg (by decide),hc.2,cutB_no h2]
 have hln:=part_len L b i hi
 have hne:part L b i ≠ []:=fun e => by rw [e] at hln; simp at hln; omega
 refine ⟨hD,hne,by omega,fun h => read_no1 (by rw [ht]; exact h),fun x h => ?_⟩
 rw [read_yes hl (by rw [ht]; exact h) (by rw [hc.1,hp]; simp [hne]),hc.1,hbe]
 simp
theorem scan_empty {L:List UInt8} {b:Nat} (hb:b = if hd 45 L = true then 1 else 0) (h1:∀ c,L[b]? = some c->isd c = false):readOf L = none:=by
 have e0:=cut45 hb
 have hc:=cut_at (D:=[]) (T:=L.drop b) (fun c hc => by simp at hc) (noDig_head h1)
 rw [List.nil_append,<- e0] at hc
 exact read_no2 (.inl hc.1)
theorem scan_bare {L:List UInt8} {b q:Nat} (hb:b = if hd 45 L = true then 1 else 0) (hbq:b<=q) (hD:Dig (part L b q)) (hq:L[q]? = some 46) (h1:∀ c,L[q + 1]? = some c->isd c = false):readOf L = none:=by
 have e0:=cut45 hb
 have hdr:L.drop q = 46 :: L.drop (q + 1):=by
  have hlt:q < L.length:=by
   rcases Nat.lt_or_ge q L.length with h | h
   ·
    exact h
   ·
    rw [List.getElem?_eq_none h] at hq; cases hq
  rw [List.drop_eq_getElem_cons hlt]
  rw [List.getElem?_eq_getElem hlt] at hq
  rw [Option.some.inj hq]
 have hc:=cut_at hD (T:=L.drop q) (fun c hc => by rw [hdr] at hc; simp at hc; subst hc; decide)
 rw [<- part_app L b q hbq,<- e0] at hc
 have hp:pnt L = true:=by unfold pnt; rw [hc.2,hdr,hd_self]
 have hc2:=cut_at (D:=[]) (T:=L.drop (q + 1)) (fun c hc => by simp at hc) (noDig_head h1)
 rw [List.nil_append] at hc2
 have hbe:beh L = []:=by unfold beh; rw [if_pos hp,hc.2,hdr,cutB_self]; exact hc2.1
 exact read_no2 (.inr ⟨hp,hbe⟩)
theorem scan_point {L:List UInt8} {b q i:Nat} (hb:b = if hd 45 L = true then 1 else 0) (hl:L.length<=32) (hi:i<=L.length) (hbq:b < q) (hqi:q + 1 < i) (hD:Dig (part L b q)) (hq:L[q]? = some 46) (hB:Dig (part L (q + 1) i)) (h1:∀ c,L[i]? = some c->isd c = false):Scan L (hd 45 L) i (part L b q ++ part L (q + 1) i) (-((i - (q + 1):Nat):Int)):=by
 have e0:=cut45 hb
 have hdr:L.drop q = 46 :: L.drop (q + 1):=by
  have hlt:q < L.length:=by omega
  rw [List.drop_eq_getElem_cons hlt]
  rw [List.getElem?_eq_getElem hlt] at hq
  rw [Option.some.inj hq]
 have hc:=cut_at hD (T:=L.drop q) (fun c hc => by rw [hdr] at hc; simp at hc; subst hc; decide)
 rw [<- part_app L b q (by omega),<- e0] at hc
 have hp:pnt L = true:=by unfold pnt; rw [hc.2,hdr,hd_self]
 have hc2:=cut_at hB (noDig_head h1)
 rw [<- part_app L (q + 1) i (by omega)] at hc2
 have hbe:beh L = part L (q + 1) i:=by unfold beh; rw [if_pos hp,hc.2,hdr,cutB_self]; exact hc2.1
 have ht:tl L = L.drop i:=by unfold tl; rw [if_pos hp,hc.2,hdr,cutB_self]; exact hc2.2
 have hln:=part_len L b q (by omega)
 have hln2:=part_len L (q + 1) i hi
 have hne:part L b q ≠ []:=fun e => by rw [e] at hln; simp at hln; omega
 have hne2:part L (q + 1) i ≠ []:=fun e => by rw [e] at hln2; simp at hln2; omega
 refine ⟨hD.append hB,by simp [hne],by rw [List.length_append]; omega,fun h => read_no1 (by rw [ht]; exact h),fun x h => ?_⟩
 rw [read_yes hl (by rw [ht]; exact h) (by rw [hc.1,hbe]; simp [hne,hne2]),hc.1,hbe,hln2]
 rfl
theorem dv_zeros (D:List UInt8) (k:Nat):dv (D ++ List.replicate k 48) = dv D * 10 ^ k:=by
 induction k with
 | zero => simp
 | succ k ih => rw [List.replicate_succ',<- List.append_assoc,dv_snoc,ih,Nat.pow_succ,<- Nat.mul_assoc]; rfl
theorem trz_val {D:List UInt8} (h:Dig D):dv D = dv (trz D) * 10 ^ (D.length - (trz D).length)/\(trz D = []/\dv D = 0 ∨ trz D ≠ []/\dv (trz D) % 10 ≠ 0):=by
 obtain ⟨k,e,hh⟩:=trz_spec D
 have hl:D.length = (trz D).length + k:=by have:=congrArg List.length e; simpa using this
 refine ⟨?_,?_⟩
 ·
  rw [show D.length - (trz D).length = k by omega,<- dv_zeros,<- e]
 ·
  rcases hh with h0 | ⟨E,c,h1,hc⟩
  ·
   left
   refine ⟨h0,?_⟩
   rw [h0,List.nil_append] at e
   rw [e,<- List.nil_append (List.replicate k 48),dv_zeros]
   exact Nat.zero_mul _
  ·
   right
   refine ⟨by rw [h1]; simp,?_⟩
   rw [h1,dv_snoc]
   have hd:=h c (by rw [e,h1]; simp)
   have:c.toNat ≠ 48:=fun h => hc (UInt8.toNat_inj.1 h)
   omega
theorem ten_one {c c' z z':Nat} (h:c * 10 ^ z = c' * 10 ^ z') (hc:c % 10 ≠ 0) (hc':c' % 10 ≠ 0):c = c'/\z = z':=by
 rcases Nat.lt_trichotomy z z' with h1 | h1 | h1
 ·
  exfalso
  obtain ⟨d,rfl⟩:∃ d,z' = z + 1 + d:=⟨z' - z - 1,by omega⟩
  rw [show z + 1 + d = (d + 1) + z by omega,Nat.pow_add,<- Nat.mul_assoc] at h
  have:=Nat.eq_of_mul_eq_mul_right (Nat.pow_pos (by decide)) h
  rw [this,Nat.pow_succ,<- Nat.mul_assoc] at hc
  omega
 ·
  subst h1
  exact ⟨Nat.eq_of_mul_eq_mul_right (Nat.pow_pos (by decide)) h,rfl⟩
 ·
  exfalso
  obtain ⟨d,rfl⟩:∃ d,z = z' + 1 + d:=⟨z - z' - 1,by omega⟩
  rw [show z' + 1 + d = (d + 1) + z' by omega,Nat.pow_add,<- Nat.mul_assoc] at h
  have:=Nat.eq_of_mul_eq_mul_right (Nat.pow_pos (by decide)) h
  rw [<- this,Nat.pow_succ,<- Nat.mul_assoc] at hc'
  omega
theorem dig_lt {D:List UInt8} (h:Dig D):dv D < 10 ^ D.length:=by
 revert h
 refine snocInd (p:=fun D => Dig D->dv D < 10 ^ D.length) (fun _ => by decide) (fun l c ih h => ?_) D
 have h1:=ih (fun x hx => h x (by simp [hx]))
 have h2:=h c (by simp)
 rw [dv_snoc,List.length_append,List.length_singleton,Nat.pow_succ]
 omega
theorem hd_at' (s:ByteArray) (c:UInt8) (i:Nat) (h:i < s.size):hd c (s.data.toList.drop i) = decide (s[i].toNat = c.toNat):=by
 unfold hd
 rw [List.head?_drop,list_at s i h]
 by_cases e:s[i] = c
 ·
  simp [e]
 ·
  have:¬ s[i].toNat = c.toNat:=fun h => e (UInt8.toNat_inj.1 h)
  simp [e,this]
structure W3 (w wr:World) (p2 p7 p8:Nat) (sg:Bool) (ao:Option Addr) (k cap:Nat) (z:Nat) (aot:Option Addr) (nt capt:Nat):Prop where
 kp:Kept w wr
 r2:Row2 26 wr p2 (.int .i64 0) (.int .i64 0)
 r7:Row2 76 wr p7 (.bool sg) (.slice ao k cap)
 r8:Row2 76 wr p8 (.bool false) (.slice aot nt capt)
 na:D.NIs wr sg (.slice ao k cap) (z:Int)
 nten:D.NIs wr false (.slice aot nt capt) 10
 ntb:nt<=1
 kb:k<=200
 p7w:w.heap.size<=p7
 ne27:¬ p2 = p7
 ne87:¬ p8 = p7
theorem W3.kept {w wr wr':World} {p2 p7 p8:Nat} {sg:Bool} {ao:Option Addr} {k cap:Nat} {z:Nat} {aot:Option Addr} {nt capt:Nat} (h:W3 w wr p2 p7 p8 sg ao k cap z aot nt capt) (q:Kept wr wr'):W3 w wr' p2 p7 p8 sg ao k cap z aot nt capt :=
 ⟨h.kp.trans q,h.r2.kept q,h.r7.kept q,h.r8.kept q,h.na.kept q,h.nten.kept q,h.ntb,h.kb,h.p7w,h.ne27,h.ne87⟩
theorem W3.put {w wr:World} {p2 p7 p8:Nat} {sg:Bool} {ao:Option Addr} {k cap:Nat} {z:Nat} {aot:Option Addr} {nt capt:Nat} (h:W3 w wr p2 p7 p8 sg ao k cap z aot nt capt) {sg':Bool} {ao':Option Addr} {k' cap' z':Nat} (hn:D.NIs wr sg' (.slice ao' k' cap') (z':Int)) (hk:k'<=200) :
  W3 w ((wr.setCell ⟨p7,0,none⟩ (.bool sg')).setCell ⟨p7,1,none⟩ (.slice ao' k' cap')) p2 p7 p8 sg' ao' k' cap' z' aot nt capt :=
 ⟨Kept.put2 h.kp h.p7w _ _,h.r2.far h.ne27 _ _,h.r7.set2 _ _,h.r8.far h.ne87 _ _,hn.box2 h.r7.c0 h.r7.c1 _ _,h.nten.box2 h.r7.c0 h.r7.c1 _ _,h.ntb,hk,h.p7w,h.ne27,h.ne87⟩
set_option maxRecDepth 100000 in
set_option maxHeartbeats 32000000 in
theorem rparse_nil (s:ByteArray) (w:World) (hs0:s.size = 0) :
  Calls Tryz.prog 23 #[.string s] w fun e w' => Kept w w'/\e = numE (parseOf s.data.toList):=by
 have hL:s.data.toList = []:=List.eq_nil_of_length_eq_zero (by rw [Array.length_toList]; exact hs0)
 have HN:Hid (parseOf s.data.toList = (0,0,3)):=by show _ = _; rw [hL]; decide
 have hsi:(s.size:Int) = 0:=by omega
 clear hL hs0
 go_enter Tryz.func23,Tryz.ntmps23
 go_upto_region 9 with fail
 have hK:=((Kept.refl w).alloc (.cells #[.int .i64 0,.int .i64 0] 26)).alloc (.cells #[.bool false,.slice none 0 0] 76)
 have hR2:=(Row2.alloc 26 w (.int .i64 0) (.int .i64 0)).kept ((Kept.refl _).alloc (.cells #[.bool false,.slice none 0 0] 76))
 have hR7:=Row2.alloc 76 (w.alloc (.cells #[.int .i64 0,.int .i64 0] 26)) (.bool false) (.slice none 0 0)
 rw [World.size_alloc] at hR7
 generalize (w.alloc (.cells #[.int .i64 0,.int .i64 0] 26)).alloc (.cells #[.bool false,.slice none 0 0] 76) = W at hK hR2 hR7 ⊢
 obtain ⟨p7,hp7⟩:∃ p,p = w.heap.size + 1:=⟨_,rfl⟩
 rw [<- hp7] at hR7 ⊢
 obtain ⟨p2,hp2⟩:∃ p,p = w.heap.size:=⟨_,rfl⟩
 rw [<- hp2] at hR2 ⊢
 have HP2:Hid (w.heap.size<=p2):=by show _<=_; omega
 have hne:=hid' (show w.heap.size<=p7/\¬ p2 = p7 by omega)
 have hK:=hid' hK
 have hR2:=hid' hR2
 have hR7:=hid' hR7
 clear hp7 hp2
 go_wp2_with fail
 refine (D.small_num 10 _ (by omega) (by omega)).mono ?_
 rintro e w1 ⟨hk1,aot,nt,capt,rfl,hN1,hnt⟩
 go_upto_region 10 with fail
 have hR8:=Row2.alloc 76 w1 (.bool false) (.slice aot nt capt)
 have hKa:=(Kept.refl w1).alloc (.cells #[.bool false,.slice aot nt capt] 76)
 have HW0:Hid (W3 w (w1.alloc (.cells #[.bool false,.slice aot nt capt] 76)) p2 p7 w1.heap.size false none 0 0 0 aot nt capt) :=
  ⟨hK.out.trans (hk1.trans hKa),hR2.out.kept (hk1.trans hKa),hR7.out.kept (hk1.trans hKa),hR8,⟨[],D.Sl.nil _ _ _,⟨D.Bd_nil,.inl rfl,fun _ => rfl⟩,rfl⟩,hN1.kept hKa,hnt,by omega,hne.out.1,hne.out.2,by have:=(hR7.out.kept hk1).lt; omega⟩
 generalize w1.alloc (.cells #[.bool false,.slice aot nt capt] 76) = W1 at HW0 ⊢
 obtain ⟨p8,hp8⟩:∃ p,p = w1.heap.size:=⟨_,rfl⟩
 rw [<- hp8] at HW0 ⊢
 clear hp8 hR8 hKa hR2 hR7 hK hk1 hN1 hnt hne
 go_wp2_with fail
 go_loopw [4] (fun vi wr => vi = .int .i64 0/\∃ (sg:Bool) (ao:Option Addr) (k cap:Nat),Hid (W3 w wr p2 p7 p8 sg ao k cap 0 aot nt capt)) (fun _ _ => 0)
 case atStart => exact ⟨rfl,false,none,0,0,HW0.out⟩
 case round =>
  obtain ⟨rfl,sg,ao,k,cap,HI⟩:=hrel
  obtain ⟨r0,r1,r2,r3⟩:=HI.out.r2.all
  go_wp2_with fail
  exact bodyPost_ret (v:=.tuple #[.agg #[.int .i64 0,.int .i64 0],.int .i64 3]) (by simp [results,Tryz.results23,go_sem,r0,r1]) rfl ⟨Kept.put2 HI.out.kp HP2.out _ _,by rw [HN.out]; rfl⟩
set_option maxRecDepth 100000 in
set_option maxHeartbeats 4000000 in
theorem rparse_long (s:ByteArray) (w:World) (hs:s.size<=maxLen) (hl:32 < s.size) :
  Calls Tryz.prog 23 #[.string s] w fun e w' => Kept w w'/\e = numE (parseOf s.data.toList):=by
 unfold maxLen at hs
 have HN:=hid' (parseOf_none (read_no0 (L:=s.data.toList) (by rw [Array.length_toList]; exact hl)))
 have hgt:(32:Int) < (s.size:Int):=by omega
 go_enter Tryz.func23,Tryz.ntmps23
 go_wp2_with fail
 exact bodyPost_ret (v:=.tuple #[.agg #[.int .i64 0,.int .i64 0],.int .i64 3]) (by simp [results,Tryz.results23,go_sem]) rfl ⟨(Kept.refl w).alloc _,by rw [HN.out]; rfl⟩
end Q
end Go.Proofs.YtihnknnddldgiaaGreatDoor
namespace Go.Proofs.YtihnknnddldgiaaGreatDoor
open Go.ChangeShapes Go.WideShapes Go.ChangeAt Go.RowKit Go.Joins
namespace Q
theorem own:ownKnob Tryz.prog.godebug = none:=by kernel_rfl
theorem laidOut:laidOutB Tryz.prog = true:=by kernel_rfl
def pairsD (ps:List (List UInt8 × Int)):DataW Unit:=.agg (ps.map fun p => .agg [.lit (.string p.1),.lit (.int .i64 p.2)])
theorem cells_of_pairs {P:Program} {w:World} {base:Nat} {sp:Nat->Bool} {held:Bool} {enc:TypeId × Value->Unit} {fuel:Nat} {t e ts ti:TypeId} {n:Nat} {f0 f1:Field} {cs:List Value} {ps:List (List UInt8 × Int)} {p:List MemPlace}
  (ht:P.underlying t = some (.array n e)) (he:P.underlying e = some (.struct #[f0,f1])) (h0:f0.type = ts) (h1:f1.type = ti) (o0:f0.offset = 0) (o1:f1.offset = 1) (hs:P.underlying ts = some .string) (hi:P.underlying ti = some (.int .i64))
  (hcs:P.cellsOf ts = 1) (hci:P.cellsOf ti = 1) (hce:P.cellsOf e = 2) (hct:P.cellsOf t = 2 * n)
  (h:DataW.trod enc P w base sp held fuel t cs = some (pairsD ps,p)):∀ (i:Nat) (q:List UInt8 × Int),ps[i]? = some q->cs[2 * i]? = some (.string ⟨q.1.toArray⟩)/\cs[2 * i + 1]? = some (.int .i64 q.2):=by
 cases fuel with
 | zero => simp [DataW.trod] at h
 | succ fuel =>
  simp only [DataW.trod,ht,hce,hct] at h
  split at h
  ·
   obtain ⟨xs,hm,hx⟩:=Option.map_eq_some_iff.1 h
   have hxs:xs.map (·.1) = ps.map fun p => (DataW.agg [.lit (.string p.1),.lit (.int .i64 p.2)]:DataW Unit):=by
    have:=congrArg Prod.fst hx
    simpa [pairsD] using this
   have hxl:xs.length = n:=by simpa using Lib.mapM_length hm
   intro i q hq
   have hzl:ps.length = n:=by
    have:=congrArg List.length hxs
    simp at this
    omega
   have hin:i < n:=by
    rcases Nat.lt_or_ge i ps.length with h | h
    ·
     omega
    ·
     rw [List.getElem?_eq_none h] at hq; cases hq
   obtain ⟨b,hb,hf⟩:=Lib.mapM_at hm i i (by simp [hin])
   have h2:(xs.map (·.1))[i]? = some b.1:=by simp [hb]
   rw [hxs,List.getElem?_map,hq] at h2
   simp only [Option.map_some,Option.some.injEq] at h2
   obtain ⟨b1,b2⟩:=b
   simp only at h2
   subst h2
   cases fuel with
   | zero => simp [DataW.trod] at hf
   | succ fuel =>
    simp only [DataW.trod,he,hce] at hf
    split at hf
    ·
     simp only [List.mapM_cons,List.mapM_nil,h0,h1,o0,o1,hcs,hci,Option.map_eq_some_iff,Option.bind_eq_bind,Option.bind_eq_some_iff,Option.pure_def,Option.some.injEq] at hf
     obtain ⟨ys,⟨y0,hy0,zs,⟨y1,hy1,us,rfl,rfl⟩,rfl⟩,hys⟩:=hf
     obtain ⟨s,e0,rfl,_⟩:=DataW.trod_string hs hy0
     obtain ⟨z,e1,rfl,_⟩:=DataW.trod_int hi hy1
     simp only [List.map_cons,List.map_nil,Prod.mk.injEq,DataW.agg.injEq,List.cons.injEq,DataW.lit.injEq,Lit.string.injEq,Lit.int.injEq,and_true,true_and] at hys
     obtain ⟨⟨e2,e3⟩,_⟩:=hys
     constructor
     ·
      have:=congrArg (·[0]?) e0
      simp only [List.drop_zero,List.getElem?_take,List.getElem?_drop] at this
      rw [<- e2]
      simpa [Nat.mul_comm] using this
     ·
      have:=congrArg (·[0]?) e1
      simp only [List.getElem?_take,List.getElem?_drop] at this
      rw [<- e3]
      simpa [Nat.mul_comm] using this
    ·
     cases hf
  ·
   cases h
theorem gPow : Tryz.prog.globalNamed "internal/strconv.uint64pow10" = some 2 := by kernel_rfl
theorem gPowType:(Tryz.prog.globals[2]?).map (·.type) = some 207:=by kernel_rfl
theorem gLet : Tryz.prog.globalNamed "shunt/num.letters" = some 1 := by kernel_rfl
theorem gLetType:(Tryz.prog.globals[1]?).map (·.type) = some 162:=by kernel_rfl
theorem gErr : Tryz.prog.globalNamed "strconv.ErrRange" = some 4 := by kernel_rfl
theorem gErrType:(Tryz.prog.globals[4]?).map (·.type) = some 131:=by kernel_rfl
def laidL : List (String × DataW Unit) := [("math/bits.deBruijn32tab", Rows.laid_math_bits_deBruijn32tab), ("math/bits.deBruijn64tab", Rows.laid_math_bits_deBruijn64tab), ("internal/strconv.uint64pow10", Rows.laid_internal_strconv_uint64pow10), ("unicode/utf8.acceptRanges", Rows.laid_unicode_utf8_acceptRanges), ("strconv.ErrRange", Rows.laid_strconv_ErrRange), ("strconv.ErrSyntax", Rows.laid_strconv_ErrSyntax), ("shunt/num.letters", Rows.laid_shunt_num_letters), ("unicode/utf8.first", Rows.laid_unicode_utf8_first)]
theorem lay_of {W:World} (h:laidMetH Tryz.prog laidL W):Lay W:=by
 rw [MakeChecks.laidMetH_plain _ _ _ (by kernel_rfl)] at h
 have h2 : laidMet Tryz.prog (("internal/strconv.uint64pow10", Lib.tabData .u64 Lib.pow10Tab) :: [("unicode/utf8.acceptRanges", Rows.laid_unicode_utf8_acceptRanges), ("strconv.ErrRange", Rows.laid_strconv_ErrRange), ("strconv.ErrSyntax", Rows.laid_strconv_ErrSyntax), ("shunt/num.letters", Rows.laid_shunt_num_letters), ("unicode/utf8.first", Rows.laid_unicode_utf8_first)]) W := laidMet.tail (laidMet.tail h)
 have h4 : laidMet Tryz.prog [("strconv.ErrRange", Rows.laid_strconv_ErrRange), ("strconv.ErrSyntax", Rows.laid_strconv_ErrSyntax), ("shunt/num.letters", Rows.laid_shunt_num_letters), ("unicode/utf8.first", Rows.laid_unicode_utf8_first)] W := laidMet.tail (laidMet.tail h2)
 have h6 : laidMet Tryz.prog (("shunt/num.letters", pairsD names) :: [("unicode/utf8.first", Rows.laid_unicode_utf8_first)]) W := laidMet.tail (laidMet.tail h4)
 refine ⟨?_,?_,Lib.tabIs_of_head gPow gPowType Tryz.underlying207 Tryz.underlying108 (by kernel_rfl) (by kernel_rfl) h2⟩
 ·
  obtain ⟨ps,⟨g',t',cs,fuel,p,q,hg',ht',hvar,hd,_,_⟩,_⟩:=h6
  obtain rfl:=Option.some.inj (gLet.symm.trans hg')
  obtain rfl:=Option.some.inj (gLetType.symm.trans ht')
  have hc:=cells_of_pairs Tryz.underlying162 Tryz.underlying138 rfl rfl rfl rfl Tryz.underlying9 Tryz.underlying3 (by kernel_rfl) (by kernel_rfl) (by kernel_rfl) (by kernel_rfl) hd
  intro j v hj
  rw [Nat.zero_add]
  show W.cell? ⟨1,j,none⟩ = some v
  rw [World.var?_cell gLet hvar j,<- Array.getElem?_toList]
  have hj20:j < 20:=by
   rcases Nat.lt_or_ge j 20 with h | h
   ·
    exact h
   ·
    rw [List.getElem?_eq_none (by simpa [lcs] using h)] at hj; cases hj
  match j,hj20,hj with
  | 0,_,hj => cases hj; exact (hc 0 _ rfl).1
  | 1,_,hj => cases hj; exact (hc 0 _ rfl).2
  | 2,_,hj => cases hj; exact (hc 1 _ rfl).1
  | 3,_,hj => cases hj; exact (hc 1 _ rfl).2
  | 4,_,hj => cases hj; exact (hc 2 _ rfl).1
  | 5,_,hj => cases hj; exact (hc 2 _ rfl).2
  | 6,_,hj => cases hj; exact (hc 3 _ rfl).1
  | 7,_,hj => cases hj; exact (hc 3 _ rfl).2
  | 8,_,hj => cases hj; exact (hc 4 _ rfl).1
  | 9,_,hj => cases hj; exact (hc 4 _ rfl).2
  | 10,_,hj => cases hj; exact (hc 5 _ rfl).1
  | 11,_,hj => cases hj; exact (hc 5 _ rfl).2
  | 12,_,hj => cases hj; exact (hc 6 _ rfl).1
  | 13,_,hj => cases hj; exact (hc 6 _ rfl).2
  | 14,_,hj => cases hj; exact (hc 7 _ rfl).1
  | 15,_,hj => cases hj; exact (hc 7 _ rfl).2
  | 16,_,hj => cases hj; exact (hc 8 _ rfl).1
  | 17,_,hj => cases hj; exact (hc 8 _ rfl).2
  | 18,_,hj => cases hj; exact (hc 9 _ rfl).1
  | 19,_,hj => cases hj; exact (hc 9 _ rfl).2
 ·
  obtain ⟨ps,⟨g',t',cs,fuel,p,q,hg',ht',hvar,hd,_,_⟩,_⟩:=h4
  obtain rfl:=Option.some.inj (gErr.symm.trans hg')
  obtain rfl:=Option.some.inj (gErrType.symm.trans ht')
  obtain ⟨_,u,v,hcs,_,_⟩:=iface_of_trod Tryz.underlying131 hd
  refine ⟨u,v,?_⟩
  rw [World.var?_cell gErr hvar 0,<- Array.getElem?_toList,hcs]; rfl
end Q
end Go.Proofs.YtihnknnddldgiaaGreatDoor
